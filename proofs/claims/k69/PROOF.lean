import PyProof.Rows.All
import Wide.All
import OpenK.AllK
import Wide.FinOn
import PySem.Challenge.RW_crossheaps_k69_scripts_read_and_shown
import HandS.ForMost
import HandS.Evl
import HandS.SortRule
import HandS.SortInts
import HandS.Conv
import HandS.Wide
import HandS.Steps
import HandS.TryOnly
import HandS.Text
import HandS.StrMore
import HandS.Base
import HandS.List
import HandS.FStrTup
import HandS.Iter
import HandS.Walk
import HandS.DictTup
import KE.KDictWalk
import KE.KPairComp
import HandS.SetKeys
import HandS.IsInst
import HandS.Star
import HandS.DictComp
import HandS.Style
import HandS.Flow
import HandS.SetFor
import HandS.CallLocal
import HandS.Dict
import HandS.More
import HandS.HeadHook3
set_option Elab.async false
set_option linter.all false
set_option maxRecDepth 100000
set_option maxHeartbeats 8000000
/-! Promises of defs that run where no repr is under way, the law's end for such a promise, repr of data. -/
namespace Gd
open PySem PySem.Spec PyProof.Rows L2
/-- a promise that is kept wherever no repr is under way -/
structure FnG (P : Program) (w : World) (K : PySem.W.Frag) (mg : Str → Option Value) (base : Heap) (CX : CXT) (k : Nat) (f : Addr) (fd : FuncData) (ps : List Str) (sp : Sp) : Prop where
  arity : ∀ vs H Q E, sp vs H Q E → vs.length = ps.length
  go : ∀ A, Room k A → A.guards = some [] → ∀ outer s H args us vs Q E, Env0 P w K mg base A outer s H →
    BindsTo s fd args (ps.zip us) → Vals vs us → sp vs H Q E →
      codeAny (model P w) A (.call (.ref f) args) (CR CX outer P w H s Q E) s
section
variable {P : Program} {w : World} {K : PySem.W.Frag} {mg : Str → Option Value} {base : Heap} {CX : CXT} {k : Nat} {f : Addr} {fd : FuncData} {ps : List Str} {sp : Sp}
theorem FnG.of (F : FnOk P w K mg base CX k f fd ps sp) : FnG P w K mg base CX k f fd ps sp :=
  ⟨F.len, fun A r _ outer s H args us vs Q E e b v p => F.run A outer s H args us vs Q E r e b v p⟩
theorem FnG.up {j : Nat} (F : FnG P w K mg base CX j f fd ps sp) (h : j ≤ k) : FnG P w K mg base CX k f fd ps sp :=
  ⟨F.arity, fun A r g => F.go A (r.mono h) g⟩
/-- from the body, which may know that no repr is under way -/
theorem fng_of {x qual : Str} {st : Stmt} {N : List Str} (F : Fun K x qual st f fd) (S : FnScope N ps (defScope st)) (ar : ∀ vs H Q E, sp vs H Q E → vs.length = ps.length)
    (body : ∀ (cdv : Value) (A : Around) (outer : List Env) (s : Shared) (H : Hp) (vs : List V) (Q : VK) (E : XK), Room k (A.deeper (envOfC qual (defScope st) s.heap.objs.size f cdv)) → A.guards = some [] → sp vs H Q E →
      ∃ t, PSs (cxOf CX P w K mg base N qual (defScope st) f cdv A outer s H E) (defBody st) t ∧ t { nx := fun _ H' => Q .non H', rt := Q } (start N vs) H) :
    FnG P w K mg base CX (k + 1) f fd ps sp := by
  obtain ⟨⟨oc, od, kV, doc, pm, an, cdv, ct, osl, rfl, look, code⟩, _⟩ := F
  refine ⟨ar, fun A room gd outer s H args us vs Q E env bind rel want => ?_⟩
  have inK : K.In s.heap := env.mod.kin.keeps (fun b o h => (env.bs b o h).1)
  have free : s.heap.NoLimit := env.mod.nolimit.keeps (fun b o h => (env.bs b o h).1)
  have hv := ar vs H Q E want
  refine Att.call_fn inK free look code room.depth bind ?_ (fun s1 inside => ?_) S.co S.gen S.kind
  · refine List.all_eq_true.mpr fun y hy => ?_
    have hp := S.par y.1 (List.of_mem_zip (show (y.1, y.2) ∈ ps.zip us from hy)).1
    rcases hp with q | q
    · rw [q]; rfl
    · rw [q]; rfl
  · obtain ⟨t, derive, reads⟩ := body cdv A outer s H vs Q E (room.deeper _) gd want
    have inv := inv_start (CX := CX) (E := E) S room.hd env hv rel inside
    refine wpAny_mono (derive.run [] s1 (start N vs) H _ inv reads) ?_ (fun _ _ left => left)
    intro flow s2 post
    cases flow with
    | brk => exact (post.choose_spec.choose_spec).2.elim
    | cont => exact (post.choose_spec.choose_spec).2.elim
    | next =>
      obtain ⟨_, H2, J, q⟩ := post
      exact ⟨.non, H2, J.os, J.bare, J.base, J.hok, rfl, q⟩
    | ret u =>
      obtain ⟨v, _, H2, J, rv, q⟩ := post
      exact ⟨v, H2, J.os, J.bare, J.base, J.hok, rv, q⟩
end
end Gd
namespace Gd
open PySem PySem.Spec PyProof.Rows L2
section
variable {X : Cx} {CX : CXT} {k : Nat} {f : Addr} {fd : FuncData} {ps : List Str} {sp : Sp} {dvs : List V} {ds : List Value} {E : XK}
/-- the callee runs, as run_fn says it, where no repr is under way -/
theorem runG {pins : List (Addr × Obj)} {σ : L2.St} {H : Hp} {s : Shared} {Q : VK} {us : List Value} {vs : List V} (F : FnG X.prog X.w X.K X.mg X.base CX k f fd ps sp) (room : Room k X.A) (gd : X.A.guards = some [])
    (bind : Binds X.K fd ps ds) (dflt : Vals dvs ds) (pass : Passes CX X E) (I : Inv X pins σ H s) (rel : Vals vs us) (want : sp (vs ++ dvs) H Q E) :
    wpAny (model X.prog X.w) X.A (call (.ref f) us) (EP X pins σ Q) X.xe s := by
  have rel2 := rel.append dflt
  have many : (us ++ ds).length = ps.length := rel2.length.symm.trans (F.arity _ _ _ _ want)
  have ran := F.go X.A room gd X.stack s H ⟨us, []⟩ _ _ Q E I.env0 (bind s us I.kIn many) rel2 want
  refine wpAny_call (codeAny_mono ran ?_)
  intro r s2 post
  rcases r with err | flow
  · exact pass _ _ _ _ _ _ I post
  · cases flow with
    | ret u => exact I.after post
    | next => exact post.elim
    | brk => exact post.elim
    | cont => exact post.elim
theorem pe_callG {x : Str} {p pos : Pos} {e : Expr} {es : List Expr} {t : TA} (F : FnG X.prog X.w X.K X.mg X.base CX k f fd ps sp) (room : Room k X.A) (gd : X.A.guards = some []) (isGl : Gl X x) (at_ : X.mg x = some (.ref f))
    (kept : PySem.W.keepIn X.K (.ref f) = true) (bind : Binds X.K fd ps ds) (dflt : Vals dvs ds) (pass : Passes CX X E)
    (args : PA X (e :: es) t) (nodbg : (x == ("__debug__" : Str)) = false := by decide) (star : starEach (e :: es) X.env = (false, eval e X.env) :: starEach es X.env := by rfl) (plain : (backTo pos (starEach es X.env)).any (·.1) = false := by rfl) :
    PE X (.Call (.Name x p) (e :: es) [] pos) (tCall sp dvs E t) := by
  constructor
  intro pins s σ H Q I want
  refine wpAny_Call_Name_kw (ld_glob I isGl at_ ?_ nodbg)
  refine PySem.W.callWith_K (h₀ := X.base) I.ok.mod.kin kept ?_ star plain
  refine thn (args.run pos pins s σ H _ I want) ?_
  rintro us s1 ⟨vs, H1, I1, rel, q⟩
  exact ⟨I1.kIn, runG F room gd bind dflt pass I1 rel q⟩
end
/-! ### the law's end -/
/-- the script as the only thing that is tracked -/
def scriptAt (a : Addr) (o : Obj) (xs : List V) : Hp := fun b => if b = a then some (.frz o (.lst xs)) else none
theorem scriptAt_same {a : Addr} {o : Obj} {xs : List V} : scriptAt a o xs a = some (.frz o (.lst xs)) := if_pos rfl
theorem scriptAt_some {a b : Addr} {o : Obj} {xs : List V} {u : HO} (h : scriptAt a o xs b = some u) : b = a ∧ u = .frz o (.lst xs) := by
  unfold scriptAt at h
  by_cases e : b = a
  · rw [if_pos e] at h
    exact ⟨e, (Option.some.inj h).symm⟩
  · rw [if_neg e] at h
    cases h
theorem scriptAt_ne {a b : Addr} {o : Obj} {xs : List V} (h : b ≠ a) : scriptAt a o xs b = none := if_neg h
section
variable {P : Program} {w : World} {K : PySem.W.Frag} {mg mb : Str → Option Value} {CX : CXT} {k : Nat} {fa a : Addr} {fd : FuncData} {x : Str} {sp : Sp} {s1 : Shared} {vs : List Value} {ns : List Int}
/-- the law's call, from an abstract heap that tracks at most the script -/
theorem law_from {H : Hp} {o : Obj} (own : ∀ b u, H b = some u → b = a ∧ u = .frz o (.lst (ns.map V.int))) (offK : H a ≠ none → K.lookup a = none)
    (inK : K.In s1.heap) (glob : s1.heap.Ns mainGlobals mg) (blt : s1.heap.Ns builtinsNs mb) (std : ∀ x : Str, x ≠ "__name__" → mb x = bootBuiltins x) (free : s1.heap.NoLimit) (nogen : s1.gens = #[])
    (here : s1.heap.get? a = some { cls := .type "list", data := .seq vs.toArray }) (ho : o = { cls := .type "list", data := .seq vs.toArray }) (ok : HOk P w H s1.heap) (room : Room k callerA)
    (F : ∀ base : Heap, K.In base → base.Ns mainGlobals mg → FnG P w K mg base CX k fa fd [x] sp) (bind : ∀ (s : Shared) (u : Value), BindsTo s fd ⟨[u], []⟩ [(x, u)])
    (want : sp [.ref a] H (fun v _ => v = .bl true) fun _ _ _ => False) (noX : ∀ e s2, CX [] H s1 (fun _ _ _ => False) e s2 → False) :
    codeAny (model P w) callerA (.call (.ref fa) ⟨[.ref a], []⟩) (fun r s2 => r = .ok (.ret (.bool true)) ∧ OldK s1.heap s2.heap ∧ s2.os = s1.os ∧ AllBare s2.gens) s1 := by
  have dicts : ∀ {b : Addr} {m : Str → Option Value}, s1.heap.Ns b m → (hidT s1.heap H).Ns b m := by
    rintro b m ⟨ob, es, ep, gb, isD, r⟩
    refine ⟨ob, es, ep, hidT_get gb ?_, isD, r⟩
    cases hb : H b with
    | none => rfl
    | some u =>
      obtain ⟨rfl, _⟩ := own b u hb
      rw [here] at gb
      have e := Option.some.inj gb
      rw [← e] at isD
      cases isD
  have inB : K.In (hidT s1.heap H) := by
    intro b ob hb
    refine hidT_get (inK b ob hb) ?_
    cases hh : H b with
    | none => rfl
    | some u =>
      obtain ⟨rfl, _⟩ := own b u hh
      rw [offK (by rw [hh]; exact Option.some_ne_none _)] at hb
      cases hb
  have md : Mod K mg (hidT s1.heap H) := ⟨inB, dicts glob, ⟨mb, dicts blt, std⟩, free.imp fun _ h => ⟨dicts h.1, h.2⟩⟩
  have env : Env0 P w K mg (hidT s1.heap H) callerA [] s1 H := by
    refine ⟨rfl, md, fun b ob hb => of_hidT hb, Nat.le_of_eq (hidT_size _ _), trivial, ?_, ok, .of_eq nogen⟩
    intro b hb
    cases hb
  have ran := (F _ inB (dicts glob)).go callerA room rfl [] s1 H ⟨[.ref a], []⟩ [.ref a] [.ref a] _ _ env (bind s1 (.ref a)) (.cons rfl .nil) want
  refine codeAny_mono ran ?_
  intro r s2 post
  rcases r with err | flow
  · exact (noX _ _ post).elim
  · cases flow with
    | next => exact post.elim
    | brk => exact post.elim
    | cont => exact post.elim
    | ret u =>
      obtain ⟨v, H2, eos, eb, ch, ok2, rv, rfl⟩ := post
      have eu : u = Value.bool true := rv
      refine ⟨by rw [eu], OldK.of_keep (fun b ob hb => ?_), eos, eb⟩
      cases hh : H b with
      | none => exact ch.keep b ob hb hh (fun z => nomatch z) (fun z => nomatch z)
      | some u2 =>
        obtain ⟨rfl, rfl⟩ := own b u2 hh
        have a1 := (ok b _ hh).1
        have a2 := (ok2 b _ (ch.frzs b o _ hh)).1
        rw [hb] at a1
        exact a2.trans a1.symm
theorem law_callG (inK : K.In s1.heap) (glob : s1.heap.Ns mainGlobals mg) (blt : s1.heap.Ns builtinsNs mb) (std : ∀ x : Str, x ≠ "__name__" → mb x = bootBuiltins x) (free : s1.heap.NoLimit) (nogen : s1.gens = #[])
    (here : s1.heap.get? a = some { cls := .type "list", data := .seq vs.toArray }) (isI : IntsAre vs ns) (many : ns.length ≤ sizeLine) (room : Room k callerA)
    (F : ∀ base : Heap, K.In base → base.Ns mainGlobals mg → FnG P w K mg base CX k fa fd [x] sp) (bind : ∀ (s : Shared) (u : Value), BindsTo s fd ⟨[u], []⟩ [(x, u)])
    (want : ∀ H : Hp, Only H → SqL K H a (ns.map V.int) → sp [.ref a] H (fun v _ => v = .bl true) fun _ _ _ => False) (noX : ∀ H e s2, CX [] H s1 (fun _ _ _ => False) e s2 → False) :
    codeAny (model P w) callerA (.call (.ref fa) ⟨[.ref a], []⟩) (fun r s2 => r = .ok (.ret (.bool true)) ∧ OldK s1.heap s2.heap ∧ s2.os = s1.os ∧ AllBare s2.gens) s1 := by
  have rel := vals_ints isI
  cases inMod : K.lookup a with
  | some o =>
    have same : o = { cls := .type "list", data := .seq vs.toArray } := Option.some.inj ((inK a o inMod).symm.trans here)
    subst same
    have sq : SqL K (fun _ => none) a (ns.map V.int) := .inr ⟨_, vs.toArray, _, inMod, rfl, rfl, rfl, by rw [List.size_toArray, isI.length]; exact many, by simpa using rel⟩
    refine law_from (H := fun _ => none) (o := { cls := .type "list", data := .seq vs.toArray }) (ns := ns) (fun _ _ h => nomatch h) (fun h => absurd rfl h) inK glob blt std free nogen here rfl (fun _ _ h => nomatch h) room F bind (want _ (fun _ => .inl rfl) sq) (noX _)
  | none =>
    refine law_from (H := scriptAt a { cls := .type "list", data := .seq vs.toArray } (ns.map V.int)) (fun _ _ h => scriptAt_some h) (fun _ => inMod) inK glob blt std free nogen here rfl ?_ room F bind (want _ (fun b => ?_) (.inl (.inr ⟨_, scriptAt_same⟩))) (noX _)
    · intro b u h
      obtain ⟨rfl, rfl⟩ := scriptAt_some h
      exact ⟨here, by rw [List.length_map]; exact many, vs, _, rel, here⟩
    · cases h : scriptAt a { cls := .type "list", data := .seq vs.toArray } (ns.map V.int) b with
      | none => exact .inl rfl
      | some u => exact .inr ⟨_, _, by rw [(scriptAt_some h).2]⟩
end
/-- what k_head leaves, from a promise that is kept where no repr is under way -/
theorem walkG {l : PySem.W.OpenLaw} {n k : Nat} {q : Program} {loose : List Str} {XP : (Str → Option Value) → Heap → Prop} {YP : World → Heap → Prop} {d : DefRec} {K : Params → PySem.W.Frag} {CX : World → CXT} {sp : World → Sp} {x : Str}
    (most : l.most = some n) (small : n ≤ sizeLine) (nodef : d.params.defaults = []) (room : Room k callerA) (kin : ∀ (w : World) (h : Heap), YP w h → (K w.params).In h)
    (F : ∀ (w : World) (mg : Str → Option Value) (fa : Addr) (h : Heap), (K w.params).In h → h.Ns mainGlobals mg → mg d.name = some (.ref fa) →
      ∃ fd : FuncData, (∀ (s : Shared) (u : Value), BindsTo s fd ⟨[u], []⟩ [(x, u)]) ∧ ∀ base : Heap, (K w.params).In base → base.Ns mainGlobals mg → FnG l.prog w (K w.params) mg base (CX w) k fa fd [x] (sp w))
    (want : ∀ (w : World) (H : Hp) (a : Addr) (ns : List Int), ns.length ≤ n → Only H → SqL (K w.params) H a (ns.map V.int) → sp w [.ref a] H (fun v _ => v = .bl true) fun _ _ _ => False)
    (noX : ∀ (w : World) (H : Hp) (s : Shared) (e : Value) (s2 : Shared), CX w [] H s (fun _ _ _ => False) e s2 → False) :
    PySem.W.WalkO q loose XP YP l.row.toRowW d [] (fun f vs => PySem.call f vs) := by
  apply Att.attach_call most nodef
  intro w s0 s1 mg mb fa o pm cd doc a vs ns G Y go isF code named here isI many nogen
  have inK := kin w _ Y
  obtain ⟨fd, bind, hF⟩ := F w mg fa _ inK G.T.g named
  exact law_callG inK G.T.g G.T.b G.T.builtins G.T.nolimit nogen here isI (Nat.le_trans many small) room hF bind (fun H only sq => want w H a ns many only sq) (fun H e s2 => noX w H s1 e s2)
section
variable {X : Cx}
/-- repr of data without dicts -/
def rReprD (K : PySem.W.Frag) : List V → Hp → VK → Prop := fun xs H Q => ∃ x d, xs = [x] ∧ Dp K H x d ∧ d.showable = true ∧ d.hasDict = false ∧ d.depth ≤ 40 ∧ d.shown.length ≤ sizeLine ∧ Q (.str d.shown) H
theorem call_reprD (gd : X.A.guards = some []) (un : X.A.units + 64 < cLine) : CallR X (.builtin "repr") (rReprD X.K) := by
  rintro pins s σ H xs us Q I rel ⟨x, d, rfl, hd, sh, nod, dep, sz, q⟩
  obtain ⟨u, rfl, rv⟩ := vals1 rel
  obtain ⟨as, reads⟩ := Dp.reads I d x u hd rv
  cases hd with
  | non =>
    cases rv
    refine PySem.P.repr_of_none ?_
    exact ⟨.str "None", H, I.tok _, ⟨_, rfl⟩, q⟩
  | bl b =>
    cases rv
    refine PySem.P.repr_of_bool ?_
    exact ⟨.str (if b then "True" else "False"), H, I.tok _, ⟨_, rfl⟩, q⟩
  | int i =>
    obtain ⟨t, rfl⟩ := rv
    refine PySem.P.repr_of_int ?_ ⟨.str _, H, I.tok _, ⟨_, rfl⟩, q⟩
    simpa [PyData.showable] using sh
  | str z =>
    obtain ⟨t, rfl⟩ := rv
    exact PySem.P.repr_of_str ⟨.str _, H, I.tok _, ⟨_, rfl⟩, q⟩ sz
  | lst h1 h2 =>
    cases rv
    exact repr_of_reads' reads sh (PyData.noDict_hsm nod) gd (by omega) (fun _ _ e => e) (fun h2 u2 tk keep => ⟨.str _, H, I.kept keep, ⟨u2, rfl⟩, q⟩) sz
  | tup h1 h2 =>
    cases rv
    exact repr_of_reads' reads sh (PyData.noDict_hsm nod) gd (by omega) (fun _ _ e => e) (fun h2 u2 tk keep => ⟨.str _, H, I.kept keep, ⟨u2, rfl⟩, q⟩) sz
end
end Gd
namespace Gd
open PySem PySem.Spec PyProof.Rows L2
/-- f(k = v, ..), keywords alone -/
theorem pe_kwOnly {X : Cx} {CX : CXT} {k : Nat} {f : Addr} {fd : FuncData} {ps ks : List Str} {sp : Sp} {E : XK} {x : Str} {p pos : Pos} {kws : List Keyword} {tk : TA} {g : List Value → List Value → List Value} {gV : List V → List V → List V}
    (F : FnOk X.prog X.w X.K X.mg X.base CX k f fd ps sp) (room : Room k X.A) (isGl : Gl X x) (at_ : X.mg x = some (.ref f)) (kept : PySem.W.keepIn X.K (.ref f) = true) (bind : KBinds X.K fd ps ks g gV) (pass : Passes CX X E)
    (words : PK X kws tk) (every : (backToKw pos (keywordEach kws X.env)).all (·.1.isSome) = true := by rfl) (names : (backToKw pos (keywordEach kws X.env)).filterMap (·.1) = ks := by rfl) (nodbg : (x == ("__debug__" : Str)) = false := by decide)
    (plain : ((backTo pos (starEach [] X.env)).any (·.1) || (backToKw pos (keywordEach kws X.env)).any (·.1.isNone)) = false := by rfl) :
    PE X (.Call (.Name x p) [] kws pos) (tCallK sp gV E tNil tk) := by
  constructor
  intro pins s σ H Q I want
  refine wpAny_Call_Name_kw (ld_glob I isGl at_ ?_ nodbg)
  refine PySem.W.callWith_KW0 (h₀ := X.base) I.ok.mod.kin kept every ?_ plain
  refine thn (words.run pos pins s σ H _ I want) ?_
  rintro ws s2 ⟨zs, H2, I2, rel, q⟩
  refine ⟨I2.kIn, ?_⟩
  rw [names]
  exact run_fnk (us := []) (vs := []) F room bind pass I2 .nil rel q
end Gd
namespace Gd
open PySem PySem.Spec PyProof.Rows L2
/-- as fng_of, where nothing leaves the body -/
theorem fng0_of {P : Program} {w : World} {K : PySem.W.Frag} {mg : Str → Option Value} {base : Heap} {k : Nat} {f : Addr} {fd : FuncData} {ps : List Str} {sp : Sp} {x qual : Str} {st : Stmt} {N : List Str} (F : Fun K x qual st f fd) (S : FnScope N ps (defScope st)) (ar : ∀ vs H Q E, sp vs H Q E → vs.length = ps.length)
    (body : ∀ (cdv : Value) (A : Around) (outer : List Env) (s : Shared) (H : Hp) (vs : List V) (Q : VK) (E : XK), Room k (A.deeper (envOfC qual (defScope st) s.heap.objs.size f cdv)) → A.guards = some [] → sp vs H Q E →
      ∃ t, PSs (cxOf CX0 P w K mg base N qual (defScope st) f cdv A outer s H E).nox (defBody st) t ∧ t { nx := fun _ H' => Q .non H', rt := Q } (start N vs) H) :
    FnG P w K mg base CX0 (k + 1) f fd ps sp :=
  fng_of F S ar fun cdv A outer s H vs Q E room gd want => by
    obtain ⟨t, d, r⟩ := body cdv A outer s H vs Q E room gd want
    exact ⟨t, d.nox, r⟩
end Gd
namespace Pf
open PySem PySem.Spec PyProof.Rows L2 Evl Gd
def topS (i : Nat) : Stmt := PySem.Challenge.pw_crossheaps_k69_scripts_read_and_shown.main.body.getD i (.Pass ⟨0, 0, 0, 0⟩)
abbrev sSource : Stmt := topS 41
abbrev sTake : Stmt := topS 42
abbrev sOf : Stmt := topS 43
abbrev nSource : List Str := ["_law_script", "_law_k", "_law_cell", "_law_own"]
abbrev nTake : List Str := ["_law_pot_here", "_law_many", "_law_digit", "_law_prime", "_law_mixed"]
abbrev nOf : List Str := ["_law_pot_here", "_law_some"]
theorem scSource : FnScope nSource ["_law_script", "_law_k"] (defScope sSource) := ⟨rfl, rfl, rfl, by decide +kernel, rfl, by decide +kernel, by decide +kernel⟩
theorem scTake : FnScope nTake ["_law_pot_here", "_law_many"] (defScope sTake) := ⟨rfl, rfl, rfl, by decide +kernel, rfl, by decide +kernel, by decide +kernel⟩
theorem scOf : FnScope nOf ["_law_pot_here", "_law_some"] (defScope sOf) := ⟨rfl, rfl, rfl, by decide +kernel, rfl, by decide +kernel, by decide +kernel⟩
def CPowW (i j : Int) : Prop := 0 ≤ j ∧ (Builtin.Int.intBits i : Int) * j ≤ bitsLine
theorem op_powW {X : Cx} : OpR X (binaryOp .Pow) (rI CPowW fun i j => .int (i ^ j.toNat)) := opI fun _ _ _ _ _ _ _ hc q => pow_int hc.1 hc.2 q
def big : Int := 1000000000000000000000000000000000000000000000000000000000000 ^ 5
/-- the pot of draws: at most n draws so far -/
def Pot (H : Hp) (d : Addr) (n : Int) : Prop := ∃ g b m : Int, H d = some (.lst [.int g, .int b, .int m]) ∧ 0 ≤ g ∧ g < big ∧ 0 ≤ b ∧ b < 2305843009213693952 ∧ 0 ≤ m ∧ m ≤ n
theorem Pot.up {H : Hp} {d : Addr} {n k : Int} (h : Pot H d n) (e : n ≤ k) : Pot H d k := by
  obtain ⟨g, b, m, h0, h1, h2, h3, h4, h5, h6⟩ := h
  exact ⟨g, b, m, h0, h1, h2, h3, h4, h5, by omega⟩
theorem Pot.ex {H H' : Hp} {d : Addr} {n : Int} (e : Evl.Ex H H') (h : Pot H d n) : Pot H' d n := by
  obtain ⟨g, b, m, h0, h⟩ := h
  exact ⟨g, b, m, e d _ h0, h⟩
/-- all but the pot stays -/
def Off (d : Addr) (H H' : Hp) : Prop := ∀ a o, a ≠ d → H a = some o → H' a = some o
theorem Off.refl (d : Addr) (H : Hp) : Off d H H := fun _ _ _ h => h
theorem Off.of {d : Addr} {H H' : Hp} (e : Evl.Ex H H') : Off d H H' := fun a o _ h => e a o h
theorem Off.trans {d : Addr} {H H1 H2 : Hp} (a : Off d H H1) (b : Off d H1 H2) : Off d H H2 := fun x o n h => b x o n (a x o n h)
theorem Off.upd {d : Addr} {H H' : Hp} {o : HO} (e : Off d H H') : Off d H (upd H' d o) := fun a u n h => by
  rw [upd_ne n]
  exact e a u n h
def spSource (K : PySem.W.Frag) : Sp := fun vs H Q _ => ∃ (a : Addr) (ns : List Int) (k : Int), vs = [.ref a, .int k] ∧ SqL K H a (ns.map V.int) ∧ ns.length ≤ 63 ∧ 0 ≤ k ∧ k ≤ 2 ∧
  ∀ H' d, Evl.Ex H H' → H d = none → Pot H' d 0 → Q (.ref d) H'
def spTake : Sp := fun vs H Q _ => ∃ (d : Addr) (n many : Int), vs = [.ref d, .int many] ∧ Pot H d n ∧ n ≤ 1000000 ∧ 0 < many ∧ many ≤ 1000000000000 ∧
  ∀ H' r, Off d H H' → Pot H' d (n + 1) → 0 ≤ r → r < many → Q (.int r) H'
section
variable {P : Program} {w : World} {K : PySem.W.Frag} {mg : Str → Option Value} {base : Heap}
theorem ok_source {f : Addr} {fd : FuncData} (F : Fun K "_law_pot" "_law_pot" sSource f fd) (mL : mg "len" = none) (mA : mg "abs" = none) (mI : mg "int" = none) : FnOk P w K mg base CX0 1 f fd ["_law_script", "_law_k"] (spSource K) := by
  refine F.ok scSource (fun vs H Q E h => ?_) (fun cdv A outer s H vs Q E hr h => ?_)
  · obtain ⟨a, ns, k, rfl, _⟩ := h
    rfl
  · obtain ⟨a, ns, k, rfl, hS, hz, h0, h2, q⟩ := h
    refine ⟨_, pss_cons (ps_set (i := 2) scSource.nd rfl (.inl rfl) (pe_ifExp (pt_cmpR op_lt (pv 1) (pe_callB call_len_seq (by rfl) mL PySem.boot_len (pa_cons (pv 0) pa_nil)) (nomark _)) (pe_ix ix_list (pv 0) (pv 1) (fun _ _ => rfl)) (pe_op op_add (pe_op op_mul pe_int (pv 1)) pe_int)))
      (pss_cons (ps_set (i := 3) scSource.nd rfl (.inl rfl) (pe_op op_mul (pe_op op_mod (pe_callB call_abs (by rfl) mA (by decide +kernel) (pa_cons (pv 2) pa_nil)) (pe_op op_powW (pe_op op_pow pe_int pe_int) pe_int))
          (pe_callTy call_int1 (by rfl) mI (by decide +kernel) (pa_cons (pe_cmpR op_ge (pe_callB call_abs (by rfl) mA (by decide +kernel) (pa_cons (pv 2) pa_nil)) (pe_op op_pow pe_int pe_int) (nomark _)) pa_nil))))
      (pss_one (ps_ret (pe_lst (pa_cons (pv 3) (pa_cons (pe_op op_mod (pe_op op_add (pe_op op_add (pe_op op_mul (pe_op op_mod (pv 2) pe_int) pe_int) (pe_op op_mul (pe_op op_mul pe_int (pv 1)) (pv 1))) pe_int) pe_int) (pa_cons pe_int pa_nil))))))), ?_⟩
    let c : Int := if h : k.toNat < ns.length then ns[k.toNat] else 31 * k + 18
    refine s_asg (i := 2) (v := .int c) (ev_if (et_test (ev_op (ev_var rfl) (ev_len (ev_var rfl) hS) rv_I0)) (fun hb => ?_) (fun hb => ?_)) fun H1 e1 => ?_
    · have hk : k < ((ns.map V.int).length : Int) := of_decide_eq_true hb
      rw [List.length_map] at hk
      have hk2 : k.toNat < ns.length := by omega
      refine ev_op (ev_var rfl) (ev_var rfl) (rv_ixL hS ?_)
      have e0 : k = ((k.toNat : Nat) : Int) := by omega
      rw [e0]
      refine atI_nat ?_
      rw [List.getElem?_map, List.getElem?_eq_getElem hk2]
      show some (V.int _) = some (V.int c)
      rw [show c = ns[k.toNat] from dif_pos hk2]
    · have hk : ¬ k < ((ns.map V.int).length : Int) := of_decide_eq_false hb
      rw [List.length_map] at hk
      rw [show c = 31 * k + 18 from dif_neg (by omega)]
      exact ev_op (ev_op ev_c (ev_var rfl) (rv_I (.inl ⟨by decide, by decide⟩))) ev_c rv_I0
    clear_value c
    have evAbs : ∀ H2 : Hp, Ev (tCB (fun xs H Q => ∃ i, xs = [V.int i] ∧ Q (.int (if i < 0 then -i else i)) H) (tCons (tVar 2) tNil)) ((L2.start nSource [V.ref a, V.int k]).set 2 (some (.int c))) H2 (.int (if c < 0 then -c else c)) :=
      fun H2 => ev_cb (ea_cons (ev_var rfl) ea_nil) fun H3 _ Q q => ⟨c, rfl, q H3 (Ex.refl H3)⟩
    let g : Int := (if c < 0 then -c else c) % big * (if decide ((10 : Int) ^ (18 : Int).toNat ≤ (if c < 0 then -c else c)) = true then 1 else 0)
    have hbig : (0 : Int) < big := by decide +kernel
    have hg : 0 ≤ g ∧ g < big := by
      have h1 := Int.emod_nonneg (if c < 0 then -c else c) (b := big) (by omega)
      have h2 := Int.emod_lt_of_pos (if c < 0 then -c else c) hbig
      show 0 ≤ _ * _ ∧ _ * _ < big
      generalize decide ((10 : Int) ^ (18 : Int).toNat ≤ (if c < 0 then -c else c)) = z
      cases z
      · rw [if_neg Bool.false_ne_true, Int.mul_zero]
        omega
      · rw [if_pos rfl, Int.mul_one]
        exact ⟨h1, h2⟩
    dsimp only
    refine st_seq (s_asg (i := 3) (v := .int g) (ev_op (ev_op (evAbs H1) (ev_op (ev_op ev_c ev_c (rv_I ⟨by decide, by decide, by decide⟩)) ev_c (rv_I ⟨by decide +kernel, by decide +kernel⟩)) (rv_I (by decide +kernel))) (ev_cb (ea_cons (ev_op (evAbs H1) (ev_op ev_c ev_c (rv_I ⟨by decide, by decide, by decide⟩)) rv_I0) ea_nil) fun H3 _ Q q => .inr ⟨_, rfl, q H3 (Ex.refl H3)⟩) (rv_I (.inr ?_))) fun H2 e2 => ?_)
    · generalize decide ((10 : Int) ^ (18 : Int).toNat ≤ (if c < 0 then -c else c)) = z
      cases z <;> decide
    clear_value g
    dsimp only
    let b : Int := (c % 2305843009213693951 * 69697 + 7577 * k * k + 59) % 2305843009213693921
    have hb1 := Int.emod_nonneg (c % 2305843009213693951 * 69697 + 7577 * k * k + 59) (b := 2305843009213693921) (by decide)
    have hb2 := Int.emod_lt_of_pos (c % 2305843009213693951 * 69697 + 7577 * k * k + 59) (b := 2305843009213693921) (by decide)
    refine s_retL (xs := [.int g, .int b, .int 0]) (el_lst (ea_cons (ev_var rfl) (ea_cons (ev_op (ev_op (ev_op (ev_op (ev_op (ev_var rfl) ev_c (rv_I (by decide))) ev_c (rv_I (.inr ⟨by decide, by decide⟩))) (ev_op (ev_op ev_c (ev_var rfl) (rv_I (.inl ⟨by decide, by decide⟩))) (ev_var rfl) (rv_I (.inr ⟨by omega, by omega⟩))) rv_I0) ev_c rv_I0) ev_c (rv_I (by decide))) (ea_cons ev_c ea_nil))) (by show 3 ≤ 100000; decide)) fun p H3 hp e3 h3 => ?_
    exact q H3 p ((e1.trans e2).trans e3) (fresh_back (e1.trans e2) hp) ⟨g, b, 0, h3, hg.1, hg.2, hb1, by omega, Int.le_refl 0, Int.le_refl 0⟩
theorem ok_take {f : Addr} {fd : FuncData} (F : Fun K "_law_take" "_law_take" sTake f fd) : FnOk P w K mg base CX0 1 f fd ["_law_pot_here", "_law_many"] spTake := by
  refine F.ok scTake (fun vs H Q E h => ?_) (fun cdv A outer s H vs Q E hr h => ?_)
  · obtain ⟨a, n, k, rfl, _⟩ := h
    rfl
  · obtain ⟨d, n, many, rfl, hP, hn, h0, h1, q⟩ := h
    refine ⟨_, pss_cons (ps_if (pt_cmpR op_gt (pe_ix ix_list (pv 0) pe_int (fun _ _ => rfl)) pe_int (nomark _))
        (pss_cons (ps_set (i := 2) scTake.nd rfl (.inl rfl) (pe_op op_mod (pe_ix ix_list (pv 0) pe_int (fun _ _ => rfl)) (pv 1)))
        (pss_cons (ps_asg (pe_op op_fdivW (pe_ix ix_list (pv 0) pe_int (fun _ _ => rfl)) (pv 1)) (pg_sub (pv 0) pe_int set_list))
        (pss_one (ps_ret (pv 2))))) pss_nil)
      (pss_cons (ps_asg (pe_op op_add (pe_ix ix_list (pv 0) pe_int (fun _ _ => rfl)) pe_int) (pg_sub (pv 0) pe_int set_list))
      (pss_cons (ps_set (i := 3) scTake.nd rfl (.inl rfl) (pe_ix ix_list (pe_lst (pa_cons pe_int (pa_cons pe_int (pa_cons pe_int (pa_cons pe_int pa_nil))))) (pe_op op_mod (pe_ix ix_list (pv 0) pe_int (fun _ _ => rfl)) pe_int) (fun _ _ => rfl)))
      (pss_cons (ps_set (i := 4) scTake.nd rfl (.inl rfl) (pe_op op_mod (pe_op op_pow (pe_op op_add (pe_op op_add (pe_ix ix_list (pv 0) pe_int (fun _ _ => rfl)) (pe_op op_mul (pe_op op_mul pe_int (pe_ix ix_list (pv 0) pe_int (fun _ _ => rfl))) (pe_ix ix_list (pv 0) pe_int (fun _ _ => rfl)))) pe_int) pe_int) (pv 3)))
      (pss_one (ps_ret (pe_op op_mod (pe_op op_fdiv (pe_op op_mod (pe_op op_mul (pv 4) (pe_op op_add (pe_op op_mod (pv 4) pe_int) (pe_op op_mul pe_int (pe_ix ix_list (pv 0) pe_int (fun _ _ => rfl))))) (pv 3)) pe_int) (pv 1))))))), ?_⟩
    obtain ⟨g, b, m, hd, hg0, hg1, hb0, hb1, hm0, hm1⟩ := hP
    have at0 : ∀ x y z : Int, atI [V.int x, .int y, .int z] 0 = some (.int x) := fun x y z => atI_nat (j := 0) rfl
    have at1 : ∀ x y z : Int, atI [V.int x, .int y, .int z] 1 = some (.int y) := fun x y z => atI_nat (j := 1) rfl
    have at2 : ∀ x y z : Int, atI [V.int x, .int y, .int z] 2 = some (.int z) := fun x y z => atI_nat (j := 2) rfl
    refine s_if (b := decide (0 < g)) (et_test (ev_op (ev_op (ev_var rfl) ev_c (rv_ixL (sq_of hd) (at0 _ _ _))) ev_c rv_I0)) (fun hb H1 e1 => ?_) (fun hb H1 e1 => ?_)
    · have hg : 0 < g := of_decide_eq_true hb
      have d1 := e1 d _ hd
      refine st_seq (s_asg (i := 2) (v := .int (g % many)) (ev_op (ev_op (ev_var rfl) ev_c (rv_ixL (sq_of d1) (at0 _ _ _))) (ev_var rfl) (rv_I h0)) fun H2 e2 => ?_)
      have d2 := e2 d _ d1
      dsimp only
      have wd : CDivW g many := wide_div h0 (b := 64) (by omega) (by decide) (by decide)
      refine st_seq (s_setL (j := 0) d2 (ev_op (ev_op (ev_var rfl) ev_c (rv_ixL (sq_of d2) (at0 _ _ _))) (ev_var rfl) (rv_I wd)) (ev_var rfl) ev_c (show 0 < 3 by decide) fun H3 e3 => ?_)
      dsimp only
      refine s_ret (v := .int (g % many)) (ev_var rfl) fun H4 e4 => ?_
      have h5 : Off d H H3 := Off.of ((e1.trans e2).trans e3)
      have nn := Int.ediv_nonneg hg0 (show 0 ≤ many by omega)
      have le : g / many ≤ g := Int.ediv_le_self many hg0
      refine q H4 _ ((h5.upd).trans (Off.of e4)) ⟨g / many, b, m, e4 d _ upd_same, nn, by omega, hb0, hb1, hm0, by omega⟩ (Int.emod_nonneg _ (by omega)) (Int.emod_lt_of_pos _ h0)
    · have d1 := e1 d _ hd
      dsimp only [tNext]
      refine st_seq (s_setL (j := 2) d1 (ev_op (ev_op (ev_var rfl) ev_c (rv_ixL (sq_of d1) (at2 _ _ _))) ev_c rv_I0) (ev_var rfl) ev_c (show 2 < 3 by decide) fun H3 e3 => ?_)
      dsimp only
      have d3 : (upd H3 d (.lst ([V.int g, .int b, .int m].set 2 (.int (m + 1))))) d = some (.lst [V.int g, .int b, .int (m + 1)]) := upd_same
      have o3 : Off d H (upd H3 d (.lst ([V.int g, .int b, .int m].set 2 (.int (m + 1))))) := (Off.of (e1.trans e3)).upd
      generalize upd H3 d (.lst ([V.int g, .int b, .int m].set 2 (.int (m + 1)))) = H3' at d3 o3 ⊢
      have m0 : (0 : Int) ≤ m + 1 := by omega
      have hn4 : ∃ p : Int, atI [V.int 2305843009213693951, .int 2305843009213693921, .int 2305843009213693907, .int 2305843009213693723] ((m + 1) % 4) = some (.int p) ∧ 0 < p ∧ p < 2305843009213693952 := by
        have l1 := Int.emod_nonneg (m + 1) (show (4 : Int) ≠ 0 by decide)
        have l2 := Int.emod_lt_of_pos (m + 1) (show (0 : Int) < 4 by decide)
        have cs : (m + 1) % 4 = 0 ∨ (m + 1) % 4 = 1 ∨ (m + 1) % 4 = 2 ∨ (m + 1) % 4 = 3 := by omega
        rcases cs with e | e | e | e <;> rw [e]
        · exact ⟨_, atI_nat (j := 0) rfl, by decide, by decide⟩
        · exact ⟨_, atI_nat (j := 1) rfl, by decide, by decide⟩
        · exact ⟨_, atI_nat (j := 2) rfl, by decide, by decide⟩
        · exact ⟨_, atI_nat (j := 3) rfl, by decide, by decide⟩
      obtain ⟨p, hp, p0, p1⟩ := hn4
      refine st_seq (s_asg (i := 3) (v := .int p) ?_ fun H4 e4 => ?_)
      · intro Ha ea Qa ka
        refine el_lst (ea_cons ev_c (ea_cons ev_c (ea_cons ev_c (ea_cons ev_c ea_nil)))) (by show 4 ≤ 100000; decide) Ha (Ex.refl Ha) _ fun l Hb _ eb hl => ?_
        have db := (ea.trans eb) d _ d3
        exact ⟨_, rfl, d, _, _, _, rfl, rfl, sq_of db, at2 _ _ _, m + 1, 4, rfl, rfl, (show (0 : Int) < 4 by decide), l, _, _, _, rfl, rfl, sq_of hl, hp, ka Hb eb⟩
      have d4 := e4 d _ d3
      dsimp only
      refine st_seq (s_asg (i := 4) (v := .int ((b + 104917 * (m + 1) * (m + 1) + 43) ^ (3 : Int).toNat % p)) (ev_op (ev_op (ev_op (ev_op (ev_op (ev_var rfl) ev_c (rv_ixL (sq_of d4) (at1 _ _ _))) (ev_op (ev_op ev_c (ev_op (ev_var rfl) ev_c (rv_ixL (sq_of d4) (at2 _ _ _))) (rv_I (.inl ⟨by decide, by decide⟩))) (ev_op (ev_var rfl) ev_c (rv_ixL (sq_of d4) (at2 _ _ _))) (rv_I (.inr ⟨by omega, by omega⟩))) rv_I0) ev_c rv_I0) ev_c (rv_I ⟨by decide, by decide, ?_⟩)) (ev_var rfl) (rv_I p0)) fun H5 e5 => ?_)
      · have t1 : (m + 1) * (m + 1) ≤ 1000001 * 1000001 := Int.mul_le_mul (by omega) (by omega) m0 (by decide)
        have t0 : 0 ≤ (m + 1) * (m + 1) := Int.mul_nonneg m0 m0
        have t2 : 104917 * (m + 1) * (m + 1) = 104917 * ((m + 1) * (m + 1)) := Int.mul_assoc _ _ _
        rw [t2]
        generalize (m + 1) * (m + 1) = z at t0 t1 ⊢
        omega
      generalize hy : (b + 104917 * (m + 1) * (m + 1) + 43) ^ (3 : Int).toNat % p = y
      have y0 : 0 ≤ y := by rw [← hy]; exact Int.emod_nonneg _ (by omega)
      have y1 : y < p := by rw [← hy]; exact Int.emod_lt_of_pos _ p0
      have d5 := e5 d _ d4
      dsimp only
      refine s_ret (v := .int (y * (y % 1000033 + 89 * (m + 1)) % p / 4111 % many)) (ev_op (ev_op (ev_op (ev_op (ev_var rfl) (ev_op (ev_op (ev_var rfl) ev_c (rv_I (by decide))) (ev_op ev_c (ev_op (ev_var rfl) ev_c (rv_ixL (sq_of d5) (at2 _ _ _))) (rv_I (.inl ⟨by decide, by decide⟩))) rv_I0) (rv_I (.inl ⟨by omega, by omega⟩))) (ev_var rfl) (rv_I p0)) ev_c (rv_I ⟨by decide, by decide⟩)) (ev_var rfl) (rv_I h0)) fun H7 e7 => ?_
      have e47 := (e4.trans e5).trans e7
      exact q H7 _ (o3.trans (Off.of e47)) ⟨g, b, m + 1, e47 d _ d3, hg0, hg1, hb0, hb1, m0, by omega⟩ (Int.emod_nonneg _ (by omega)) (Int.emod_lt_of_pos _ h0)
theorem Pot.ne {H : Hp} {d p : Addr} {n : Int} (h : Pot H d n) (hp : H p = none) : p ≠ d := fun e => by
  obtain ⟨g, b, m, h0, _⟩ := h
  rw [e, h0] at hp
  cases hp
theorem rd_take {σ : L2.St} {H : Hp} {E : XK} {td tm : TE} {d : Addr} {n many : Int} {Q : VK} (hd : Ev td σ H (.ref d)) (hm : Ev tm σ H (.int many)) (hP : Pot H d n) (h1 : n ≤ 1000000) (h2 : 0 < many) (h3 : many ≤ 1000000000000)
    (k : ∀ H' r, Off d H H' → Pot H' d (n + 1) → 0 ≤ r → r < many → Q (.int r) H') : tCall spTake [] E (tCons td (tCons tm tNil)) σ H Q := by
  refine hd H (Ex.refl H) _ fun H1 e1 => hm H1 e1 _ fun H2 e2 => ?_
  exact ⟨d, n, many, rfl, hP.ex (e1.trans e2), h1, h2, h3, fun H' r o p a b => k H' r ((Off.of (e1.trans e2)).trans o) p a b⟩
/-- one of a list's items -/
def spOf : Sp := fun vs H Q _ => ∃ (d l : Addr) (n : Int) (xs : List V), vs = [.ref d, .ref l] ∧ Pot H d n ∧ n ≤ 1000000 ∧ l ≠ d ∧ H l = some (.lst xs) ∧ 0 < xs.length ∧ xs.length ≤ 1000 ∧
  ∀ H' x, x ∈ xs → Off d H H' → Pot H' d (n + 1) → Q x H'
theorem ok_of {f fT : Addr} {fd fdT : FuncData} (F : Fun K "_law_of" "_law_of" sOf f fd) (FT : Fun K "_law_take" "_law_take" sTake fT fdT) (bT : Binds K fdT ["_law_pot_here", "_law_many"] []) (gT : mg "_law_take" = some (.ref fT)) (mL : mg "len" = none) :
    FnOk P w K mg base CX0 2 f fd ["_law_pot_here", "_law_some"] spOf := by
  have GT : FnOk P w K mg base CX0 1 fT fdT ["_law_pot_here", "_law_many"] spTake := ok_take FT
  refine F.ok scOf (fun vs H Q E h => ?_) (fun cdv A outer s H vs Q E hr h => ?_)
  · obtain ⟨d, l, n, xs, rfl, _⟩ := h
    rfl
  · obtain ⟨d, l, n, xs, rfl, hP, hn, ne, hl, z0, z1, q⟩ := h
    refine ⟨_, pss_one (ps_ret (pe_ix ix_list (pv 1) (pe_call GT hr (by rfl) gT FT.kp bT .nil pass0 (pa_cons (pv 0) (pa_cons (pe_callB call_len_seq (by rfl) mL PySem.boot_len (pa_cons (pv 1) pa_nil)) pa_nil))) (fun _ _ => rfl))), ?_⟩
    refine ⟨_, rfl, ?_⟩
    refine rd_take (ev_var rfl) (ev_len (ev_var rfl) (sq_of hl)) hP hn (by omega) (by omega) fun H1 r o p r0 r1 => ?_
    obtain ⟨j, rfl⟩ : ∃ j : Nat, r = j := ⟨r.toNat, by omega⟩
    have jn : j < xs.length := by omega
    exact ⟨l, xs, j, _, rfl, rfl, sq_of (o l _ ne hl), atI_nat (List.getElem?_eq_getElem jn), q H1 _ (List.getElem_mem jn) o p⟩
end
end Pf
namespace Pf
open PySem PySem.Spec PyProof.Rows L2 Evl Gd
theorem off_pot {d p : Addr} {H H' : Hp} {n : Int} {o : HO} (e : Off d H H') (pot : Pot H d n) (hp : H p = some o) (no : ∀ xs : List V, o = .lst xs → ∃ x : Str, ∃ r, xs = .str x :: r) : H' p = some o := by
  refine e p o (fun z => ?_) hp
  subst z
  obtain ⟨g, b, m, h0, _⟩ := pot
  rw [hp] at h0
  cases h0
  obtain ⟨x, r, h⟩ := no _ rfl
  cases h
section
variable {σ : L2.St} {H : Hp} {Q : VK} {E : XK} {d : Addr} {n : Int}
/-- one item of a list that is made there -/
theorem rd_of {td tl : TE} {xs : List V} (hd : Ev td σ H (.ref d)) (hP : Pot H d n) (hn : n ≤ 1000000) (ev : EvL tl σ H xs) (z0 : 0 < xs.length) (z1 : xs.length ≤ 1000) (k : ∀ H' x, x ∈ xs → Off d H H' → Pot H' d (n + 1) → Q x H') :
    tCall spOf [] E (tCons td (tCons tl tNil)) σ H Q := by
  refine hd H (Ex.refl H) _ fun H1 e1 => ev H1 e1 _ fun p H2 np e2 h2 => ?_
  have p1 := hP.ex e1
  exact ⟨d, p, n, xs, rfl, p1.ex e2, hn, p1.ne np, h2, z0, z1, fun H' x hx o pt => k H' x hx ((Off.of (e1.trans e2)).trans o) pt⟩
def names7 : List Str := ["a", "b", "x", "G", "Hello", "abcdefgh", "k"]
/-- three names -/
theorem rd_names {te tl : TE} {m : Nat} {j : Nat} (m0 : m ≤ 100) (hn : n ≤ 900000) (sd : ∀ x : Int, Ev te ((wipe σ [j]).set j (some (.int x))) H (.ref d)) (ev : ∀ (x : Int) (H1 : Hp), EvL tl ((wipe σ [j]).set j (some (.int x))) H1 (names7.map V.str)) (hw : ∀ x : Int, wipe ((wipe σ [j]).set j (some (.int x))) [j] = wipe σ [j]) (pot : Pot H d n)
    (sd' : ∀ (x : Int) (H1 : Hp), Ev te ((wipe σ [j]).set j (some (.int x))) H1 (.ref d))
    (k : ∀ p H' (ws : List Str), Off d H H' → Pot H' d (n + m) → H' p = some (.lst (ws.map V.str)) → ws.length = m → (∀ w ∈ ws, w ∈ names7) → Q (.ref p) H') : tLc (iRng1 (tCons (tC (.int (m : Int))) tNil)) (gName j) tYes (tCall spOf [] E (tCons te (tCons tl tNil))) [j] σ H Q := by
  refine ⟨(m : Int), rfl, by omega, by omega, fun D hD => ?_⟩
  have nD : D ≠ d := pot.ne hD
  rw [Int.toNat_natCast]
  refine lc_range (lo := 0) (n := m) (fun i H' => Off d H H' ∧ Pot H' d (n + (i : Int)) ∧ ∃ ws : List Str, H' D = some (.lst (ws.map V.str)) ∧ ws.length = i ∧ ∀ w ∈ ws, w ∈ names7) ⟨Off.of (Ex.new hD), (pot.ex (Ex.new hD)).up (by omega), [], (upd_same : upd H D (.lst []) D = some (.lst [])), rfl, fun w h => absurd h List.not_mem_nil⟩ ?_ ?_
  · rintro i H' hi ⟨off, pt, ws, hd, hl, hm⟩
    refine ⟨hw _, ?_⟩
    refine rd_of (sd' _ _) pt (by omega) (ev _ _) (by decide) (by decide) fun H2 x hx o2 p2 => ?_
    obtain ⟨w, hw7, rfl⟩ := List.mem_map.mp hx
    refine ⟨_, o2 _ _ nD hd, ?_, ?_, ?_, ws ++ [w], ?_, ?_, ?_⟩
    · rw [List.length_map]
      exact sz_lt (by omega)
    · intro a o ne ha
      rw [upd_ne (ne_of_none ha hD)]
      exact o2 a o ne (off a o ne ha)
    · obtain ⟨g, b, c, h0, h⟩ := p2
      refine ⟨g, b, c, ?_, h.1, h.2.1, h.2.2.1, h.2.2.2.1, h.2.2.2.2.1, by have := h.2.2.2.2.2; push_cast; omega⟩
      rw [upd_ne (Ne.symm nD)]
      exact h0
    · rw [upd_same, List.map_append]
      rfl
    · rw [List.length_append, hl]
      rfl
    · intro v hv
      rcases List.mem_append.mp hv with h | h
      · exact hm v h
      · rw [List.mem_singleton.mp h]
        exact hw7
  · rintro H' ⟨off, pt, ws, hd, hl, hm⟩
    exact k D H' ws off pt hd hl hm
end
section
variable {ta tr te tb : TE} {tt : TA} {ts tz : TS} {D : Ends} {g : TG} {σ : L2.St} {H : Hp} {Q : VK}
theorem tup_of (h : tt σ H fun xs H1 => xs.length ≤ sizeLine ∧ ∀ p, H1 p = none → Q (.ref p) (upd H1 p (.tup xs))) : tTup tt σ H Q := h
theorem lst_of (h : tt σ H fun xs H1 => xs.length ≤ sizeLine ∧ ∀ p, H1 p = none → Q (.ref p) (upd H1 p (.lst xs))) : tLst tt σ H Q := h
theorem c_of {Q : List V → Hp → Prop} (h : ta σ H fun x H1 => tt σ H1 fun xs H2 => Q (x :: xs) H2) : tCons ta tt σ H Q := h
theorem n_of {Q : List V → Hp → Prop} (h : Q [] H) : tNil σ H Q := h
theorem v_of {i : Nat} {v : V} (e : σ[i]? = some (some v)) (h : Q v H) : tVar i σ H Q := ⟨v, e, h⟩
theorem k_of {v : V} (h : Q v H) : tC v σ H Q := h
theorem seq_of (h : ts { D with nx := tz D } σ H) : tSeq ts tz D σ H := h
theorem asg_of {i : Nat} (h : te σ H fun x H1 => D.nx (σ.set i (some x)) H1) : tAsg te (gName i) D σ H := h
theorem asgG_of (h : te σ H fun x H1 => g x σ H1 D.nx) : tAsg te g D σ H := h
theorem par_of {i j : Nat} (h : tt σ H fun vs H1 => ∃ v w, vs = [v, w] ∧ D.nx ((σ.set i (some v)).set j (some w)) H1) : tPar i j tt D σ H := h
theorem ret_of (h : te σ H D.rt) : tRet te D σ H := h
theorem op_of {r : R2} (h : ta σ H fun x H1 => tb σ H1 fun y H2 => r x y H2 Q) : tOp r ta tb σ H Q := h
theorem call_of {sp : Sp} {dvs : List V} {E : XK} (h : tt σ H fun vs H1 => sp (vs ++ dvs) H1 Q E) : tCall sp dvs E tt σ H Q := h
theorem cb_of {r : List V → Hp → VK → Prop} (h : tt σ H fun vs H1 => r vs H1 Q) : tCB r tt σ H Q := h
/-- two short texts, one behind the other -/
def sCat : R2 := fun x y H Q => ∃ i j, x = V.str i ∧ y = V.str j ∧ i.length + j.length ≤ sizeLine ∧ Q (V.str (i ++ j)) H
theorem cat_of {z w : Str} (lz : z.length ≤ 1000) (lw : w.length ≤ 1000) (h : Q (.str (z ++ w)) H) : (fun x y H Q => ∃ i j, x = V.str i ∧ y = V.str j ∧ i.length + j.length ≤ sizeLine ∧ Q (V.str (i ++ j)) H) (V.str z) (.str w) H Q :=
  ⟨z, w, rfl, rfl, by rw [sizeLine_eq]; omega, h⟩
theorem ev_cat {z w : Str} (ha : Ev ta σ H (.str z)) (hb : Ev tb σ H (.str w)) (lz : z.length ≤ 1000) (lw : w.length ≤ 1000) :
    Ev (tOp (fun x y H Q => ∃ i j, x = V.str i ∧ y = V.str j ∧ i.length + j.length ≤ sizeLine ∧ Q (V.str (i ++ j)) H) ta tb) σ H (.str (z ++ w)) :=
  fun H1 e Q q => op_of (ha H1 e _ fun H2 e2 => hb H2 (e.trans e2) _ fun H3 e3 => cat_of lz lw (q H3 (e2.trans e3)))
end
theorem log_small {r : Int} (h : r.natAbs < 10 ^ 10) : r.natAbs.log2 < 1920 := by
  by_cases z : r.natAbs = 0
  · rw [z]
    decide
  · exact Nat.lt_of_lt_of_le ((Nat.log2_lt z).mpr (Nat.lt_of_lt_of_le h (by decide : (10 : Nat) ^ 10 ≤ 2 ^ 40))) (by decide)
/-- a value's word -/
def isWo (nm x : Str) : Prop := x = nm ∨ x ∈ (["none", "0", "-7", "1000000000", "-1000000000"] : List Str) ∨ ∃ m : Int, 0 ≤ m ∧ m < 1000000000 ∧ x = (toString m : String)
/-- a number's word -/
def isNu (most : Int) (x : Str) : Prop := ∃ m : Int, 0 ≤ m ∧ m ≤ most ∧ x = (toString m : String)
def homes2 : List Str := ["counted", "traced"]
def calls3 : List Str := ["p", "bye", "abcdefgh"]
def readsOf (wo sp ot th : Str) : List Str := [wo, sp, ("get " : Str) ++ ot, ot ++ (" at " : Str) ++ th]
def madeOf (ho k ot : Str) : List Str := [("record " : Str) ++ ho ++ (" " : Str) ++ k, ("weak " : Str) ++ ho ++ (" " : Str) ++ ot, ("map " : Str) ++ ho]
theorem int_len (m : Int) (h : m.natAbs < 10 ^ 10) : ((toString m : String) : Str).length ≤ 11 := by
  rw [PySem.ofString_length]
  exact int_text_length_le10 (a := m) (k := 10) (by decide) h
theorem name_len {x : Str} (h : x ∈ names7) : x.length ≤ 8 := by
  have all : ∀ y ∈ names7, y.length ≤ 8 := by decide +kernel
  exact all x h
theorem wo_len {nm x : Str} (hn : nm ∈ names7) (h : isWo nm x) : x.length ≤ 11 := by
  rcases h with rfl | h | ⟨m, h0, h1, rfl⟩
  · exact Nat.le_trans (name_len hn) (by decide)
  · have all : ∀ y ∈ (["none", "0", "-7", "1000000000", "-1000000000"] : List Str), y.length ≤ 11 := by decide +kernel
    exact all x h
  · exact int_len m (by omega)
theorem nu_len {x : Str} {most : Int} (hm : most ≤ 10000) (h : isNu most x) : x.length ≤ 11 := by
  obtain ⟨m, h0, h1, rfl⟩ := h
  exact int_len m (by omega)
theorem sz2 {a b : Str} {n m : Nat} (ha : a.length ≤ n) (hb : b.length ≤ m) (h : n + m ≤ 10000 := by decide) : a.length + b.length ≤ sizeLine := by
  rw [sizeLine_eq]
  omega
/-- the place's word -/
def isSp (ot x : Str) : Prop := ∃ m : Int, 0 ≤ m ∧ m < 6 ∧ x = ot ++ ("." : Str) ++ ((toString m : String) : Str)
theorem sp_len {ot x : Str} (ho : ot ∈ names7) (h : isSp ot x) : x.length ≤ 20 := by
  obtain ⟨m, h0, h1, rfl⟩ := h
  have := name_len ho
  have := int_len m (by omega)
  rw [strLen_append, strLen_append]
  show _ + 1 + _ ≤ _
  omega
theorem home_len {x : Str} (h : x ∈ homes2) : x.length ≤ 7 := by
  have all : ∀ y ∈ homes2, y.length ≤ 7 := by decide +kernel
  exact all x h
theorem call_len {x : Str} (h : x ∈ calls3) : x.length ≤ 8 := by
  have all : ∀ y ∈ calls3, y.length ≤ 8 := by decide +kernel
  exact all x h
theorem le_app {a b : Str} {n m : Nat} (ha : a.length ≤ n) (hb : b.length ≤ m) : (a ++ b).length ≤ n + m := by
  rw [strLen_append]
  omega
section
variable {ta tb : TE} {σ : L2.St} {H : Hp} {z w : Str} {n m : Nat}
/-- a text, and how long at most -/
def EvS (te : TE) (σ : L2.St) (H : Hp) (z : Str) (n : Nat) : Prop := Ev te σ H (.str z) ∧ z.length ≤ n
theorem es_cat (a : EvS ta σ H z n) (b : EvS tb σ H w m) (h : n + m ≤ 900 := by decide) : EvS (tOp (fun x y H Q => ∃ i j, x = V.str i ∧ y = V.str j ∧ i.length + j.length ≤ sizeLine ∧ Q (V.str (i ++ j)) H) ta tb) σ H (z ++ w) (n + m) :=
  ⟨ev_cat a.1 b.1 (by have := a.2; omega) (by have := b.2; omega), by rw [strLen_append]; have := a.2; have := b.2; omega⟩
theorem es_c {s : Str} (n : Nat) (h : s.length ≤ n := by decide) : EvS (tC (.str s)) σ H s n := ⟨ev_c, h⟩
theorem es_v {i : Nat} {x : Str} (e : σ[i]? = some (some (.str x))) (h : x.length ≤ n) : EvS (tVar i) σ H x n := ⟨ev_var e, h⟩
theorem EvS.at {te : TE} (a : EvS te σ H z n) {Q : VK} (k : ∀ H1, Ex H H1 → Q (.str z) H1) : te σ H Q := a.1 H (Ex.refl H) Q k
end
theorem el_cat {ta tb : TE} {σ : L2.St} {H : Hp} {a b : Addr} {xs ys : List V} (ha : Ev ta σ H (.ref a)) (hb : Ev tb σ H (.ref b)) (h1 : H a = some (.lst xs)) (h2 : H b = some (.lst ys)) (z : xs.length + ys.length ≤ 10000) : EvL (tOp rCat ta tb) σ H (xs ++ ys) :=
  fun H1 e Q q => op_of (ha H1 e _ fun H2 e2 => hb H2 (e.trans e2) _ fun H3 e3 => ⟨a, b, xs, ys, rfl, rfl, (e.trans (e2.trans e3)) _ _ h1, (e.trans (e2.trans e3)) _ _ h2, by rw [sizeLine_eq]; omega, fun p n => q p _ (fresh_back (e2.trans e3) n) ((e2.trans e3).trans (Ex.new n)) upd_same⟩)
/-- a list whose items are known, joined to another list -/
theorem el_catL {ta tb : TE} {σ : L2.St} {H : Hp} {a : Addr} {xs ys : List V} (ha : Ev ta σ H (.ref a)) (hb : EvL tb σ H ys) (h1 : H a = some (.lst xs)) (z : xs.length + ys.length ≤ 10000) : EvL (tOp rCat ta tb) σ H (xs ++ ys) :=
  fun H1 e Q q => op_of (ha H1 e _ fun H2 e2 => hb H2 (e.trans e2) _ fun b H3 nb e3 h2 => ⟨a, b, xs, ys, rfl, rfl, (e.trans (e2.trans e3)) _ _ h1, h2, by rw [sizeLine_eq]; omega, fun p n => q p _ (fresh_back (e2.trans e3) n) ((e2.trans e3).trans (Ex.new n)) upd_same⟩)
theorem off_mut {d p : Addr} {H H' : Hp} {o : HO} (e : Off d H H') (n : H p = none) : Off d H (upd H' p o) := fun a u ne h => by
  rw [upd_ne (ne_of_none h n)]
  exact e a u ne h
theorem rd_ofV {σ : L2.St} {H : Hp} {Q : VK} {E : XK} {d l : Addr} {n : Int} {i j : Nat} {xs : List V} (hd : σ[i]? = some (some (.ref d))) (hj : σ[j]? = some (some (.ref l))) (hP : Pot H d n) (hn : n ≤ 1000000) (ne : l ≠ d) (hl : H l = some (.lst xs)) (z0 : 0 < xs.length) (z1 : xs.length ≤ 1000)
    (k : ∀ H' x, x ∈ xs → Off d H H' → Pot H' d (n + 1) → Q x H') : tCall spOf [] E (tCons (tVar i) (tCons (tVar j) tNil)) σ H Q :=
  ⟨_, hd, _, hj, d, l, n, xs, rfl, hP, hn, ne, hl, z0, z1, k⟩
/-- what may stand behind let .. = -/
def made4 (ho k ot ca : Str) : List Str := madeOf ho k ot ++ [("record " : Str) ++ ho ++ (" " : Str) ++ k ++ (" then " : Str) ++ ca]
theorem reads_len {wo sp ot th x : Str} (h1 : wo.length ≤ 11) (h2 : sp.length ≤ 20) (h3 : ot.length ≤ 8) (h4 : th.length ≤ 8) (h : x ∈ readsOf wo sp ot th) : x.length ≤ 50 := by
  simp only [readsOf, List.mem_cons, List.not_mem_nil, or_false] at h
  rcases h with rfl | rfl | rfl | rfl
  · omega
  · omega
  · have := le_app (show (("get " : Str)).length ≤ 4 by decide) h3
    omega
  · have := le_app (le_app h3 (show ((" at " : Str)).length ≤ 4 by decide)) h4
    omega
theorem made_len {ho k ot ca x : Str} (h1 : ho.length ≤ 7) (h2 : k.length ≤ 11) (h3 : ot.length ≤ 8) (h4 : ca.length ≤ 8) (h : x ∈ made4 ho k ot ca) : x.length ≤ 50 := by
  have l0 : (("record " : Str) ++ ho ++ (" " : Str) ++ k).length ≤ 7 + 7 + 1 + 11 := le_app (le_app (le_app (by decide) h1) (by decide)) h2
  simp only [made4, madeOf, List.cons_append, List.nil_append, List.mem_cons, List.not_mem_nil, or_false] at h
  rcases h with rfl | rfl | rfl | rfl
  · omega
  · have := le_app (le_app (le_app (show (("weak " : Str)).length ≤ 5 by decide) h1) (show ((" " : Str)).length ≤ 1 by decide)) h3
    omega
  · have := le_app (show (("map " : Str)).length ≤ 4 by decide) h1
    omega
  · have := le_app (le_app l0 (show ((" then " : Str)).length ≤ 6 by decide)) h4
    omega
def rowsA (nm l s : Str) : List Str := [("let " : Str) ++ nm ++ (" = " : Str) ++ l, ("say " : Str) ++ s, ("drop " : Str) ++ nm]
def rowsB (nm sp wo : Str) : List Str := [("hold " : Str) ++ nm, ("release " : Str) ++ nm, ("pin " : Str) ++ nm, ("unpin " : Str) ++ nm, sp ++ (" = " : Str) ++ wo]
def rowsC (ot th wo : Str) : List Str := [ot ++ (" at " : Str) ++ th ++ (" = " : Str) ++ wo, ("if " : Str) ++ wo ++ (" is " : Str) ++ th, "else", "end"]
def rowsD (nu ca : Str) : List Str := [("repeat " : Str) ++ nu, ("proc " : Str) ++ ca, ("proc " : Str) ++ ca ++ (" y z" : Str), ("do " : Str) ++ ca]
def rowsE (nu : Str) : List Str := ["minor", ("rings " : Str) ++ nu, "begin", ("slice " : Str) ++ nu, ("compact " : Str) ++ nu, "finalize", "settle"]
/-- the rows of which one is drawn -/
def rowsOf (nm ot th wo nu ho sp ca l s : Str) : List Str := (rowsA nm l s ++ rowsB nm sp wo ++ rowsC ot th wo ++ rowsD nu ca ++ [("do " : Str) ++ ca ++ (" " : Str) ++ wo]) ++ rowsE nu
/-- a row as this law draws it -/
def RowT (r : Str) : Prop := ∃ nm ot th wo nu ho sp ca k l s : Str, nm ∈ names7 ∧ ot ∈ names7 ∧ th ∈ names7 ∧ isWo nm wo ∧ isNu 10000 nu ∧ ho ∈ homes2 ∧ isSp ot sp ∧ ca ∈ calls3 ∧ isNu 6 k ∧ l ∈ readsOf wo sp ot th ++ made4 ho k ot ca ∧ s ∈ readsOf wo sp ot th ∧ r ∈ rowsOf nm ot th wo nu ho sp ca l s
theorem rows_len (nm ot th wo nu ho sp ca l s : Str) : (rowsOf nm ot th wo nu ho sp ca l s).length = 24 := rfl
theorem mem_cut {xs : List V} {lo hi : Option Int} {x : V} (h : x ∈ cutV xs lo hi) : x ∈ xs := by
  unfold cutV at h
  exact List.mem_of_mem_drop (List.mem_of_mem_take h)
theorem two_len {xs : List V} {n : Nat} (h : xs.length = n) (lo hi : Option Int) : (xs ++ cutV xs lo hi).length ≤ n + n := by
  rw [List.length_append]
  have := cutV_length xs lo hi
  omega
end Pf
/-! the drawn rows as words -/
namespace Pf
open PySem PySem.Spec PyProof.Rows L2 Evl Gd
def names12 : List Str := ["a", "b", "x", "G", "Hello", "abcdefgh", "k", "p", "bye", "y", "z"]
def Nm (w : Str) : Prop := w ∈ names12
/-- a number's word, at most m -/
def Num (m : Nat) (w : Str) : Prop := ∃ n : Nat, n ≤ m ∧ w = Str.ofString (toString (n : Int))
def Wo (w : Str) : Prop := Nm w ∨ w = "none" ∨ Num 1000000000 w ∨ w ∈ (["-7", "-1000000000"] : List Str)
def Spt (w : Str) : Prop := ∃ ot, Nm ot ∧ ∃ m : Fin 6, w = ot ++ ("." : Str) ++ Str.ofString (toString ((m.val : Nat) : Int))
inductive Reads : List Str → Prop
  | wo {w} : Wo w → Reads [w]
  | sp {w} : Spt w → Reads [w]
  | get {w} : Nm w → Reads ["get", w]
  | at {w u} : Nm w → Nm u → Reads [w, "at", u]
inductive Makes : List Str → Prop
  | recd {h k} : h ∈ homes2 → Num 6 k → Makes ["record", h, k]
  | weak {h w} : h ∈ homes2 → Nm w → Makes ["weak", h, w]
  | map {h} : h ∈ homes2 → Makes ["map", h]
  | close {h k c} : h ∈ homes2 → Num 6 k → c ∈ calls3 → Makes ["record", h, k, "then", c]
inductive Good : List Str → Prop
  | letR {w ws} : Nm w → Reads ws → Good ("let" :: w :: "=" :: ws)
  | letM {w ws} : Nm w → Makes ws → Good ("let" :: w :: "=" :: ws)
  | say {ws} : Reads ws → Good ("say" :: ws)
  | name {v w} : v ∈ (["drop", "hold", "release", "pin", "unpin"] : List Str) → Nm w → Good [v, w]
  | store {p w} : Spt p → Wo w → Good [p, "=", w]
  | enter {o t w} : Nm o → Nm t → Wo w → Good [o, "at", t, "=", w]
  | if_ {w t} : Wo w → Nm t → Good ["if", w, "is", t]
  | bare {v} : v ∈ (["else", "end", "minor", "begin", "finalize", "settle"] : List Str) → Good [v]
  | num {v w} : v ∈ (["repeat", "rings", "slice", "compact"] : List Str) → Num 10000 w → Good [v, w]
  | proc {c} : c ∈ calls3 → Good ["proc", c]
  | procs {c} : c ∈ calls3 → Good ["proc", c, "y", "z"]
  | do_ {c} : c ∈ calls3 → Good ["do", c]
  | dos {c w} : c ∈ calls3 → Wo w → Good ["do", c, w]
/-- a text without a blank and without a new line -/
def Clean (w : Str) : Prop := 32 ∉ TL.tl w ∧ 10 ∉ TL.tl w ∧ w.length ≤ 40 ∧ ∀ c ∈ TL.tl w, c < 16 ^ 8
instance (w : Str) : Decidable (Clean w) := by unfold Clean; infer_instance
theorem names_clean : ∀ w ∈ names12, Clean w := by decide +kernel
theorem num_clean (n : Nat) (h : n < 10 ^ 20) : Clean (Str.ofString (toString (n : Int))) := by
  refine ⟨?_, ?_, ?_, ?_⟩
  · rw [TL.tl_num]
    exact TL.numL_free (by decide)
  · rw [TL.tl_num]
    exact TL.numL_free (by decide)
  · rw [TL.len_tl, TL.tl_num]
    exact Nat.le_trans (TL.numL_len (by decide) h) (by decide)
  · rw [TL.tl_num]
    intro c hc
    have := TL.numL_digits n c hc
    omega
theorem Num.clean {m : Nat} {w : Str} (hm : m ≤ 1000000000) (h : Num m w) : Clean w := by
  obtain ⟨n, hn, rfl⟩ := h
  exact num_clean n (by omega)
theorem sp_all : ∀ o ∈ names12, ∀ m : Fin 6, Clean (o ++ ("." : Str) ++ Str.ofString (toString ((m.val : Nat) : Int))) := by decide +kernel
theorem Spt.clean {w : Str} (h : Spt w) : Clean w := by
  obtain ⟨o, ho, m, rfl⟩ := h
  exact sp_all o ho m
theorem Wo.clean {w : Str} (h : Wo w) : Clean w := by
  rcases h with h | rfl | h | h
  · exact names_clean w h
  · decide +kernel
  · exact h.clean (Nat.le_refl _)
  · have all : ∀ w ∈ (["-7", "-1000000000"] : List Str), Clean w := by decide +kernel
    exact all w h
theorem homes_clean : ∀ w ∈ homes2, Clean w := by decide +kernel
theorem calls_clean : ∀ w ∈ calls3, Clean w := by decide +kernel
theorem clean_cons {w : Str} {ws : List Str} (a : Clean w) (b : ∀ u ∈ ws, Clean u) : ∀ u ∈ w :: ws, Clean u := fun u m => by
  rcases List.mem_cons.mp m with rfl | m
  · exact a
  · exact b u m
theorem clean_nil : ∀ u ∈ ([] : List Str), Clean u := fun u m => absurd m List.not_mem_nil
theorem Reads.clean {ws : List Str} (h : Reads ws) : ∀ w ∈ ws, Clean w := by
  cases h with
  | wo h => exact clean_cons h.clean clean_nil
  | sp h => exact clean_cons h.clean clean_nil
  | get h => exact clean_cons (by decide +kernel) (clean_cons (names_clean _ h) clean_nil)
  | «at» h g => exact clean_cons (names_clean _ h) (clean_cons (by decide +kernel) (clean_cons (names_clean _ g) clean_nil))
theorem Makes.clean {ws : List Str} (h : Makes ws) : ∀ w ∈ ws, Clean w := by
  cases h with
  | recd a b => exact clean_cons (by decide +kernel) (clean_cons (homes_clean _ a) (clean_cons (b.clean (by decide)) clean_nil))
  | weak a b => exact clean_cons (by decide +kernel) (clean_cons (homes_clean _ a) (clean_cons (names_clean _ b) clean_nil))
  | map a => exact clean_cons (by decide +kernel) (clean_cons (homes_clean _ a) clean_nil)
  | close a b c => exact clean_cons (by decide +kernel) (clean_cons (homes_clean _ a) (clean_cons (b.clean (by decide)) (clean_cons (by decide +kernel) (clean_cons (calls_clean _ c) clean_nil))))
theorem Good.clean {ws : List Str} (h : Good ws) : ∀ w ∈ ws, Clean w := by
  have cc : ∀ {w : Str} {ws : List Str}, Clean w → (∀ u ∈ ws, Clean u) → ∀ u ∈ w :: ws, Clean u := fun a b u m => by
    rcases List.mem_cons.mp m with rfl | m
    · exact a
    · exact b u m
  have nn : ∀ u ∈ ([] : List Str), Clean u := fun u m => absurd m List.not_mem_nil
  cases h with
  | letR a b => exact cc (by decide +kernel) (cc (names_clean _ a) (cc (by decide +kernel) b.clean))
  | letM a b => exact cc (by decide +kernel) (cc (names_clean _ a) (cc (by decide +kernel) b.clean))
  | say b => exact cc (by decide +kernel) b.clean
  | name a b =>
    have all : ∀ w ∈ (["drop", "hold", "release", "pin", "unpin"] : List Str), Clean w := by decide +kernel
    exact cc (all _ a) (cc (names_clean _ b) nn)
  | store a b => exact cc a.clean (cc (by decide +kernel) (cc b.clean nn))
  | enter a b c => exact cc (names_clean _ a) (cc (by decide +kernel) (cc (names_clean _ b) (cc (by decide +kernel) (cc c.clean nn))))
  | if_ a b => exact cc (by decide +kernel) (cc a.clean (cc (by decide +kernel) (cc (names_clean _ b) nn)))
  | bare a =>
    have all : ∀ w ∈ (["else", "end", "minor", "begin", "finalize", "settle"] : List Str), Clean w := by decide +kernel
    exact cc (all _ a) nn
  | num a b =>
    have all : ∀ w ∈ (["repeat", "rings", "slice", "compact"] : List Str), Clean w := by decide +kernel
    exact cc (all _ a) (cc (b.clean (by decide)) nn)
  | proc a => exact cc (by decide +kernel) (cc (calls_clean _ a) nn)
  | procs a => exact cc (by decide +kernel) (cc (calls_clean _ a) (cc (by decide +kernel) (cc (by decide +kernel) nn)))
  | do_ a => exact cc (by decide +kernel) (cc (calls_clean _ a) nn)
  | dos a b => exact cc (by decide +kernel) (cc (calls_clean _ a) (cc b.clean nn))
theorem Good.ne {ws : List Str} (h : Good ws) : ws ≠ [] := by cases h <;> exact fun z => nomatch z
theorem Good.few {ws : List Str} (h : Good ws) : ws.length ≤ 8 := by
  have r : ∀ {ws}, Reads ws → ws.length ≤ 5 := fun h => by cases h <;> (simp only [List.length_cons, List.length_nil]; omega)
  have m : ∀ {ws}, Makes ws → ws.length ≤ 5 := fun h => by cases h <;> (simp only [List.length_cons, List.length_nil]; omega)
  cases h with
  | letR a b => have := r b; simp only [List.length_cons]; omega
  | letM a b => have := m b; simp only [List.length_cons]; omega
  | say b => have := r b; simp only [List.length_cons]; omega
  | _ => simp only [List.length_cons, List.length_nil]; omega
/-- the words back -/
theorem Good.split {ws : List Str} (h : Good ws) : Txt.split (Txt.join " " ws) " " = ws :=
  TL.split_join (y := " ") (s := 32) (S := []) (by decide +kernel) (by decide +kernel) h.ne fun p m => (h.clean p m).1
/-! from the texts -/
theorem tl_lit {s : String} {l : List Nat} (h : (TL.tl (Str.ofString s) == l) = true) : TL.tl (Str.ofString s) = l := eq_of_beq h
theorem isWo_wo {nm x : Str} (hn : nm ∈ names7) (h : isWo nm x) : Wo x := by
  have sub : ∀ w ∈ names7, w ∈ names12 := by decide +kernel
  rcases h with rfl | h | ⟨m, h0, h1, rfl⟩
  · exact .inl (sub _ hn)
  · simp only [List.mem_cons, List.not_mem_nil, or_false] at h
    rcases h with rfl | rfl | rfl | rfl | rfl
    · exact .inr (.inl rfl)
    · exact .inr (.inr (.inl ⟨0, by decide, by decide +kernel⟩))
    · exact .inr (.inr (.inr (by decide +kernel)))
    · exact .inr (.inr (.inl ⟨1000000000, by decide, by decide +kernel⟩))
    · exact .inr (.inr (.inr (by decide +kernel)))
  · refine .inr (.inr (.inl ⟨m.toNat, by omega, ?_⟩))
    rw [Int.toNat_of_nonneg h0]
theorem isNu_num {most : Int} {x : Str} (h : isNu most x) : Num most.toNat x := by
  obtain ⟨m, h0, h1, rfl⟩ := h
  exact ⟨m.toNat, by omega, by rw [Int.toNat_of_nonneg h0]⟩
theorem isSp_sp {ot x : Str} (ho : ot ∈ names7) (h : isSp ot x) : Spt x := by
  have sub : ∀ w ∈ names7, w ∈ names12 := by decide +kernel
  obtain ⟨m, h0, h1, rfl⟩ := h
  refine ⟨ot, sub _ ho, ⟨m.toNat, by omega⟩, ?_⟩
  show _ = ot ++ ("." : Str) ++ Str.ofString (toString ((m.toNat : Nat) : Int))
  rw [Int.toNat_of_nonneg h0]
/-- a text is its words -/
def Is (r : Str) (ws : List Str) : Prop := TL.tl r = TL.joinL [32] (ws.map TL.tl)
theorem Is.eq {r : Str} {ws : List Str} (h : Is r ws) : r = Txt.join " " ws := by
  refine TL.ext_tl ?_
  rw [TL.join_eq, TL.tl_join, show TL.tl (" " : Str) = [32] from by decide +kernel]
  exact h
theorem Is.one (w : Str) : Is w [w] := by
  unfold Is
  simp [TL.joinL]
/-- a first word, a blank, the rest -/
theorem Is.cons {w r x : Str} {ws : List Str} (h : Is r ws) (ne : ws ≠ []) (e : TL.tl x = TL.tl w ++ 32 :: TL.tl r) : Is x (w :: ws) := by
  cases ws with
  | nil => exact absurd rfl ne
  | cons u us =>
    unfold Is at h ⊢
    rw [e, h, List.map_cons, List.map_cons]
    show _ = TL.joinL [32] (TL.tl w :: TL.tl u :: us.map TL.tl)
    rw [TL.joinL]
    simp
end Pf
/-! each drawn row is its words -/
namespace Pf
open PySem PySem.Spec PyProof.Rows L2 Evl Gd
theorem q0 : TL.tl (Str.ofString "let ") = [108, 101, 116, 32] := by decide +kernel
theorem q1 : TL.tl (Str.ofString " = ") = [32, 61, 32] := by decide +kernel
theorem q2 : TL.tl (Str.ofString "say ") = [115, 97, 121, 32] := by decide +kernel
theorem q3 : TL.tl (Str.ofString "drop ") = [100, 114, 111, 112, 32] := by decide +kernel
theorem q4 : TL.tl (Str.ofString "hold ") = [104, 111, 108, 100, 32] := by decide +kernel
theorem q5 : TL.tl (Str.ofString "release ") = [114, 101, 108, 101, 97, 115, 101, 32] := by decide +kernel
theorem q6 : TL.tl (Str.ofString "pin ") = [112, 105, 110, 32] := by decide +kernel
theorem q7 : TL.tl (Str.ofString "unpin ") = [117, 110, 112, 105, 110, 32] := by decide +kernel
theorem q8 : TL.tl (Str.ofString " at ") = [32, 97, 116, 32] := by decide +kernel
theorem q9 : TL.tl (Str.ofString "if ") = [105, 102, 32] := by decide +kernel
theorem q10 : TL.tl (Str.ofString " is ") = [32, 105, 115, 32] := by decide +kernel
theorem q11 : TL.tl (Str.ofString "repeat ") = [114, 101, 112, 101, 97, 116, 32] := by decide +kernel
theorem q12 : TL.tl (Str.ofString "proc ") = [112, 114, 111, 99, 32] := by decide +kernel
theorem q13 : TL.tl (Str.ofString " y z") = [32, 121, 32, 122] := by decide +kernel
theorem q14 : TL.tl (Str.ofString "do ") = [100, 111, 32] := by decide +kernel
theorem q15 : TL.tl (Str.ofString " ") = [32] := by decide +kernel
theorem q16 : TL.tl (Str.ofString "rings ") = [114, 105, 110, 103, 115, 32] := by decide +kernel
theorem q17 : TL.tl (Str.ofString "slice ") = [115, 108, 105, 99, 101, 32] := by decide +kernel
theorem q18 : TL.tl (Str.ofString "compact ") = [99, 111, 109, 112, 97, 99, 116, 32] := by decide +kernel
theorem q19 : TL.tl (Str.ofString "get ") = [103, 101, 116, 32] := by decide +kernel
theorem q20 : TL.tl (Str.ofString "record ") = [114, 101, 99, 111, 114, 100, 32] := by decide +kernel
theorem q21 : TL.tl (Str.ofString "weak ") = [119, 101, 97, 107, 32] := by decide +kernel
theorem q22 : TL.tl (Str.ofString "map ") = [109, 97, 112, 32] := by decide +kernel
theorem q23 : TL.tl (Str.ofString " then ") = [32, 116, 104, 101, 110, 32] := by decide +kernel
theorem q24 : TL.tl (Str.ofString "let") = [108, 101, 116] := by decide +kernel
theorem q25 : TL.tl (Str.ofString "=") = [61] := by decide +kernel
theorem q26 : TL.tl (Str.ofString "say") = [115, 97, 121] := by decide +kernel
theorem q27 : TL.tl (Str.ofString "drop") = [100, 114, 111, 112] := by decide +kernel
theorem q28 : TL.tl (Str.ofString "hold") = [104, 111, 108, 100] := by decide +kernel
theorem q29 : TL.tl (Str.ofString "release") = [114, 101, 108, 101, 97, 115, 101] := by decide +kernel
theorem q30 : TL.tl (Str.ofString "pin") = [112, 105, 110] := by decide +kernel
theorem q31 : TL.tl (Str.ofString "unpin") = [117, 110, 112, 105, 110] := by decide +kernel
theorem q32 : TL.tl (Str.ofString "at") = [97, 116] := by decide +kernel
theorem q33 : TL.tl (Str.ofString "if") = [105, 102] := by decide +kernel
theorem q34 : TL.tl (Str.ofString "is") = [105, 115] := by decide +kernel
theorem q35 : TL.tl (Str.ofString "repeat") = [114, 101, 112, 101, 97, 116] := by decide +kernel
theorem q36 : TL.tl (Str.ofString "proc") = [112, 114, 111, 99] := by decide +kernel
theorem q37 : TL.tl (Str.ofString "y") = [121] := by decide +kernel
theorem q38 : TL.tl (Str.ofString "z") = [122] := by decide +kernel
theorem q39 : TL.tl (Str.ofString "do") = [100, 111] := by decide +kernel
theorem q40 : TL.tl (Str.ofString "rings") = [114, 105, 110, 103, 115] := by decide +kernel
theorem q41 : TL.tl (Str.ofString "slice") = [115, 108, 105, 99, 101] := by decide +kernel
theorem q42 : TL.tl (Str.ofString "compact") = [99, 111, 109, 112, 97, 99, 116] := by decide +kernel
theorem q43 : TL.tl (Str.ofString "get") = [103, 101, 116] := by decide +kernel
theorem q44 : TL.tl (Str.ofString "record") = [114, 101, 99, 111, 114, 100] := by decide +kernel
theorem q45 : TL.tl (Str.ofString "weak") = [119, 101, 97, 107] := by decide +kernel
theorem q46 : TL.tl (Str.ofString "map") = [109, 97, 112] := by decide +kernel
theorem q47 : TL.tl (Str.ofString "then") = [116, 104, 101, 110] := by decide +kernel
theorem reads_words {wo sp ot th nm l : Str} (h1 : Wo wo) (h2 : Spt sp) (h3 : ot ∈ names7) (h4 : th ∈ names7) (h : l ∈ readsOf wo sp ot th) : ∃ ws, Reads ws ∧ ((l = wo ∧ ws = [wo]) ∨ (l = sp ∧ ws = [sp]) ∨ (l = ("get " : Str) ++ ot ∧ ws = [("get" : Str), ot]) ∨ (l = ot ++ (" at " : Str) ++ th ∧ ws = [ot, "at", th])) := by
  have sub : ∀ w ∈ names7, w ∈ names12 := by decide +kernel
  simp only [readsOf, List.mem_cons, List.not_mem_nil, or_false] at h
  rcases h with rfl | rfl | rfl | rfl
  · exact ⟨_, .wo h1, .inl ⟨rfl, rfl⟩⟩
  · exact ⟨_, .sp h2, .inr (.inl ⟨rfl, rfl⟩)⟩
  · exact ⟨_, .get (sub _ h3), .inr (.inr (.inl ⟨rfl, rfl⟩))⟩
  · exact ⟨_, .at (sub _ h3) (sub _ h4), .inr (.inr (.inr ⟨rfl, rfl⟩))⟩
theorem makes_words {ho k ot ca l : Str} (h1 : ho ∈ homes2) (h2 : Num 6 k) (h3 : ot ∈ names7) (h4 : ca ∈ calls3) (h : l ∈ made4 ho k ot ca) : ∃ ws, Makes ws ∧ ((l = ("record " : Str) ++ ho ++ (" " : Str) ++ k ∧ ws = [("record" : Str), ho, k]) ∨ (l = ("weak " : Str) ++ ho ++ (" " : Str) ++ ot ∧ ws = [("weak" : Str), ho, ot]) ∨ (l = ("map " : Str) ++ ho ∧ ws = [("map" : Str), ho]) ∨ (l = ("record " : Str) ++ ho ++ (" " : Str) ++ k ++ (" then " : Str) ++ ca ∧ ws = [("record" : Str), ho, k, "then", ca])) := by
  have sub : ∀ w ∈ names7, w ∈ names12 := by decide +kernel
  simp only [made4, madeOf, List.cons_append, List.nil_append, List.mem_cons, List.not_mem_nil, or_false] at h
  rcases h with rfl | rfl | rfl | rfl
  · exact ⟨_, .recd h1 h2, .inl ⟨rfl, rfl⟩⟩
  · exact ⟨_, .weak h1 (sub _ h3), .inr (.inl ⟨rfl, rfl⟩)⟩
  · exact ⟨_, .map h1, .inr (.inr (.inl ⟨rfl, rfl⟩))⟩
  · exact ⟨_, .close h1 h2 h4, .inr (.inr (.inr ⟨rfl, rfl⟩))⟩
theorem row_words {r : Str} (h : RowT r) : ∃ ws, Good ws ∧ r = Txt.join " " ws := by
  suffices h' : ∃ ws, Good ws ∧ Is r ws by
    obtain ⟨ws, g, i⟩ := h'
    exact ⟨ws, g, i.eq⟩
  have sub : ∀ w ∈ names7, w ∈ names12 := by decide +kernel
  obtain ⟨nm, ot, th, wo, nu, ho, sp, ca, k, l, s, a1, a2, a3, a4, a5, a6, a7, a8, a9, b1, b2, hr⟩ := h
  have n1 := sub _ a1
  have n2 := sub _ a2
  have n3 := sub _ a3
  have w1 := isWo_wo a1 a4
  have u1 : Num 10000 nu := isNu_num a5
  have p1 := isSp_sp a2 a7
  have k1 : Num 6 k := isNu_num a9
  clear a4 a5 a7 a9
  simp only [rowsOf, rowsA, rowsB, rowsC, rowsD, rowsE, List.cons_append, List.nil_append, List.mem_cons, List.not_mem_nil, or_false] at hr
  rcases hr with rfl | rfl | rfl | rfl | rfl | rfl | rfl | rfl | rfl | rfl | rfl | rfl | rfl | rfl | rfl | rfl | rfl | rfl | rfl | rfl | rfl | rfl | rfl | rfl
  · rcases List.mem_append.mp b1 with b1 | b1
    · obtain ⟨ws, g, e⟩ := reads_words (nm := nm) w1 p1 a2 a3 b1
      refine ⟨_, .letR n1 g, ?_⟩
      rcases e with ⟨rfl, rfl⟩ | ⟨rfl, rfl⟩ | ⟨rfl, rfl⟩ | ⟨rfl, rfl⟩ <;> (unfold Is; simp only [TL.tl_append, List.map_cons, List.map_nil, TL.joinL, q0, q1, q2, q3, q4, q5, q6, q7, q8, q9, q10, q11, q12, q13, q14, q15, q16, q17, q18, q19, q20, q21, q22, q23, q24, q25, q26, q27, q28, q29, q30, q31, q32, q33, q34, q35, q36, q37, q38, q39, q40, q41, q42, q43, q44, q45, q46, q47, List.append_assoc, List.cons_append, List.nil_append])
    · obtain ⟨ws, g, e⟩ := makes_words a6 k1 a2 a8 b1
      refine ⟨_, .letM n1 g, ?_⟩
      rcases e with ⟨rfl, rfl⟩ | ⟨rfl, rfl⟩ | ⟨rfl, rfl⟩ | ⟨rfl, rfl⟩ <;> (unfold Is; simp only [TL.tl_append, List.map_cons, List.map_nil, TL.joinL, q0, q1, q2, q3, q4, q5, q6, q7, q8, q9, q10, q11, q12, q13, q14, q15, q16, q17, q18, q19, q20, q21, q22, q23, q24, q25, q26, q27, q28, q29, q30, q31, q32, q33, q34, q35, q36, q37, q38, q39, q40, q41, q42, q43, q44, q45, q46, q47, List.append_assoc, List.cons_append, List.nil_append])
  · obtain ⟨ws, g, e⟩ := reads_words (nm := nm) w1 p1 a2 a3 b2
    refine ⟨_, .say g, ?_⟩
    rcases e with ⟨rfl, rfl⟩ | ⟨rfl, rfl⟩ | ⟨rfl, rfl⟩ | ⟨rfl, rfl⟩ <;> (unfold Is; simp only [TL.tl_append, List.map_cons, List.map_nil, TL.joinL, q0, q1, q2, q3, q4, q5, q6, q7, q8, q9, q10, q11, q12, q13, q14, q15, q16, q17, q18, q19, q20, q21, q22, q23, q24, q25, q26, q27, q28, q29, q30, q31, q32, q33, q34, q35, q36, q37, q38, q39, q40, q41, q42, q43, q44, q45, q46, q47, List.append_assoc, List.cons_append, List.nil_append])
  · exact ⟨_, .name (v := "drop") (by decide +kernel) n1, by (unfold Is; simp only [TL.tl_append, List.map_cons, List.map_nil, TL.joinL, q0, q1, q2, q3, q4, q5, q6, q7, q8, q9, q10, q11, q12, q13, q14, q15, q16, q17, q18, q19, q20, q21, q22, q23, q24, q25, q26, q27, q28, q29, q30, q31, q32, q33, q34, q35, q36, q37, q38, q39, q40, q41, q42, q43, q44, q45, q46, q47, List.append_assoc, List.cons_append, List.nil_append])⟩
  · exact ⟨_, .name (v := "hold") (by decide +kernel) n1, by (unfold Is; simp only [TL.tl_append, List.map_cons, List.map_nil, TL.joinL, q0, q1, q2, q3, q4, q5, q6, q7, q8, q9, q10, q11, q12, q13, q14, q15, q16, q17, q18, q19, q20, q21, q22, q23, q24, q25, q26, q27, q28, q29, q30, q31, q32, q33, q34, q35, q36, q37, q38, q39, q40, q41, q42, q43, q44, q45, q46, q47, List.append_assoc, List.cons_append, List.nil_append])⟩
  · exact ⟨_, .name (v := "release") (by decide +kernel) n1, by (unfold Is; simp only [TL.tl_append, List.map_cons, List.map_nil, TL.joinL, q0, q1, q2, q3, q4, q5, q6, q7, q8, q9, q10, q11, q12, q13, q14, q15, q16, q17, q18, q19, q20, q21, q22, q23, q24, q25, q26, q27, q28, q29, q30, q31, q32, q33, q34, q35, q36, q37, q38, q39, q40, q41, q42, q43, q44, q45, q46, q47, List.append_assoc, List.cons_append, List.nil_append])⟩
  · exact ⟨_, .name (v := "pin") (by decide +kernel) n1, by (unfold Is; simp only [TL.tl_append, List.map_cons, List.map_nil, TL.joinL, q0, q1, q2, q3, q4, q5, q6, q7, q8, q9, q10, q11, q12, q13, q14, q15, q16, q17, q18, q19, q20, q21, q22, q23, q24, q25, q26, q27, q28, q29, q30, q31, q32, q33, q34, q35, q36, q37, q38, q39, q40, q41, q42, q43, q44, q45, q46, q47, List.append_assoc, List.cons_append, List.nil_append])⟩
  · exact ⟨_, .name (v := "unpin") (by decide +kernel) n1, by (unfold Is; simp only [TL.tl_append, List.map_cons, List.map_nil, TL.joinL, q0, q1, q2, q3, q4, q5, q6, q7, q8, q9, q10, q11, q12, q13, q14, q15, q16, q17, q18, q19, q20, q21, q22, q23, q24, q25, q26, q27, q28, q29, q30, q31, q32, q33, q34, q35, q36, q37, q38, q39, q40, q41, q42, q43, q44, q45, q46, q47, List.append_assoc, List.cons_append, List.nil_append])⟩
  · exact ⟨_, .store p1 w1, by (unfold Is; simp only [TL.tl_append, List.map_cons, List.map_nil, TL.joinL, q0, q1, q2, q3, q4, q5, q6, q7, q8, q9, q10, q11, q12, q13, q14, q15, q16, q17, q18, q19, q20, q21, q22, q23, q24, q25, q26, q27, q28, q29, q30, q31, q32, q33, q34, q35, q36, q37, q38, q39, q40, q41, q42, q43, q44, q45, q46, q47, List.append_assoc, List.cons_append, List.nil_append])⟩
  · exact ⟨_, .enter n2 n3 w1, by (unfold Is; simp only [TL.tl_append, List.map_cons, List.map_nil, TL.joinL, q0, q1, q2, q3, q4, q5, q6, q7, q8, q9, q10, q11, q12, q13, q14, q15, q16, q17, q18, q19, q20, q21, q22, q23, q24, q25, q26, q27, q28, q29, q30, q31, q32, q33, q34, q35, q36, q37, q38, q39, q40, q41, q42, q43, q44, q45, q46, q47, List.append_assoc, List.cons_append, List.nil_append])⟩
  · exact ⟨_, .if_ w1 n3, by (unfold Is; simp only [TL.tl_append, List.map_cons, List.map_nil, TL.joinL, q0, q1, q2, q3, q4, q5, q6, q7, q8, q9, q10, q11, q12, q13, q14, q15, q16, q17, q18, q19, q20, q21, q22, q23, q24, q25, q26, q27, q28, q29, q30, q31, q32, q33, q34, q35, q36, q37, q38, q39, q40, q41, q42, q43, q44, q45, q46, q47, List.append_assoc, List.cons_append, List.nil_append])⟩
  · exact ⟨_, .bare (v := "else") (by decide +kernel), Is.one _⟩
  · exact ⟨_, .bare (v := "end") (by decide +kernel), Is.one _⟩
  · exact ⟨_, .num (v := "repeat") (by decide +kernel) u1, by (unfold Is; simp only [TL.tl_append, List.map_cons, List.map_nil, TL.joinL, q0, q1, q2, q3, q4, q5, q6, q7, q8, q9, q10, q11, q12, q13, q14, q15, q16, q17, q18, q19, q20, q21, q22, q23, q24, q25, q26, q27, q28, q29, q30, q31, q32, q33, q34, q35, q36, q37, q38, q39, q40, q41, q42, q43, q44, q45, q46, q47, List.append_assoc, List.cons_append, List.nil_append])⟩
  · exact ⟨_, .proc a8, by (unfold Is; simp only [TL.tl_append, List.map_cons, List.map_nil, TL.joinL, q0, q1, q2, q3, q4, q5, q6, q7, q8, q9, q10, q11, q12, q13, q14, q15, q16, q17, q18, q19, q20, q21, q22, q23, q24, q25, q26, q27, q28, q29, q30, q31, q32, q33, q34, q35, q36, q37, q38, q39, q40, q41, q42, q43, q44, q45, q46, q47, List.append_assoc, List.cons_append, List.nil_append])⟩
  · exact ⟨_, .procs a8, by (unfold Is; simp only [TL.tl_append, List.map_cons, List.map_nil, TL.joinL, q0, q1, q2, q3, q4, q5, q6, q7, q8, q9, q10, q11, q12, q13, q14, q15, q16, q17, q18, q19, q20, q21, q22, q23, q24, q25, q26, q27, q28, q29, q30, q31, q32, q33, q34, q35, q36, q37, q38, q39, q40, q41, q42, q43, q44, q45, q46, q47, List.append_assoc, List.cons_append, List.nil_append])⟩
  · exact ⟨_, .do_ a8, by (unfold Is; simp only [TL.tl_append, List.map_cons, List.map_nil, TL.joinL, q0, q1, q2, q3, q4, q5, q6, q7, q8, q9, q10, q11, q12, q13, q14, q15, q16, q17, q18, q19, q20, q21, q22, q23, q24, q25, q26, q27, q28, q29, q30, q31, q32, q33, q34, q35, q36, q37, q38, q39, q40, q41, q42, q43, q44, q45, q46, q47, List.append_assoc, List.cons_append, List.nil_append])⟩
  · exact ⟨_, .dos a8 w1, by (unfold Is; simp only [TL.tl_append, List.map_cons, List.map_nil, TL.joinL, q0, q1, q2, q3, q4, q5, q6, q7, q8, q9, q10, q11, q12, q13, q14, q15, q16, q17, q18, q19, q20, q21, q22, q23, q24, q25, q26, q27, q28, q29, q30, q31, q32, q33, q34, q35, q36, q37, q38, q39, q40, q41, q42, q43, q44, q45, q46, q47, List.append_assoc, List.cons_append, List.nil_append])⟩
  · exact ⟨_, .bare (v := "minor") (by decide +kernel), Is.one _⟩
  · exact ⟨_, .num (v := "rings") (by decide +kernel) u1, by (unfold Is; simp only [TL.tl_append, List.map_cons, List.map_nil, TL.joinL, q0, q1, q2, q3, q4, q5, q6, q7, q8, q9, q10, q11, q12, q13, q14, q15, q16, q17, q18, q19, q20, q21, q22, q23, q24, q25, q26, q27, q28, q29, q30, q31, q32, q33, q34, q35, q36, q37, q38, q39, q40, q41, q42, q43, q44, q45, q46, q47, List.append_assoc, List.cons_append, List.nil_append])⟩
  · exact ⟨_, .bare (v := "begin") (by decide +kernel), Is.one _⟩
  · exact ⟨_, .num (v := "slice") (by decide +kernel) u1, by (unfold Is; simp only [TL.tl_append, List.map_cons, List.map_nil, TL.joinL, q0, q1, q2, q3, q4, q5, q6, q7, q8, q9, q10, q11, q12, q13, q14, q15, q16, q17, q18, q19, q20, q21, q22, q23, q24, q25, q26, q27, q28, q29, q30, q31, q32, q33, q34, q35, q36, q37, q38, q39, q40, q41, q42, q43, q44, q45, q46, q47, List.append_assoc, List.cons_append, List.nil_append])⟩
  · exact ⟨_, .num (v := "compact") (by decide +kernel) u1, by (unfold Is; simp only [TL.tl_append, List.map_cons, List.map_nil, TL.joinL, q0, q1, q2, q3, q4, q5, q6, q7, q8, q9, q10, q11, q12, q13, q14, q15, q16, q17, q18, q19, q20, q21, q22, q23, q24, q25, q26, q27, q28, q29, q30, q31, q32, q33, q34, q35, q36, q37, q38, q39, q40, q41, q42, q43, q44, q45, q46, q47, List.append_assoc, List.cons_append, List.nil_append])⟩
  · exact ⟨_, .bare (v := "finalize") (by decide +kernel), Is.one _⟩
  · exact ⟨_, .bare (v := "settle") (by decide +kernel), Is.one _⟩
end Pf
namespace Gd
open PySem L2
/-! The order of tuples of keys. -/
def kLt : Key → Key → Bool
  | .inl a, .inl b => decide (a < b)
  | .inr a, .inr b => decide (a.cps.toList < b.cps.toList)
  | .inl _, .inr _ => true
  | .inr _, .inl _ => false
def ksLt : List Key → List Key → Bool
  | [], [] => false
  | [], _ :: _ => true
  | _ :: _, [] => false
  | a :: r, b :: s => if a = b then ksLt r s else kLt a b
theorem str_ext {a b : Str} (h : a.cps.toList = b.cps.toList) : a = b := by
  cases a
  cases b
  simp only at h
  rw [Array.toList_inj.mp h]
theorem kLt_irr : ∀ a : Key, kLt a a = false
  | .inl a => decide_eq_false (Int.lt_irrefl a)
  | .inr a => decide_eq_false (List.lt_irrefl _)
theorem kLt_as : ∀ {a b : Key}, kLt a b = true → kLt b a = false
  | .inl a, .inl b, h => decide_eq_false (by have := of_decide_eq_true h; omega)
  | .inr a, .inr b, h => decide_eq_false (fun q => List.lt_irrefl _ (List.lt_trans (of_decide_eq_true h) q))
  | .inl _, .inr _, _ => rfl
  | .inr _, .inl _, h => nomatch h
theorem kLt_tri : ∀ {a b : Key}, kLt a b = false → kLt b a = false → a = b
  | .inl a, .inl b, h, g => by
    have h1 := of_decide_eq_false h
    have h2 := of_decide_eq_false g
    rw [show a = b from by omega]
  | .inr a, .inr b, h, g => by
    have h1 := of_decide_eq_false h
    have h2 := of_decide_eq_false g
    rw [str_ext (List.le_antisymm (List.not_lt.mp h2) (List.not_lt.mp h1))]
  | .inl _, .inr _, h, _ => nomatch h
  | .inr _, .inl _, _, g => nomatch g
theorem kLt_tr : ∀ {a b c : Key}, kLt a b = true → kLt b c = true → kLt a c = true
  | .inl a, .inl b, .inl c, h, g => decide_eq_true (by have := of_decide_eq_true h; have := of_decide_eq_true g; omega)
  | .inr a, .inr b, .inr c, h, g => decide_eq_true (List.lt_trans (of_decide_eq_true h) (of_decide_eq_true g))
  | .inl _, .inl _, .inr _, _, _ => rfl
  | .inl _, .inr _, .inr _, _, _ => rfl
  | .inl _, .inr _, .inl _, _, g => nomatch g
  | .inr _, .inl _, _, h, _ => nomatch h
  | .inr _, .inr _, .inl _, _, g => nomatch g
theorem ksLt_irr : ∀ a : List Key, ksLt a a = false
  | [] => rfl
  | a :: r => by
    rw [ksLt, if_pos rfl]
    exact ksLt_irr r
theorem ksLt_as : ∀ {a b : List Key}, ksLt a b = true → ksLt b a = false
  | [], [], h => nomatch h
  | [], _ :: _, _ => rfl
  | _ :: _, [], h => nomatch h
  | a :: r, b :: s, h => by
    rw [ksLt] at h ⊢
    by_cases e : a = b
    · rw [if_pos e] at h
      rw [if_pos e.symm]
      exact ksLt_as h
    · rw [if_neg e] at h
      rw [if_neg (fun q => e q.symm)]
      exact kLt_as h
theorem ksLt_tri : ∀ {a b : List Key}, ksLt a b = false → ksLt b a = false → a = b
  | [], [], _, _ => rfl
  | [], _ :: _, h, _ => nomatch h
  | _ :: _, [], _, h => nomatch h
  | a :: r, b :: s, h, g => by
    rw [ksLt] at h g
    by_cases e : a = b
    · rw [if_pos e] at h
      rw [if_pos e.symm] at g
      rw [e, ksLt_tri h g]
    · rw [if_neg e] at h
      rw [if_neg (fun q => e q.symm)] at g
      exact absurd (kLt_tri h g) e
theorem ksLt_tr : ∀ {a b c : List Key}, ksLt a b = true → ksLt b c = true → ksLt a c = true
  | [], [], _, h, _ => nomatch h
  | [], _ :: _, [], _, g => nomatch g
  | [], _ :: _, _ :: _, _, _ => rfl
  | _ :: _, [], _, h, _ => nomatch h
  | _ :: _, _ :: _, [], _, g => nomatch g
  | a :: r, b :: s, c :: t, h, g => by
    rw [ksLt] at h g ⊢
    by_cases e : a = b
    · subst e
      rw [if_pos rfl] at h
      by_cases e2 : a = c
      · rw [if_pos e2] at g ⊢
        exact ksLt_tr h g
      · rw [if_neg e2] at g ⊢
        exact g
    · rw [if_neg e] at h
      by_cases e2 : b = c
      · subst e2
        rw [if_neg e]
        exact h
      · rw [if_neg e2] at g
        have e3 : a ≠ c := fun q => by
          subst q
          rw [kLt_as h] at g
          cases g
        rw [if_neg e3]
        exact kLt_tr h g
theorem ksLt_ntr {a b c : List Key} (h : ksLt a b = false) (g : ksLt b c = false) : ksLt a c = false := by
  cases q : ksLt a c with
  | false => rfl
  | true =>
    cases p : ksLt b a with
    | true =>
      rw [ksLt_tr p q] at g
      cases g
    | false =>
      have e := ksLt_tri h p
      subst e
      rw [q] at g
      cases g
end Gd
namespace Sn
open PySem PySem.Spec PyProof.Rows L2
/-! Data of tuples, texts, ints and None, as it lies in a heap; snapshots. -/
def Exx (H H' : Hp) : Prop := ∀ a o, H a = some o → H' a = some o
mutual
inductive Td (K : PySem.W.Frag) (H : Hp) : V → PyData → Prop
  | non : Td K H .non .none
  | int (i : Int) : Td K H (.int i) (.int i)
  | str (x : Str) : Td K H (.str x) (.str x)
  | tup {a : Addr} {xs : List V} {ds : List PyData} : SqT K H a xs → TdAll K H xs ds → Td K H (.ref a) (.tuple ds)
inductive TdAll (K : PySem.W.Frag) (H : Hp) : List V → List PyData → Prop
  | nil : TdAll K H [] []
  | cons {v : V} {vs : List V} {d : PyData} {ds : List PyData} : Td K H v d → TdAll K H vs ds → TdAll K H (v :: vs) (d :: ds)
end
section
variable {K : PySem.W.Frag} {H H' : Hp} {x : V} {xs ys : List V} {d : PyData} {ds es : List PyData}
/-- what H' keeps of the tuples -/
def KeepT (K : PySem.W.Frag) (H H' : Hp) : Prop := ∀ a xs, SqT K H a xs → SqT K H' a xs
theorem KeepT.of (e : ∀ a o, H a = some o → H' a = some o) : KeepT K H H' := by
  intro a xs h
  rcases h with (h | ⟨o, h⟩) | h
  · exact .inl (.inl (e _ _ h))
  · exact .inl (.inr ⟨o, e _ _ h⟩)
  · exact .inr h
/-- all but a list, a dict or an instance stays -/
theorem KeepT.off {p : Addr} {u : HO} (hp : H p = some u) (hu : (∀ xs, u ≠ .tup xs) ∧ ∀ o v, u ≠ .frz o v) (e : ∀ a o, a ≠ p → H a = some o → H' a = some o) : KeepT K H H' := by
  intro a xs h
  rcases h with (h | ⟨o, h⟩) | h
  · exact .inl (.inl (e _ _ (fun q => by
      rw [q, hp] at h
      exact hu.1 _ (Option.some.inj h)) h))
  · exact .inl (.inr ⟨o, e _ _ (fun q => by
      rw [q, hp] at h
      exact hu.2 _ _ (Option.some.inj h)) h⟩)
  · exact .inr h
theorem KeepT.lst {p : Addr} {zs : List V} (hp : H p = some (.lst zs)) (e : ∀ a o, a ≠ p → H a = some o → H' a = some o) : KeepT K H H' := .off hp ⟨(fun _ z => nomatch z), (fun _ _ z => nomatch z)⟩ e
mutual
theorem Td.keep (k : KeepT K H H') : ∀ {x : V} {d : PyData}, Td K H x d → Td K H' x d
  | _, _, .non => .non
  | _, _, .int i => .int i
  | _, _, .str x => .str x
  | _, _, .tup h a => .tup (k _ _ h) (TdAll.keep k a)
theorem TdAll.keep (k : KeepT K H H') : ∀ {xs : List V} {ds : List PyData}, TdAll K H xs ds → TdAll K H' xs ds
  | _, _, .nil => .nil
  | _, _, .cons h a => .cons (Td.keep k h) (TdAll.keep k a)
end
theorem Td.ex (e : ∀ a o, H a = some o → H' a = some o) (h : Td K H x d) : Td K H' x d := h.keep (.of e)
theorem TdAll.ex (e : ∀ a o, H a = some o → H' a = some o) (h : TdAll K H xs ds) : TdAll K H' xs ds := h.keep (.of e)
mutual
theorem Td.dp : ∀ {x : V} {d : PyData}, Td K H x d → Dp K H x d
  | _, _, .non => .non
  | _, _, .int i => .int i
  | _, _, .str x => .str x
  | _, _, .tup h a => .tup h (TdAll.dp a)
theorem TdAll.dp : ∀ {xs : List V} {ds : List PyData}, TdAll K H xs ds → DpAll K H xs ds
  | _, _, .nil => .nil
  | _, _, .cons h a => .cons (Td.dp h) (TdAll.dp a)
end
theorem TdAll.len : ∀ {xs : List V} {ds : List PyData}, TdAll K H xs ds → xs.length = ds.length
  | _, _, .nil => rfl
  | _, _, .cons _ a => by rw [List.length_cons, List.length_cons, TdAll.len a]
theorem TdAll.snoc : ∀ {xs : List V} {ds : List PyData} {x : V} {d : PyData}, TdAll K H xs ds → Td K H x d → TdAll K H (xs ++ [x]) (ds ++ [d])
  | _, _, _, _, .nil, h => .cons h .nil
  | _, _, _, _, .cons a b, h => .cons a (b.snoc h)
theorem TdAll.app : ∀ {xs ys : List V} {ds es : List PyData}, TdAll K H xs ds → TdAll K H ys es → TdAll K H (xs ++ ys) (ds ++ es)
  | _, _, _, _, .nil, h => h
  | _, _, _, _, .cons a b, h => .cons a (b.app h)
theorem TdAll.get : ∀ {xs : List V} {ds : List PyData} {i : Nat} {x : V}, TdAll K H xs ds → xs[i]? = some x → ∃ d, ds[i]? = some d ∧ Td K H x d
  | _, _, _, _, .nil, h => by simp at h
  | _, _, 0, _, .cons a _, h => ⟨_, rfl, by
    have e := Option.some.inj h
    rw [← e]
    exact a⟩
  | _, _, i + 1, _, .cons _ b, h => by
    obtain ⟨d, h1, h2⟩ := TdAll.get (i := i) b (by simpa using h)
    exact ⟨d, by simpa using h1, h2⟩
theorem TdAll.at : ∀ {xs : List V} {ds : List PyData} {i : Nat} {d : PyData}, TdAll K H xs ds → ds[i]? = some d → ∃ x, xs[i]? = some x ∧ Td K H x d
  | _, _, _, _, .nil, h => by simp at h
  | _, _, 0, _, .cons a _, h => ⟨_, rfl, by
    have e := Option.some.inj h
    rw [← e]
    exact a⟩
  | _, _, i + 1, _, .cons _ b, h => by
    obtain ⟨d, h1, h2⟩ := TdAll.at (i := i) b (by simpa using h)
    exact ⟨d, by simpa using h1, h2⟩
theorem Td.inv_tup (h : Td K H x (.tuple ds)) : ∃ p xs, x = .ref p ∧ SqT K H p xs ∧ TdAll K H xs ds := by
  cases h with
  | tup a b => exact ⟨_, _, rfl, a, b⟩
theorem Td.inv_int {i : Int} (h : Td K H x (.int i)) : x = .int i := by cases h <;> rfl
theorem Td.inv_str {z : Str} (h : Td K H x (.str z)) : x = .str z := by cases h <;> rfl
theorem Td.inv_non (h : Td K H x .none) : x = .non := by cases h <;> rfl
theorem TdAll.inv_cons (h : TdAll K H xs (d :: ds)) : ∃ y ys, xs = y :: ys ∧ Td K H y d ∧ TdAll K H ys ds := by
  cases h with
  | cons a b => exact ⟨_, _, rfl, a, b⟩
theorem TdAll.inv_nil (h : TdAll K H xs []) : xs = [] := by cases h <;> rfl
theorem TdAll.ints : ∀ ns : List Int, TdAll K H (ns.map V.int) (ns.map .int)
  | [] => .nil
  | n :: r => .cons (.int n) (TdAll.ints r)
theorem TdAll.inv_ints : ∀ {xs : List V} (ns : List Int), TdAll K H xs (ns.map .int) → xs = ns.map V.int
  | _, [], h => h.inv_nil
  | _, n :: r, h => by
    obtain ⟨y, ys, rfl, h1, h2⟩ := TdAll.inv_cons h
    rw [h1.inv_int, TdAll.inv_ints r h2]
    rfl
/-- a tuple of three, of four, of two -/
theorem Td.inv2 {d1 d2 : PyData} (h : Td K H x (.tuple [d1, d2])) : ∃ p y z, x = .ref p ∧ SqT K H p [y, z] ∧ Td K H y d1 ∧ Td K H z d2 := by
  obtain ⟨p, xs, rfl, h1, h2⟩ := h.inv_tup
  obtain ⟨y, ys, rfl, a, h2⟩ := h2.inv_cons
  obtain ⟨z, zs, rfl, b, h2⟩ := h2.inv_cons
  rw [h2.inv_nil] at h1
  exact ⟨p, y, z, rfl, h1, a, b⟩
theorem Td.inv3 {d1 d2 d3 : PyData} (h : Td K H x (.tuple [d1, d2, d3])) : ∃ p y z u, x = .ref p ∧ SqT K H p [y, z, u] ∧ Td K H y d1 ∧ Td K H z d2 ∧ Td K H u d3 := by
  obtain ⟨p, xs, rfl, h1, h2⟩ := h.inv_tup
  obtain ⟨y, ys, rfl, a, h2⟩ := h2.inv_cons
  obtain ⟨z, zs, rfl, b, h2⟩ := h2.inv_cons
  obtain ⟨u, us, rfl, c, h2⟩ := h2.inv_cons
  rw [h2.inv_nil] at h1
  exact ⟨p, y, z, u, rfl, h1, a, b, c⟩
theorem Td.inv4 {d1 d2 d3 d4 : PyData} (h : Td K H x (.tuple [d1, d2, d3, d4])) : ∃ p y z u v, x = .ref p ∧ SqT K H p [y, z, u, v] ∧ Td K H y d1 ∧ Td K H z d2 ∧ Td K H u d3 ∧ Td K H v d4 := by
  obtain ⟨p, xs, rfl, h1, h2⟩ := h.inv_tup
  obtain ⟨y, ys, rfl, a, h2⟩ := h2.inv_cons
  obtain ⟨z, zs, rfl, b, h2⟩ := h2.inv_cons
  obtain ⟨u, us, rfl, c, h2⟩ := h2.inv_cons
  obtain ⟨v, vs, rfl, e, h2⟩ := h2.inv_cons
  rw [h2.inv_nil] at h1
  exact ⟨p, y, z, u, v, rfl, h1, a, b, c, e⟩
end
/-! ### snapshots -/
inductive Part where
  | tgt (n : Int)
  | pair (k : Int) (v : Option Int)
def dOpt : Option Int → PyData
  | none => .none
  | some v => .int v
def dPart : Part → PyData
  | .tgt n => .int n
  | .pair k v => .tuple [.int k, dOpt v]
structure Thing where
  n : Int
  home : Str
  sort : Str
  parts : List Part
def dThing (t : Thing) : PyData := .tuple [.int t.n, .str t.home, .str t.sort, .tuple (t.parts.map dPart)]
def dRoot (r : Str × Int) : PyData := .tuple [.str r.1, .int r.2]
structure Shot where
  roots : List (Str × Int)
  things : List Thing
def dShot (s : Shot) : PyData := .tuple [.tuple (s.roots.map dRoot), .tuple (s.things.map dThing)]
/-- records have slots with objects, maps entries, weak objects targets -/
def OkThing (t : Thing) : Prop := (t.sort = "record" ∧ ∀ p ∈ t.parts, ∃ k v, p = .pair k (some v)) ∨ (t.sort = "map" ∧ ∀ p ∈ t.parts, ∃ k v, p = .pair k v) ∨ (t.sort = "weak" ∧ ∀ p ∈ t.parts, ∃ n, p = .tgt n)
/-! ### arcs, and what is alive -/
structure Arc where
  link : List Key
  src : List Int
  tgt : Int
def kD : Key → PyData
  | .inl i => .int i
  | .inr z => .str z
def dArc (α : Arc) : PyData := .tuple [.tuple (α.link.map kD), .tuple (α.src.map .int), .int α.tgt]
def rootArc (r : Str × Int) : Arc := ⟨[.inr "root", .inr r.1], [], r.2⟩
def slotArc (n : Int) : Part → Option Arc
  | .pair k (some v) => some ⟨[.inr "slot", .inl n, .inl k], [n], v⟩
  | _ => none
def entryArc (n : Int) : Part → Option Arc
  | .pair k (some v) => some ⟨[.inr "entry", .inl n, .inl k], [n, k], v⟩
  | _ => none
def thingArcs (t : Thing) : List Arc := if t.sort = "record" then t.parts.filterMap (slotArc t.n) else if t.sort = "map" then t.parts.filterMap (entryArc t.n) else []
def arcsOf (s : Shot) : List Arc := s.roots.map rootArc ++ s.things.flatMap thingArcs
inductive Live (as : List Arc) : Int → Prop
  | mk {α : Arc} : α ∈ as → (∀ n ∈ α.src, Live as n) → Live as α.tgt
/-- what is closed under the arcs has all that is alive -/
theorem Live.sub {as : List Arc} {S : Int → Prop} (h : ∀ α ∈ as, (∀ n ∈ α.src, S n) → S α.tgt) {n : Int} (l : Live as n) : S n := by
  induction l with
  | mk m _ ih => exact h _ m ih
theorem kV_td {K : PySem.W.Frag} {H : Hp} : ∀ k : Key, Td K H (kV k) (kD k)
  | .inl i => .int i
  | .inr z => .str z
theorem kVs_td {K : PySem.W.Frag} {H : Hp} : ∀ ks : List Key, TdAll K H (ks.map kV) (ks.map kD)
  | [] => .nil
  | k :: r => .cons (kV_td k) (kVs_td r)
end Sn
namespace Sn
open PySem PySem.Spec PyProof.Rows L2
/-! ### nets: roots and rows; what the worklist of `met` does -/
structure Row where
  n : Int
  sort : Str
  parts : List Part
structure NetM where
  roots : List (Str × Int)
  rows : List Row
def pairOf : Part → Option (Int × Int)
  | .pair k (some v) => some (k, v)
  | _ => none
def pairsOf (r : Row) : List (Int × Int) := r.parts.filterMap pairOf
def slotA (n : Int) (p : Int × Int) : Arc := ⟨[.inr "slot", .inl n, .inl p.1], [n], p.2⟩
def entryA (n : Int) (p : Int × Int) : Arc := ⟨[.inr "entry", .inl n, .inl p.1], [n, p.1], p.2⟩
def rowArcs (r : Row) : List Arc := if r.sort = "record" then (pairsOf r).map (slotA r.n) else if r.sort = "map" then (pairsOf r).map (entryA r.n) else []
def netArcs (N : NetM) : List Arc := N.roots.map rootArc ++ N.rows.flatMap rowArcs
def isVal : Part → Bool
  | .pair _ none => false
  | _ => true
def rowOf (t : Thing) : Row := ⟨t.n, t.sort, if t.sort = "map" then t.parts.filter isVal else t.parts⟩
def netM (s : Shot) : NetM := ⟨s.roots, s.things.map rowOf⟩
theorem slot_pair (n : Int) (p : Part) : slotArc n p = (pairOf p).map (slotA n) := by
  cases p with
  | tgt m => rfl
  | pair k v => cases v <;> rfl
theorem entry_pair (n : Int) (p : Part) : entryArc n p = (pairOf p).map (entryA n) := by
  cases p with
  | tgt m => rfl
  | pair k v => cases v <;> rfl
theorem filterMap_map' {α β γ : Type} (f : α → Option β) (g : β → γ) (l : List α) : l.filterMap (fun x => (f x).map g) = (l.filterMap f).map g := by
  induction l with
  | nil => rfl
  | cons x l ih =>
    cases e : f x with
    | none => rw [List.filterMap_cons_none (by rw [e]; rfl), List.filterMap_cons_none e, ih]
    | some y => rw [List.filterMap_cons_some (b := g y) (by rw [e]; rfl), List.filterMap_cons_some e, List.map_cons, ih]
theorem vals_same : ∀ l : List Part, (l.filter isVal).filterMap pairOf = l.filterMap pairOf
  | [] => rfl
  | p :: l => by
    have ih := vals_same l
    cases p with
    | tgt m => rw [List.filter_cons_of_pos rfl, List.filterMap_cons_none rfl, List.filterMap_cons_none rfl, ih]
    | pair k v =>
      cases v with
      | none => rw [List.filter_cons_of_neg (show ¬ (isVal (Part.pair k none) = true) from Bool.false_ne_true), List.filterMap_cons_none rfl, ih]
      | some v => rw [List.filter_cons_of_pos rfl, List.filterMap_cons_some (f := pairOf) (b := (k, v)) rfl, List.filterMap_cons_some (f := pairOf) (b := (k, v)) rfl, ih]
theorem row_arcs (t : Thing) : rowArcs (rowOf t) = thingArcs t := by
  unfold rowArcs thingArcs pairsOf rowOf
  dsimp only
  by_cases h1 : t.sort = "record"
  · rw [if_pos h1, if_pos h1, if_neg (by rw [h1]; decide +kernel), ← filterMap_map']
    exact (congrArg (fun f => List.filterMap f t.parts) (funext fun p => slot_pair t.n p)).symm
  · rw [if_neg h1, if_neg h1]
    by_cases h2 : t.sort = "map"
    · rw [if_pos h2, if_pos h2, if_pos h2, vals_same, ← filterMap_map']
      exact (congrArg (fun f => List.filterMap f t.parts) (funext fun p => entry_pair t.n p)).symm
    · rw [if_neg h2, if_neg h2]
theorem net_arcs (s : Shot) : netArcs (netM s) = arcsOf s := by
  unfold netArcs netM arcsOf
  dsimp only
  rw [List.flatMap_map]
  exact congrArg (fun f => s.roots.map rootArc ++ s.things.flatMap f) (funext row_arcs)
/-- records and maps have pairs with objects -/
def OkRow (r : Row) : Prop := (r.sort = "record" ∧ ∃ ps : List (Int × Int), r.parts = ps.map fun p => .pair p.1 (some p.2)) ∨ (r.sort = "map" ∧ ∃ ps : List (Int × Int), r.parts = ps.map fun p => .pair p.1 (some p.2)) ∨ r.sort = "weak"
theorem pairs_of {r : Row} {ps : List (Int × Int)} (h : r.parts = ps.map fun p => .pair p.1 (some p.2)) : pairsOf r = ps := by
  unfold pairsOf
  rw [h]
  clear h
  induction ps with
  | nil => rfl
  | cons p ps ih => rw [List.map_cons, List.filterMap_cons_some (f := pairOf) (b := p) rfl, ih]
structure OkNet (N : NetM) : Prop where
  rows : ∀ r ∈ N.rows, OkRow r
  nodup : (N.rows.map Row.n).Nodup
  there : ∀ α ∈ netArcs N, α.tgt ∈ N.rows.map Row.n
  many : (netArcs N).length ≤ 1000
  len : N.rows.length ≤ 1000
theorem row_uniq {rs : List Row} (h : (rs.map Row.n).Nodup) {r r' : Row} (m : r ∈ rs) (m' : r' ∈ rs) (e : r.n = r'.n) : r = r' := by
  induction rs with
  | nil => exact absurd m List.not_mem_nil
  | cons x rs ih =>
    rw [List.map_cons] at h
    have hn := List.nodup_cons.mp h
    rcases List.mem_cons.mp m with rfl | m
    · rcases List.mem_cons.mp m' with rfl | m'
      · rfl
      · exact absurd (List.mem_map.mpr ⟨r', m', e.symm⟩) hn.1
    · rcases List.mem_cons.mp m' with q | m'
      · rw [q] at e
        exact absurd (List.mem_map.mpr ⟨r, m, e⟩) hn.1
      · exact ih hn.2 m m'
/-- what waits: values by their keys, in their order -/
def wOf (ps : List (Int × Int)) (n : Int) : List Int := (ps.filter fun p => decide (p.1 = n)).map (·.2)
theorem wOf_snoc (ps : List (Int × Int)) (s n v : Int) : wOf (ps ++ [(s, v)]) n = wOf ps n ++ (if s = n then [v] else []) := by
  unfold wOf
  rw [List.filter_append, List.map_append]
  by_cases h : s = n
  · rw [if_pos h, List.filter_cons_of_pos (p := fun p : Int × Int => decide (p.1 = n)) (decide_eq_true h)]
    rfl
  · rw [if_neg h, List.filter_cons_of_neg (p := fun p : Int × Int => decide (p.1 = n)) (by simpa using h)]
    rfl
theorem wOf_mem {ps : List (Int × Int)} {n v : Int} : v ∈ wOf ps n ↔ (n, v) ∈ ps := by
  unfold wOf
  constructor
  · intro h
    obtain ⟨p, hp, rfl⟩ := List.mem_map.mp h
    have := List.mem_filter.mp hp
    have e : p.1 = n := of_decide_eq_true this.2
    rw [← e]
    exact this.1
  · intro h
    exact List.mem_map.mpr ⟨(n, v), List.mem_filter.mpr ⟨h, decide_eq_true rfl⟩, rfl⟩
theorem wOf_len (ps : List (Int × Int)) (n : Int) : (wOf ps n).length ≤ ps.length := by
  unfold wOf
  rw [List.length_map]
  exact List.length_filter_le _ _
/-- what stands in the rows that are not met -/
def wsum (w : Row → Nat) (rs : List Row) (met : List Int) : Nat := ((rs.filter fun r => decide (r.n ∉ met)).map w).sum
theorem wsum_le (w : Row → Nat) (rs : List Row) (met : List Int) (n : Int) : wsum w rs (met ++ [n]) ≤ wsum w rs met := by
  unfold wsum
  induction rs with
  | nil => exact Nat.le_refl _
  | cons r rs ih =>
    by_cases m : r.n ∈ met
    · rw [List.filter_cons_of_neg (by simp [m]), List.filter_cons_of_neg (by simp [m])]
      exact ih
    · by_cases e : r.n = n
      · rw [List.filter_cons_of_neg (by simp [e]), List.filter_cons_of_pos (by simp [m]), List.map_cons, List.sum_cons]
        omega
      · rw [List.filter_cons_of_pos (by simp [m, e]), List.filter_cons_of_pos (by simp [m]), List.map_cons, List.map_cons, List.sum_cons, List.sum_cons]
        omega
theorem wsum_less (w : Row → Nat) {rs : List Row} {met : List Int} {r : Row} (hr : r ∈ rs) (h : r.n ∉ met) : wsum w rs (met ++ [r.n]) + w r ≤ wsum w rs met := by
  obtain ⟨a, b, rfl⟩ := List.append_of_mem hr
  have h1 := wsum_le w a met r.n
  have h2 := wsum_le w b met r.n
  unfold wsum at *
  rw [List.filter_append, List.filter_append, List.map_append, List.map_append, List.sum_append, List.sum_append, List.filter_cons_of_neg (by simp), List.filter_cons_of_pos (by simp [h]), List.map_cons, List.sum_cons]
  omega
theorem wsum_nil (w : Row → Nat) (rs : List Row) : wsum w rs [] = (rs.map w).sum := by
  unfold wsum
  rw [List.filter_eq_self.mpr (fun r _ => by simp)]
theorem wsum_one_nil (rs : List Row) : wsum (fun _ => 1) rs [] = rs.length := by
  rw [wsum_nil]
  induction rs with
  | nil => rfl
  | cons r rs ih =>
    rw [List.map_cons, List.sum_cons, ih, List.length_cons]
    omega
def adds (r : Row) (met : List Int) : List Int := if r.sort = "record" then (pairsOf r).map (·.2) else if r.sort = "map" then ((pairsOf r).filter fun p => decide (p.1 ∈ met)).map (·.2) else []
def waits (r : Row) (met : List Int) : List (Int × Int) := if r.sort = "map" then (pairsOf r).filter fun p => decide (p.1 ∉ met) else []
theorem filt_both {α : Type} (l : List α) (p : α → Prop) [DecidablePred p] : (l.filter fun x => decide (p x)).length + (l.filter fun x => decide (¬ p x)).length = l.length := by
  induction l with
  | nil => rfl
  | cons x l ih =>
    by_cases h : p x
    · rw [List.filter_cons_of_pos (by simpa using h), List.filter_cons_of_neg (by simpa using h), List.length_cons, List.length_cons]
      omega
    · rw [List.filter_cons_of_neg (by simpa using h), List.filter_cons_of_pos (by simpa using h), List.length_cons, List.length_cons]
      omega
theorem adds_waits (r : Row) (met : List Int) : (adds r met).length + (waits r met).length = (rowArcs r).length := by
  unfold adds waits rowArcs
  by_cases h1 : r.sort = "record"
  · rw [if_pos h1, if_pos h1, if_neg (by rw [h1]; decide +kernel), List.length_map, List.length_map]
    rfl
  · rw [if_neg h1, if_neg h1]
    by_cases h2 : r.sort = "map"
    · rw [if_pos h2, if_pos h2, if_pos h2, List.length_map, List.length_map]
      exact filt_both (pairsOf r) fun p => p.1 ∈ met
    · rw [if_neg h2, if_neg h2, if_neg h2]
      rfl
/-- the state of the worklist: met, ahead, waiting -/
structure WlInv (N : NetM) (B met ys : List Int) (ps : List (Int × Int)) (m : Nat) : Prop where
  live : ∀ n ∈ met, Live ((netArcs N).filter fun α => decide (α.tgt ∉ B)) n
  nodup : met.Nodup
  can : ∀ y ∈ ys, ∃ α ∈ netArcs N, α.tgt = y ∧ ∀ s ∈ α.src, s ∈ met
  wai : ∀ p ∈ ps, ∃ α ∈ netArcs N, α.tgt = p.2 ∧ ∀ s ∈ α.src, s ∈ met ∨ s = p.1
  all : ∀ α ∈ netArcs N, (∀ s ∈ α.src, s ∈ met) → α.tgt ∈ met ∨ α.tgt ∈ ys ∨ α.tgt ∈ B
  wal : ∀ r ∈ N.rows, r.sort = "map" → r.n ∈ met → ∀ p ∈ pairsOf r, p.1 ∉ met → p ∈ ps
  many : met.length + wsum (fun _ => 1) N.rows met ≤ 1000
  me : m = ys.length + wsum (fun r => (rowArcs r).length) N.rows met + (ps.filter fun p => decide (p.1 ∉ met)).length
  le : m ≤ 1000
  pl : ps.length + wsum (fun r => (rowArcs r).length) N.rows met ≤ 1000
theorem arc_cases {N : NetM} {α : Arc} (h : α ∈ netArcs N) : (∃ r ∈ N.roots, α = rootArc r) ∨ (∃ r ∈ N.rows, r.sort = "record" ∧ ∃ p ∈ pairsOf r, α = slotA r.n p) ∨ (∃ r ∈ N.rows, r.sort = "map" ∧ ∃ p ∈ pairsOf r, α = entryA r.n p) := by
  rcases List.mem_append.mp h with h | h
  · obtain ⟨r, hr, rfl⟩ := List.mem_map.mp h
    exact .inl ⟨r, hr, rfl⟩
  · obtain ⟨r, hr, h⟩ := List.mem_flatMap.mp h
    unfold rowArcs at h
    by_cases h1 : r.sort = "record"
    · rw [if_pos h1] at h
      obtain ⟨p, hp, rfl⟩ := List.mem_map.mp h
      exact .inr (.inl ⟨r, hr, h1, p, hp, rfl⟩)
    · rw [if_neg h1] at h
      by_cases h2 : r.sort = "map"
      · rw [if_pos h2] at h
        obtain ⟨p, hp, rfl⟩ := List.mem_map.mp h
        exact .inr (.inr ⟨r, hr, h2, p, hp, rfl⟩)
      · rw [if_neg h2] at h
        exact absurd h List.not_mem_nil
theorem slot_in {N : NetM} {r : Row} (hr : r ∈ N.rows) (h : r.sort = "record") {p : Int × Int} (hp : p ∈ pairsOf r) : slotA r.n p ∈ netArcs N := by
  refine List.mem_append.mpr (.inr (List.mem_flatMap.mpr ⟨r, hr, ?_⟩))
  unfold rowArcs
  rw [if_pos h]
  exact List.mem_map.mpr ⟨p, hp, rfl⟩
theorem entry_in {N : NetM} {r : Row} (hr : r ∈ N.rows) (h : r.sort = "map") {p : Int × Int} (hp : p ∈ pairsOf r) : entryA r.n p ∈ netArcs N := by
  refine List.mem_append.mpr (.inr (List.mem_flatMap.mpr ⟨r, hr, ?_⟩))
  unfold rowArcs
  rw [if_neg (by rw [h]; decide +kernel), if_pos h]
  exact List.mem_map.mpr ⟨p, hp, rfl⟩
theorem WlInv.start {N : NetM} {B : List Int} (ok : OkNet N) : ∃ m, WlInv N B [] (N.roots.map (·.2)) [] m := by
  have h0 : (netArcs N).length = N.roots.length + (N.rows.map fun r => (rowArcs r).length).sum := by
    unfold netArcs
    rw [List.length_append, List.length_map, List.length_flatMap]
  have h1 := ok.many
  refine ⟨_, ⟨fun n h => absurd h List.not_mem_nil, List.nodup_nil, fun y hy => ?_, fun p h => absurd h List.not_mem_nil, fun α ha hs => ?_, fun r _ _ h => absurd h List.not_mem_nil, ?_, rfl, ?_, ?_⟩⟩
  · obtain ⟨r, hr, rfl⟩ := List.mem_map.mp hy
    exact ⟨rootArc r, List.mem_append.mpr (.inl (List.mem_map.mpr ⟨r, hr, rfl⟩)), rfl, fun s h => absurd h List.not_mem_nil⟩
  · rcases arc_cases ha with ⟨r, hr, rfl⟩ | ⟨r, hr, _, p, hp, rfl⟩ | ⟨r, hr, _, p, hp, rfl⟩
    · exact .inr (.inl (List.mem_map.mpr ⟨r, hr, rfl⟩))
    · exact absurd (hs r.n List.mem_cons_self) List.not_mem_nil
    · exact absurd (hs r.n List.mem_cons_self) List.not_mem_nil
  · rw [wsum_one_nil, List.length_nil]
    have := ok.len
    omega
  · rw [wsum_nil, List.length_map, List.filter_nil, List.length_nil]
    omega
  · rw [wsum_nil, List.length_nil]
    omega
/-- popped, but met or barred -/
theorem WlInv.skip {N : NetM} {B met zs : List Int} {n : Int} {ps : List (Int × Int)} {m : Nat} (h : WlInv N B met (zs ++ [n]) ps m) (hn : n ∈ met ∨ n ∈ B) : ∃ m', m' < m ∧ WlInv N B met zs ps m' := by
  have e := h.me
  rw [List.length_append, List.length_singleton] at e
  have l := h.le
  refine ⟨_, ?_, ⟨h.live, h.nodup, fun y hy => h.can y (List.mem_append.mpr (.inl hy)), h.wai, fun α ha hs => ?_, h.wal, h.many, rfl, by omega, h.pl⟩⟩
  · omega
  · rcases h.all α ha hs with z | z | z
    · exact .inl z
    · rcases List.mem_append.mp z with z | z
      · exact .inr (.inl z)
      · rw [List.mem_singleton.mp z]
        rcases hn with q | q
        · exact .inl q
        · exact .inr (.inr q)
    · exact .inr (.inr z)
theorem filt_split (ps : List (Int × Int)) {met : List Int} {n : Int} (hn : n ∉ met) : (ps.filter fun p => decide (p.1 ∉ met)).length = (ps.filter fun p => decide (p.1 ∉ met ++ [n])).length + (wOf ps n).length := by
  unfold wOf
  rw [List.length_map]
  induction ps with
  | nil => rfl
  | cons p ps ih =>
    by_cases e : p.1 = n
    · rw [List.filter_cons_of_pos (by simp [e, hn]), List.filter_cons_of_neg (by simp [e]), List.filter_cons_of_pos (by simp [e]), List.length_cons, List.length_cons]
      omega
    · by_cases m : p.1 ∈ met
      · rw [List.filter_cons_of_neg (by simp [m]), List.filter_cons_of_neg (by simp [m]), List.filter_cons_of_neg (by simp [e])]
        exact ih
      · rw [List.filter_cons_of_pos (by simp [m]), List.filter_cons_of_pos (by simp [m, e]), List.filter_cons_of_neg (by simp [e]), List.length_cons, List.length_cons]
        omega
theorem waits_key {r : Row} {met : List Int} {p : Int × Int} (h : p ∈ waits r met) : r.sort = "map" ∧ p ∈ pairsOf r ∧ p.1 ∉ met := by
  unfold waits at h
  by_cases h2 : r.sort = "map"
  · rw [if_pos h2] at h
    have := List.mem_filter.mp h
    exact ⟨h2, this.1, of_decide_eq_true this.2⟩
  · rw [if_neg h2] at h
    exact absurd h List.not_mem_nil
/-- a new object is met -/
theorem WlInv.step {N : NetM} {B met zs : List Int} {r : Row} {ps : List (Int × Int)} {m : Nat} (ok : OkNet N) (h : WlInv N B met (zs ++ [r.n]) ps m) (hr : r ∈ N.rows) (hm : r.n ∉ met) (hB : r.n ∉ B) :
    ∃ m', m' < m ∧ WlInv N B (met ++ [r.n]) (zs ++ adds r (met ++ [r.n]) ++ wOf (ps ++ waits r (met ++ [r.n])) r.n) (ps ++ waits r (met ++ [r.n])) m' := by
  have e := h.me
  rw [List.length_append, List.length_singleton] at e
  have l := h.le
  have hpl := h.pl
  have w1 := wsum_less (fun _ => 1) hr hm
  have w2 := wsum_less (fun r => (rowArcs r).length) hr hm
  have aw := adds_waits r (met ++ [r.n])
  have fs := filt_split ps hm
  have many := h.many
  have sub : ∀ {s}, s ∈ met → s ∈ met ++ [r.n] := fun q => List.mem_append.mpr (.inl q)
  have self : r.n ∈ met ++ [r.n] := List.mem_append.mpr (.inr List.mem_cons_self)
  have wn : wOf (ps ++ waits r (met ++ [r.n])) r.n = wOf ps r.n := by
    unfold wOf
    rw [List.filter_append, List.filter_eq_nil_iff (l := waits r _) |>.mpr (fun p hp q => ?_), List.append_nil]
    have := (waits_key hp).2.2
    rw [of_decide_eq_true q] at this
    exact this self
  have fw : ((ps ++ waits r (met ++ [r.n])).filter fun p => decide (p.1 ∉ met ++ [r.n])).length = (ps.filter fun p => decide (p.1 ∉ met ++ [r.n])).length + (waits r (met ++ [r.n])).length := by
    rw [List.filter_append, List.length_append, List.filter_eq_self (l := waits r _) |>.mpr (fun p hp => decide_eq_true (waits_key hp).2.2)]
  rw [wn]
  refine ⟨_, ?_, ⟨fun n hn => ?_, ?_, fun y hy => ?_, fun p hp => ?_, fun α ha hs => ?_, fun r' hr' hs hn p hp hk => ?_, ?_, rfl, ?_, ?_⟩⟩
  · rw [fw, List.length_append, List.length_append]
    try dsimp only at w2
    omega
  · rcases List.mem_append.mp hn with z | z
    · exact h.live n z
    · rw [List.mem_singleton.mp z]
      obtain ⟨α, ha, ht, hs⟩ := h.can r.n (List.mem_append.mpr (.inr List.mem_cons_self))
      rw [← ht]
      exact .mk (List.mem_filter.mpr ⟨ha, decide_eq_true (by rw [ht]; exact hB)⟩) fun s q => h.live s (hs s q)
  · rw [List.nodup_append]
    refine ⟨h.nodup, by simp, fun a ha b hb q => ?_⟩
    rw [List.mem_singleton.mp hb] at q
    rw [q] at ha
    exact hm ha
  · rcases List.mem_append.mp hy with z | z
    · rcases List.mem_append.mp z with z | z
      · obtain ⟨α, ha, ht, hs⟩ := h.can y (List.mem_append.mpr (.inl z))
        exact ⟨α, ha, ht, fun s q => sub (hs s q)⟩
      · unfold adds at z
        by_cases h1 : r.sort = "record"
        · rw [if_pos h1] at z
          obtain ⟨p, hp, rfl⟩ := List.mem_map.mp z
          refine ⟨_, slot_in hr h1 hp, rfl, fun s q => ?_⟩
          rw [List.mem_singleton.mp q]
          exact self
        · rw [if_neg h1] at z
          by_cases h2 : r.sort = "map"
          · rw [if_pos h2] at z
            obtain ⟨p, hp, rfl⟩ := List.mem_map.mp z
            have hp2 := List.mem_filter.mp hp
            refine ⟨_, entry_in hr h2 hp2.1, rfl, fun s q => ?_⟩
            rcases List.mem_cons.mp q with rfl | q
            · exact self
            · rw [List.mem_singleton.mp q]
              exact of_decide_eq_true hp2.2
          · rw [if_neg h2] at z
            exact absurd z List.not_mem_nil
    · obtain ⟨α, ha, ht, hs⟩ := h.wai _ (wOf_mem.mp z)
      refine ⟨α, ha, ht, fun s q => ?_⟩
      rcases hs s q with q | q
      · exact sub q
      · rw [q]
        exact self
  · rcases List.mem_append.mp hp with z | z
    · obtain ⟨α, ha, ht, hs⟩ := h.wai p z
      exact ⟨α, ha, ht, fun s q => (hs s q).imp sub id⟩
    · obtain ⟨h2, hp2, _⟩ := waits_key z
      refine ⟨_, entry_in hr h2 hp2, rfl, fun s q => ?_⟩
      rcases List.mem_cons.mp q with rfl | q
      · exact .inl self
      · exact .inr (List.mem_singleton.mp q)
  · have old : (∀ s ∈ α.src, s ∈ met) → α.tgt ∈ met ++ [r.n] ∨ α.tgt ∈ zs ++ adds r (met ++ [r.n]) ++ wOf ps r.n ∨ α.tgt ∈ B := fun q => by
      rcases h.all α ha q with z | z | z
      · exact .inl (sub z)
      · rcases List.mem_append.mp z with z | z
        · exact .inr (.inl (List.mem_append.mpr (.inl (List.mem_append.mpr (.inl z)))))
        · exact .inl (List.mem_append.mpr (.inr z))
      · exact .inr (.inr z)
    have inA : ∀ {v}, v ∈ adds r (met ++ [r.n]) → v ∈ zs ++ adds r (met ++ [r.n]) ++ wOf ps r.n := fun q => List.mem_append.mpr (.inl (List.mem_append.mpr (.inr q)))
    rcases arc_cases ha with ⟨r', hr', rfl⟩ | ⟨r', hr', h1, p, hp, rfl⟩ | ⟨r', hr', h2, p, hp, rfl⟩
    · exact old fun s q => absurd q List.not_mem_nil
    · rcases List.mem_append.mp (hs r'.n List.mem_cons_self) with z | z
      · exact old fun s q => by
          rw [List.mem_singleton.mp q]
          exact z
      · have er := row_uniq ok.nodup hr' hr (List.mem_singleton.mp z)
        subst er
        refine .inr (.inl (inA ?_))
        unfold adds
        rw [if_pos h1]
        exact List.mem_map.mpr ⟨p, hp, rfl⟩
    · have hk := hs p.1 (List.mem_cons_of_mem _ List.mem_cons_self)
      rcases List.mem_append.mp (hs r'.n List.mem_cons_self) with z | z
      · rcases List.mem_append.mp hk with k | k
        · exact old fun s q => by
            rcases List.mem_cons.mp q with rfl | q
            · exact z
            · rw [List.mem_singleton.mp q]
              exact k
        · have k' := List.mem_singleton.mp k
          have hps := h.wal r' hr' h2 z p hp (by rw [k']; exact hm)
          refine .inr (.inl (List.mem_append.mpr (.inr (wOf_mem.mpr ?_))))
          rw [← k']
          exact hps
      · have er := row_uniq ok.nodup hr' hr (List.mem_singleton.mp z)
        subst er
        refine .inr (.inl (inA ?_))
        unfold adds
        rw [if_neg (by rw [h2]; decide +kernel), if_pos h2]
        exact List.mem_map.mpr ⟨p, List.mem_filter.mpr ⟨hp, decide_eq_true hk⟩, rfl⟩
  · rcases List.mem_append.mp hn with z | z
    · exact List.mem_append.mpr (.inl (h.wal r' hr' hs z p hp fun q => hk (sub q)))
    · have er := row_uniq ok.nodup hr' hr (List.mem_singleton.mp z)
      subst er
      refine List.mem_append.mpr (.inr ?_)
      unfold waits
      rw [if_pos hs]
      exact List.mem_filter.mpr ⟨hp, decide_eq_true hk⟩
  · rw [List.length_append, List.length_singleton]
    omega
  · rw [fw, List.length_append, List.length_append]
    try dsimp only at w2
    omega
  · rw [List.length_append]
    try dsimp only at w2
    omega
/-- when nothing is ahead any more -/
theorem WlInv.done {N : NetM} {B met : List Int} {ps : List (Int × Int)} {m : Nat} (h : WlInv N B met [] ps m) : ∀ n, n ∈ met ↔ Live ((netArcs N).filter fun α => decide (α.tgt ∉ B)) n := by
  intro n
  refine ⟨h.live n, fun l => ?_⟩
  refine Live.sub (S := fun n => n ∈ met) (fun α ha hs => ?_) l
  have ha2 := List.mem_filter.mp ha
  rcases h.all α ha2.1 hs with z | z | z
  · exact z
  · exact absurd z List.not_mem_nil
  · exact absurd z (of_decide_eq_true ha2.2)
end Sn
namespace Gd
open PySem PySem.Spec PyProof.Rows L2 SrtO
/-! sorted of tuples of keys, of any length. -/
/-- where they first differ, both are ints or both are texts -/
def Ali : List Key → List Key → Prop
  | a :: r, b :: s => (a = b → Ali r s) ∧ (a ≠ b → a.isLeft = b.isLeft)
  | _, _ => True
def IsKs (h : Heap) (v : Value) (ks : List Key) : Prop := ∃ a o us n, v = .ref a ∧ h.get? a = some o ∧ o.cls = .type "tuple" ∧ o.data = .seq us n ∧ Vals (ks.map kV) us.toList
theorem IsKs.keeps {h h' : Heap} {v : Value} {ks : List Key} (p : IsKs h v ks) (k : ∀ b o, h.get? b = some o → o.cls = .type "tuple" → h'.get? b = some o) : IsKs h' v ks := by
  obtain ⟨a, o, us, n, e, ho, hc, hd⟩ := p
  exact ⟨a, o, us, n, e, k _ _ ho hc, hc, hd⟩
section
variable {prog : Program} {w : World} {A : Around} {E : Value → Shared → Prop} {s : Shared}
theorem oneLt_strs (c : Bool) {p q : Str} {t u : Tok} {Q : Bool → Shared → Prop} (h : Q (decide (p.cps.toList < q.cps.toList)) s) : wpAny (model prog w) A (oneLt' c (.str p t) (.str q u)) Q E s := by
  cases c with
  | true => exact oneLt_str h
  | false => exact PySem.W.kat_one _ _ (PyProof.Rows.lt_str (Q := PySem.W.BoolBack Q) h)
theorem oneLt_is (c : Bool) {p q : Int} {t u : Tok} {Q : Bool → Shared → Prop} (h : Q (decide (p < q)) s) : wpAny (model prog w) A (oneLt' c (.int p t) (.int q u)) Q E s := by
  cases c with
  | true => exact oneLt_int h
  | false => exact PySem.W.kat_one _ _ (PyProof.Rows.lt_int (Q := PySem.W.BoolBack Q) h)
theorem kat_keys {b : Bool} {Q : Bool → Shared → Prop} : ∀ (ks js : List Key) (us vs : List Value) (i : Nat) (fin : Bool), Vals (ks.map kV) us → Vals (js.map kV) vs → Ali ks js → fin = decide (ks.length < js.length) → Q (ksLt ks js) s →
    PySem.W.KatLex prog w A b fin Q (us.zip vs) i s
  | [], [], _, _, i, fin, h1, h2, _, hf, q => by
    cases h1
    rw [hf]
    exact PySem.W.kat_nil q
  | [], _ :: _, _, _, i, fin, h1, h2, _, hf, q => by
    cases h1
    rw [hf]
    exact PySem.W.kat_nil (by simpa [ksLt] using q)
  | _ :: _, [], _, _, i, fin, h1, h2, _, hf, q => by
    cases h2
    rw [List.zip_nil_right, hf]
    exact PySem.W.kat_nil (by simpa [ksLt] using q)
  | a :: ks, c :: js, _, _, i, fin, h1, h2, al, hf, q => by
    cases h1 with
    | cons r1 h1 =>
      cases h2 with
      | cons r2 h2 =>
        rw [ksLt] at q
        have hf2 : fin = decide (ks.length < js.length) := by
          rw [hf, List.length_cons, List.length_cons]
          exact decide_eq_decide.mpr (by omega)
        rw [List.zip_cons_cons]
        match a, c, r1, r2, al, q with
        | .inl x, .inl y, r1, r2, al, q =>
          obtain ⟨t, rfl⟩ := r1
          obtain ⟨u, rfl⟩ := r2
          refine PySem.W.kat_cons (SeqAt.EqAt.int_int x t y u prog w _ _ ?_)
          refine PySem.W.kat_go (fun e => ?_) (fun e => ?_)
          · have ex : x = y := by simpa using e
            subst ex
            rw [if_pos rfl] at q
            exact PySem.W.kat_yes (kat_keys ks js _ _ (i + 1) fin h1 h2 (al.1 rfl) hf2 q)
          · have ex : ¬ x = y := by simpa using e
            rw [if_neg (fun z => ex (Sum.inl.inj z))] at q
            exact PySem.W.kat_no (oneLt_is _ q)
        | .inr x, .inr y, r1, r2, al, q =>
          obtain ⟨t, rfl⟩ := r1
          obtain ⟨u, rfl⟩ := r2
          refine PySem.W.kat_cons (SeqAt.EqAt.str_str x t y u prog w _ _ ?_)
          refine PySem.W.kat_go (fun e => ?_) (fun e => ?_)
          · have ex : x = y := by simpa using e
            subst ex
            rw [if_pos rfl] at q
            exact PySem.W.kat_yes (kat_keys ks js _ _ (i + 1) fin h1 h2 (al.1 rfl) hf2 q)
          · have ex : ¬ x = y := by simpa using e
            rw [if_neg (fun z => ex (Sum.inr.inj z))] at q
            exact PySem.W.kat_no (oneLt_strs _ q)
        | .inl x, .inr y, _, _, al, _ => exact absurd (al.2 (fun z => nomatch z)) (by simp)
        | .inr x, .inl y, _, _, al, _ => exact absurd (al.2 (fun z => nomatch z)) (by simp)
theorem swo_ks {α : Type} (k : α → List Key) : Swo fun v u => ksLt (k v) (k u) := ⟨fun _ _ h => ksLt_as h, fun _ _ _ h g => ksLt_ntr g h⟩
theorem keys_cmp {vs : List Value} {k : Value → List Key} (hp : ∀ v ∈ vs, IsKs s.heap v (k v)) (al : ∀ v ∈ vs, ∀ u ∈ vs, Ali (k v) (k u)) : Cmp prog w A s (tuples' true) (fun p => p.1 ∈ vs) (lt2 fun v u => ksLt (k v) (k u)) := by
  intro p q hm hm'
  have h1 := hp _ hm
  have h2 := hp _ hm'
  have h3 := al _ hm _ hm'
  show wpAny (model prog w) A (keyLt' (tuples' true) p.1 q.1) (fun r s' => s' = s ∧ r = ksLt (k p.1) (k q.1)) (fun _ _ => False) s
  generalize k p.1 = ks at h1 h3 ⊢
  generalize k q.1 = js at h2 h3 ⊢
  obtain ⟨a, o, us, n, e, ho, hc, hd, r1⟩ := h1
  obtain ⟨a', o', us', n', e', ho', hc', hd', r2⟩ := h2
  rw [e, e']
  refine PySem.W.kat_lt ho hd ho' hd' ?_
  refine kat_keys ks js _ _ 0 _ r1 r2 h3 ?_ ⟨rfl, rfl⟩
  have l1 := r1.length
  have l2 := r2.length
  rw [List.length_map] at l1 l2
  rw [l1, l2, Array.length_toList, Array.length_toList]
theorem firsts_ks {h : Heap} {k : Value → List Key} : ∀ {vs : List Value}, (∀ v ∈ vs, IsKs h v (k v) ∧ ∃ z r, k v = .inr z :: r) → ∃ fs : List Value, PySem.W.KatTups h vs fs ∧ fs.length = vs.length ∧ ∀ f ∈ fs, ∃ x t, f = Value.str x t
  | [], _ => ⟨[], PySem.W.KatTups.nil, rfl, fun _ hm => by simp at hm⟩
  | v :: vs, hp => by
    obtain ⟨fs, h1, h2, h3⟩ := firsts_ks (vs := vs) fun v' hm => hp v' (List.mem_cons_of_mem _ hm)
    obtain ⟨⟨a, o, us, n, e, ho, hc, hd, rel⟩, z, r, ek⟩ := hp v (List.mem_cons_self ..)
    subst e
    rw [ek] at rel
    obtain ⟨u0, e0, t, rfl⟩ := rel.get (i := 0) (x := .str z) rfl
    refine ⟨.str z t :: fs, PySem.W.KatTups.cons ho hc hd (by rw [← Array.getElem?_toList]; exact e0) h1, by rw [List.length_cons, List.length_cons, h2], fun f hm => ?_⟩
    rcases List.mem_cons.mp hm with rfl | hm
    · exact ⟨z, t, rfl⟩
    · exact h3 f hm
theorem keys_sortable {a : Addr} {vs : List Value} {k : Value → List Key} (h0 : 0 < vs.length) (hp : ∀ v ∈ vs, IsKs s.heap v (k v) ∧ ∃ z r, k v = .inr z :: r) (al : ∀ v ∈ vs, ∀ u ∈ vs, Ali (k v) (k u)) (ha : ∀ o, s.heap.get? a = some o → o.cls ≠ .type "tuple") :
    SortableO prog w A s a vs fun v u => ksLt (k v) (k u) := by
  intro h' keep
  have hp' : ∀ v ∈ vs, IsKs h' v (k v) ∧ ∃ z r, k v = .inr z :: r := fun v hm => ⟨(hp v hm).1.keeps fun b o e c => keep b o (fun z => by subst z; exact ha o e c) e, (hp v hm).2⟩
  obtain ⟨fs, h1, h2, h3⟩ := firsts_ks hp'
  refine ⟨tuples' true, fun Q E hq => ?_, keys_cmp (fun v hm => (hp' v hm).1) al⟩
  refine PySem.W.kat_kind (T := .type "str") h1 (by omega) (fun f hm => ?_) (by rfl) ?_
  · obtain ⟨x, t, rfl⟩ := h3 f hm
    exact PySem.W.Looks.now
  · have e : (Value.type "str" != Value.type "tuple") = true := by first | decide +kernel | rfl | decide
    rw [e]
    exact hq
theorem sorted_keys {l : Addr} {vs : List Value} {k : Value → List Key} {Q : Value → Shared → Prop} (hl : s.heap.IsList l vs.toArray) (hz : vs.length ≤ sizeLine) (hp : ∀ v ∈ vs, IsKs s.heap v (k v) ∧ ∃ z r, k v = .inr z :: r) (al : ∀ v ∈ vs, ∀ u ∈ vs, Ali (k v) (k u))
    (h : ∀ (h' : Heap) (d : Addr) (out : List Value), Srtd (fun v u => ksLt (k v) (k u)) out → Stb (fun v u => ksLt (k v) (k u)) out vs → (∀ b o, s.heap.get? b = some o → h'.get? b = some o) → s.heap.objs.size ≤ d → (∃ n, h'.get? d = some (seqObj "list" out.toArray n)) → Q (.ref d) { s with heap := h' }) :
    wpAny (model prog w) A (call (.builtin "sorted") [.ref l]) Q E s := by
  refine sorted_ord (swo_ks k) hl hz (fun h2 h₁ a ha kk => ?_) fun out hs hb => ?_
  · refine keys_sortable (s := { s with heap := h₁ }) (by omega) (fun v hm => ⟨(hp v hm).1.keeps fun b o e _ => (kk b o e).2, (hp v hm).2⟩) al fun o e => ?_
    have e' : some o = some (seqObj "list" vs.toArray 0) := e.symm.trans ha
    cases e'
    intro c
    exact absurd (Value.type.inj c) (by decide)
  · exact h _ _ out hs hb (fun b o e => sortedAll_old e) (Nat.le_succ _) (sortedAll_at s.heap vs out.toArray)
end
abbrev ltK (k : V → List Key) (x y : V) : Bool := ksLt (k x) (k y)
/-- sorted(xs), xs a list of tuples of keys (k says which), each with a text ahead -/
def rSortedK (K : PySem.W.Frag) : List V → Hp → VK → Prop := fun vs H Q => ∃ (a : Addr) (xs : List V) (k : V → List Key), vs = [V.ref a] ∧ SqL K H a xs ∧ (∀ x ∈ xs, ∃ t z r, x = V.ref t ∧ k x = .inr z :: r ∧ H t = some (.tup ((k x).map kV))) ∧
  (∀ x ∈ xs, ∀ y ∈ xs, Ali (k x) (k y)) ∧ ∀ ys p, SrtO.Srtd (ltK k) ys → SrtO.Stb (ltK k) ys xs → H p = none → Q (.ref p) (upd H p (.lst ys))
section
variable {X : Cx}
theorem cr_sortedK : CallR X (.builtin "sorted") (rSortedK X.K) := by
  intro pins s σ H vs us Q I r h
  obtain ⟨a, xs, k, rfl, hs, hx, al, q⟩ := h
  obtain ⟨its, rv, hl, hz⟩ := I.list hs
  obtain ⟨u, rfl, ru⟩ := vals1 r
  obtain rfl : u = Value.ref a := ru
  obtain ⟨e1, e2⟩ := refs_back rv fun x m => by
    obtain ⟨t, _, _, e, _⟩ := hx x m
    exact ⟨t, e⟩
  have inx : ∀ v ∈ its, backV v ∈ xs := fun v hv => by rw [e1]; exact List.mem_map.mpr ⟨_, hv, rfl⟩
  refine sorted_keys (k := fun u => k (backV u)) hl.isList (by rw [← rv.length]; exact hz) (fun v hv => ?_) (fun v hv u hu => al _ (inx v hv) _ (inx u hu)) fun h' d out h1 h2 kp hd hn => ?_
  · obtain ⟨t, rfl⟩ := e2 v hv
    obtain ⟨t', z, r, e, ek, ht⟩ := hx _ (inx _ hv)
    cases e
    obtain ⟨_, its2, r2, o, ho, hc, n, hd⟩ := I.hok _ _ ht
    exact ⟨⟨t, o, its2.toArray, n, rfl, ho, hc, hd, r2⟩, z, r, ek⟩
  · have h3 : ∀ u ∈ out, ∃ a, u = Value.ref a := fun u hu => e2 u (h2.perm.mem_iff.mp hu)
    obtain ⟨n, hn⟩ := hn
    have hb : SrtO.Stb (ltK k) (out.map backV) xs := by
      rw [e1]
      exact SrtO.Stb.map (swo_ks k) backV h2
    refine ⟨.ref d, upd H d (.lst (out.map backV)), I.laid (t' := s.toks) kp hd ⟨?_, out, n, vals_back h3, hn⟩, rfl, q _ d (SrtO.srtd_map h1) hb (I.hok.fresh hd)⟩
    rw [hb.len]
    exact hz
end
end Gd
namespace Gd
open PySem PySem.Spec PyProof.Rows L2
/-! Facts of the data of a tuple of small ints. -/
theorem ints_show : ∀ ns : List Int, (∀ n ∈ ns, n.natAbs < 10 ^ 9) → PyData.showableAll (ns.map .int) = true
  | [], _ => rfl
  | n :: r, h => by
    rw [List.map_cons, PyData.showableAll, ints_show r fun m hm => h m (List.mem_cons_of_mem _ hm), Bool.and_true]
    rw [PyData.showable]
    refine decide_eq_true ?_
    have h1 := h n List.mem_cons_self
    by_cases z : n.natAbs = 0
    · rw [z]
      decide
    · exact Nat.lt_of_lt_of_le ((Nat.log2_lt z).mpr (Nat.lt_of_lt_of_le h1 (by decide : (10 : Nat) ^ 9 ≤ 2 ^ 30))) (by decide)
theorem ints_noDict : ∀ ns : List Int, PyData.hasDictAll (ns.map .int) = false
  | [] => rfl
  | n :: r => by
    rw [List.map_cons, PyData.hasDictAll, ints_noDict r, PyData.hasDict]
    rfl
theorem ints_depth : ∀ ns : List Int, PyData.depthAll (ns.map .int) = 0
  | [] => rfl
  | n :: r => by
    rw [List.map_cons, PyData.depthAll, ints_depth r, PyData.depth]
    rfl
theorem ints_lay : ∀ ns : List Int, PyData.canLayAll0 (ns.map .int) = true
  | [] => rfl
  | n :: r => by
    rw [List.map_cons, PyData.canLayAll0, ints_lay r, PyData.canLay0]
    rfl
theorem int_len {n : Int} (h : n.natAbs < 10 ^ 9) : ((toString n : String) : Str).length ≤ 10 := by
  have e := int_text_length_le10 (a := n) (k := 9) (by decide) h
  rw [PySem.ofString_length]
  exact e
theorem ints_piled : ∀ ns : List Int, (∀ n ∈ ns, n.natAbs < 10 ^ 9) → piled (PyData.shownAll (ns.map .int)) ≤ 12 * ns.length
  | [], _ => Nat.le_refl _
  | n :: r, h => by
    have ih := ints_piled r fun m hm => h m (List.mem_cons_of_mem _ hm)
    have h1 := int_len (h n List.mem_cons_self)
    rw [List.map_cons, PyData.shownAll, piled_cons, PyData.shown, List.length_cons]
    omega
theorem tupI_facts {ns : List Int} (h : ∀ n ∈ ns, n.natAbs < 10 ^ 9) (hl : ns.length ≤ 1000000) : (PyData.tuple (ns.map .int)).showable = true ∧ (PyData.tuple (ns.map .int)).hasDict = false ∧ (PyData.tuple (ns.map .int)).depth ≤ 40 ∧ (PyData.tuple (ns.map .int)).shown.length ≤ sizeLine := by
  refine ⟨?_, ?_, ?_, ?_⟩
  · rw [PyData.showable]
    exact ints_show ns h
  · rw [PyData.hasDict]
    exact ints_noDict ns
  · rw [PyData.depth, ints_depth]
    decide
  · rw [PyData.shown]
    have h1 := fmt_text (PyData.shownAll (ns.map .int))
    have h2 := ints_piled ns h
    have h3 : sizeLine = 2 ^ 24 := rfl
    omega
theorem tupI_shaped (ns : List Int) : SeqAt.shaped (PyData.tuple (ns.map .int)) = true := by
  unfold SeqAt.shaped
  rw [PyData.canLay0, ints_lay, PyData.depth, ints_depth]
  rfl
theorem tupI_eqv (ns : List Int) : PyData.eqv (PyData.tuple (ns.map .int)) (PyData.tuple (ns.map .int)) = true := PySem.SeqAt.eqv_refl _ (by rw [PyData.canLay0]; exact ints_lay ns)
theorem dp_ints {K : PySem.W.Frag} {H : Hp} : ∀ ns : List Int, DpAll K H (ns.map V.int) (ns.map .int)
  | [] => .nil
  | n :: r => .cons (.int n) (dp_ints r)
theorem dp_tupI {K : PySem.W.Frag} {H : Hp} {p : Addr} {ns : List Int} (h : SqT K H p (ns.map V.int)) : Dp K H (.ref p) (.tuple (ns.map .int)) := .tup h (dp_ints ns)
end Gd
namespace L2
open PySem PySem.Spec PyProof.Rows
/-! d.items() of a dict whose keys are tuples -/
def Itit (d : Addr) (o : Obj) (kvs : List (List Key × V)) : It :=
  ⟨fun i H => H d = some (.frz o (.dT kvs)) ∧ i < kvs.length, fun i H x H' => ∃ T k v q, kvs[i]? = some (k, v) ∧ H q = some (.tup (k.map kV)) ∧ x = .ref T ∧ H T = none ∧ H' = upd H T (.tup [.ref q, v]), fun i H => H d = some (.frz o (.dT kvs)) ∧ kvs.length ≤ i⟩
section
variable {X : Cx} {pins : List (Addr × Obj)} {σ : St} {H : Hp} {s : Shared} {d : Addr} {o : Obj}
theorem Inv.frzTv {kvs : List (List Key × V)} (I : Inv X pins σ H s) (h : H d = some (.frz o (.dT kvs))) :
    (d == sysModules) = false ∧ s.heap.get? d = some o ∧ o.ExactDict ∧ ∃ (es : Array DictEntry) (ep : Nat), o.data = .dict es ep ∧ es.size = kvs.length ∧
      ∀ (i : Nat) (k : List Key) (v : V), kvs[i]? = some (k, v) → ∃ (en : DictEntry) (q : Addr), es[i]? = some en ∧ en.key = .ref q ∧ H q = some (.tup (k.map kV)) ∧ RelV v en.val := by
  obtain ⟨hd, z, hs, xs, pr, o', es, ep, ho, hx, hdt, he, _⟩ := I.hok d _ h
  rw [hd] at ho
  cases ho
  refine ⟨hs, hd, hx, es, ep, hdt, ?_, fun i k v e => ?_⟩
  · have l1 : es.size = xs.length := size_of_entries he
    have l2 : kvs.length = xs.length := Paired.length pr
    omega
  · obtain ⟨b, hb, e1, e2, e3⟩ := paired_get pr e
    have q := entry_at he i
    rw [hb] at q
    exact ⟨_, b.2.1, q, rfl, e2, e3⟩
end
section
variable {P : Program} {w : World} {K : PySem.W.Frag} {d : Addr} {o : Obj} {es : Array DictEntry} {ep : Nat}
theorem turn_itemsT {kvs : List (List Key × V)} {elts : List Expr} {kk : Nat} {tpos : Pos} (it : Addr) (hod : o.data = .dict es ep) :
    Turn P w K (.Tuple elts kk tpos) (Itit d o kvs) [it] it (fun i h => ∃ ok ov, IsItemIter h it d i kvs.length ep ok ov) where
  mem := by simp
  obj := fun i h st b hb => by
    have e : b = it := by simpa using hb
    subst e
    obtain ⟨ok, ov, e⟩ := st
    exact ⟨_, e, fun v z => nomatch z⟩
  keep := fun i h h' st k => let ⟨ok, ov, e⟩ := st; ⟨ok, ov, k it (by simp) _ e⟩
  item := by
    intro X hP hw hK hc i pins s σ H E I hf st hg
    subst hP hw hK
    obtain ⟨hd, hi⟩ := hg
    obtain ⟨hs, hgd, hx, es', ep', hdt, hsz, ent⟩ := I.frzTv hd
    obtain ⟨rfl, rfl⟩ := dict_ep hod hdt
    obtain ⟨⟨k, v⟩, hkv⟩ : ∃ p, kvs[i]? = some p := ⟨kvs[i], List.getElem?_eq_getElem hi⟩
    obtain ⟨en, q, hen, hkey, hq, rv⟩ := ent i k v hkv
    obtain ⟨ok, ov, he⟩ := st
    rw [← hsz] at he
    have hlt : it < s.heap.objs.size := Heap.lt_size he
    have hi2 : i < es'.size := by omega
    have een : es'[i] = en := by
      rw [Array.getElem?_eq_getElem hi2] at hen
      exact Option.some.inj hen
    refine PySem.wpAny_pyNext_items_item_raw he ⟨o, hgd, hx, hdt⟩ hi2 fun h' ho hT hz hk => ?_
    rw [een] at ho hT
    refine ⟨_, rfl, wpAny_letOwnedTupleGo_items (s := { s with heap := h' }) ho fun h'' he' sb => ?_⟩
    have hT2 : h''.get? s.heap.objs.size = some { cls := .type "tuple", data := .seq #[en.key, en.val] } := (sb.2 _ (Nat.ne_of_gt hlt)).trans hT
    have new : ObjOk X.prog X.w (upd H s.heap.objs.size (.tup [.ref q, v])) h'' s.heap.objs.size (.tup [.ref q, v]) :=
      ⟨by show 2 ≤ sizeLine; decide, [en.key, en.val], .cons hkey (.cons rv .nil), ⟨_, hT2, rfl, _, rfl⟩⟩
    have I1 : Inv X pins σ (upd H s.heap.objs.size (.tup [.ref q, v])) { s with heap := h'' } :=
      I.turnedNew (t' := s.toks) (ch := [it]) (fun b ob hb e => (sb.2 b (by simpa using hb)).trans (hk b ob (by simpa using hb) e)) hf (Nat.le_refl _) new
    refine ⟨.ref s.heap.objs.size, _, I1, rfl, ⟨_, k, v, q, hkv, hq, rfl, I.hok.fresh (Nat.le_refl _), rfl⟩, ⟨en.key, en.val, ?_⟩, fun b hb => ?_⟩
    · rw [← hsz]; exact he'
    · have e : b = it := by simpa using hb
      rw [e, upd_ne (Nat.ne_of_lt hlt)]
      exact (hf it (by simp)).1
  done := by
    intro X hP hw hK hc i pins s σ H E I hf st hg
    subst hP hw hK
    obtain ⟨hd, hi⟩ := hg
    obtain ⟨f0, f1, f2, f3, f4, f5⟩ := hf it (by simp)
    obtain ⟨hs, hgd, hx, es', ep', hdt, hsz, ent⟩ := I.frzTv hd
    obtain ⟨rfl, rfl⟩ := dict_ep hod hdt
    obtain ⟨ok, ov, he⟩ := st
    rw [← hsz] at he
    exact PySem.wpAny_pyNext_items_end_raw (I.ok.hd hc) he ⟨o, hgd, hx, hdt⟩ (by omega) fun h' eb => ⟨rfl, I.turned (t' := s.toks) (fun b ob hb e => eb b ob hb e) f0 f1 f3 f4 f5⟩
  self := fun A i s Q E st h => let ⟨_, _, e⟩ := st; PySem.W.kcp_self e h
end
def iItemsT (td : TE) : TI := fun σ H R => td σ H fun x H1 => ∃ d o kvs, x = .ref d ∧ H1 d = some (.frz o (.dT kvs)) ∧ R (Itit d o kvs) H1
section
variable {X : Cx} {e : Expr} {td : TE} {apos cpos : Pos}
theorem pi_itemsT {elts : List Expr} {kk : Nat} {tpos : Pos} (he : PE X e td) (hbase : attributeBase e "items" X.env (eval e X.env) = eval e X.env := by rfl) (hline : (apos.endLine == cpos.line) = true := by rfl) :
    PI X (.Tuple elts kk tpos) (.Call (.Attribute e "items" apos) [] [] cpos) (iItemsT td) := by
  refine ⟨fun pins s σ H R I h => ?_⟩
  refine wpAny_Call_method (T := "dict") (id := "dict.items") hbase rfl hline F.plainAttrs_dict F.slot_dict_items F.type_dict_items (thn (he.run pins s σ H _ I h) fun u s1 ⟨x, H1, I1, rx, d, o, kvs, ex, hd, q⟩ => ?_)
  subst ex
  obtain rfl : u = Value.ref d := rx
  obtain ⟨hs, hgd, hx, es, ep, hdt, hsz, ent⟩ := I1.frzTv hd
  have hm : s1.heap.DictRaw d es ep := ⟨o, hgd, hx, hdt⟩
  refine ⟨hm.typeIs, ?_, ?_⟩
  · exact fun a ea => by
      cases ea
      exact ⟨o, hgd, hx.2.1⟩
  have I2 : Inv X pins σ H1 { s1 with heap := s1.heap.push { cls := .type "dict_items", data := .fields #[.ref d] } } := I1.kept (t' := s1.toks) fun b ob q => Heap.get?_push_of_some _ q
  have fin : wpAny (model X.prog X.w) X.A (pyIter (.ref s1.heap.objs.size)) (PIE X pins σ (.Tuple elts kk tpos) R) X.xe { s1 with heap := s1.heap.push { cls := .type "dict_items", data := .fields #[.ref d] } } := by
    refine PySem.wpAny_pyIter_items_raw (d := d) ⟨_, Heap.get?_push_size _ rfl, rfl, rfl⟩ (hm.at fun o e => Heap.get?_push_of_some _ e) (pi_one (tk := s1.toks) I2 _ (turn_itemsT _ hdt) ⟨.none, .none, ?_⟩ q)
    rw [← hsz]
    exact Heap.get?_push_size _ rfl
  show wpAny _ _ (callWith cpos (.builtin "dict.items") [.ref d] [] []) _ X.xe s1
  exact method_meetsIn F.slot_dict_items F.entry_dict_items rfl (PySem.evalArgs_none ⟨rfl, hm.typeIs, F.args_dict_items_1 _, _, PySem.meets_dict_items_raw d hs, ⟨⟨es, ep, hm⟩, fin⟩⟩)
end
theorem walk_itemsT {d : Addr} {o : Obj} {kvs : List (List Key × V)} : Walk (Itit d o kvs) kvs.length (fun H => H d = some (.frz o (.dT kvs)))
    (fun i H x H' => ∃ T k v q, kvs[i]? = some (k, v) ∧ H q = some (.tup (k.map kV)) ∧ x = .ref T ∧ H T = none ∧ H' = upd H T (.tup [.ref q, v])) :=
  ⟨fun _ _ hi q => ⟨q, hi⟩, fun _ q => ⟨q, Nat.le_refl _⟩, fun _ _ _ _ _ _ y => y⟩
end L2
namespace L2
open PySem PySem.Spec PyProof.Rows
/-- over a list or a tuple -/
def iSeq (K : PySem.W.Frag) (tl : TE) : TI := fun σ H R => tl σ H fun x H1 => ∃ a, x = .ref a ∧ (((∃ xs, SqL K H1 a xs) ∧ R (Itl K a) H1) ∨ ((∃ xs, SqT K H1 a xs) ∧ R (Itt K a) H1))
theorem pi_seq {X : Cx} {tg l : Expr} {tl : TE} (hl : PE X l tl) : PI X tg l (iSeq X.K tl) := by
  refine ⟨fun pins s σ H R I h => ?_⟩
  refine thn (hl.run pins s σ H _ I h) fun v s1 ⟨x, H1, I1, r1, q1⟩ => ?_
  obtain ⟨a, e, q⟩ := q1
  subst e
  cases r1
  rcases q with ⟨⟨xs, hq⟩, q⟩ | ⟨⟨xs, hq⟩, q⟩
  · obtain ⟨its, rv, p, hz⟩ := I1.list hq
    refine wpAny_pyIter_list p.isList ?_
    refine ⟨s1.heap.objs.size, [s1.heap.objs.size], _, _, H1, rfl, I1.kept (t' := s1.toks) fun b o e => Heap.get?_push_of_some _ e, turn_list a _, ⟨_, Heap.get?_push_size _ rfl, rfl, rfl⟩, fun b hb => ?_, q⟩
    have e : b = s1.heap.objs.size := by simpa using hb
    subst e
    exact I1.fpOk (Nat.le_refl _) (I1.hok.fresh (Nat.le_refl _))
  · obtain ⟨its, rv, p, hz⟩ := I1.tuple hq
    refine wpAny_pyIter_tuple (show s1.heap.IsTuple a its.toArray from p) ?_
    refine ⟨s1.heap.objs.size, [s1.heap.objs.size], _, _, H1, rfl, I1.kept (t' := s1.toks) fun b o e => Heap.get?_push_of_some _ e, turn_tuple a _, ⟨_, Heap.get?_push_size _ rfl, rfl, rfl⟩, fun b hb => ?_, q⟩
    have e : b = s1.heap.objs.size := by simpa using hb
    subst e
    exact I1.fpOk (Nat.le_refl _) (I1.hok.fresh (Nat.le_refl _))
/-- f(a, ..) of a def that takes any number of arguments -/
def tCallR (sp : Sp) (E : XK) (t : TA) : TE := fun σ H Q => t σ H fun vs H1 => sp vs H1 Q E
theorem pe_callR {X : Cx} {CX : CXT} {k : Nat} {f : Addr} {sp : Sp} {E : XK} {x : Str} {e : Expr} {es : List Expr} {t : TA} {p pos : Pos} (F : FnR X.prog X.w X.K X.mg X.base CX k f sp) (hr : Room k X.A) (hg : Gl X x) (hm : X.mg x = some (.ref f)) (hk : PySem.W.keepIn X.K (.ref f) = true) (hx : Passes CX X E)
    (ha : PA X (e :: es) t) (hdb : (x == ("__debug__" : Str)) = false := by decide) (he : starEach (e :: es) X.env = (false, eval e X.env) :: starEach es X.env := by rfl) (hpl : (backTo pos (starEach es X.env)).any (·.1) = false := by rfl) :
    PE X (.Call (.Name x p) (e :: es) [] pos) (tCallR sp E t) := by
  refine ⟨fun pins s σ H Q I h => ?_⟩
  refine wpAny_Call_Name_kw (ld_glob I hg hm ?_ hdb)
  refine PySem.W.callWith_K (h₀ := X.base) I.ok.mod.kin hk (thn (ha.run pos pins s σ H _ I h) fun us s1 ⟨vs, H1, I1, r, q⟩ => ⟨I1.kIn, ?_⟩) he hpl
  exact wpAny_call (run_fnR F hr hx I1 r q)
/-- over a dict that was just made: it is locked from here on -/
def iKeysL (td : TE) : TI := fun σ H R => td σ H fun x H1 => ∃ d kvs, x = .ref d ∧ H1 d = some (.dK kvs) ∧ ∀ od, R (Itk d od kvs) (upd H1 d (.frz od (.dK kvs)))
theorem pi_keysL {X : Cx} {tg e : Expr} {td : TE} (he : PE X e td) : PI X tg e (iKeysL td) := by
  refine ⟨fun pins s σ H R I h => ?_⟩
  refine thn (he.run pins s σ H _ I h) fun u s1 ⟨x, H1, I1, rx, d, kvs, ex, hd, q⟩ => ?_
  subst ex
  obtain rfl : u = Value.ref d := rx
  obtain ⟨od, I2⟩ := I1.lock hd trivial
  obtain ⟨hs, hgd, hx, es, ep, vs, hdt, hsz, kv, hm⟩ := I2.frzK upd_same
  refine iter_keys hs hgd hx hdt (pi_one (tk := s1.toks) I2 _ (turn_keys _ hdt) ⟨_, Heap.get?_push_size _ rfl, rfl, ?_⟩ (q od))
  rw [hsz] <;> rfl
/-- name = {..} on one line, the name a local -/
theorem ps_setDc {X : Cx} {i : Nat} {y : Str} {py : Pos} {kx vx tg iter : Expr} {ifs : List Expr} {scope : Scope} {own : List (Str × Nat)} {pos spos : Pos} {wi : TI} {g : TG} {tt : TT} {tk tv : TE} (hc : X.calm = true) (hN : X.N.Nodup) (hy : X.N[i]? = some y) (hyl : X.env.scope.names.lookup y = some .local)
    (hsw : swapsWith (.DictComp kx vx [⟨tg, iter, ifs, 0⟩] scope pos) (some (.Name y py)) spos.line X.env = pure true) (hi : PI X tg iter wi) (ok : BlkOk X.N X.env.scope scope own)
    (hg : ∀ (s : Shared) (H : Hp) (C : Addr) (cl : List (Str × Addr)) (fp : List Addr), PG (X.blk s H scope (compEnvC scope cl C X.env) fp) tg g) (ht : ∀ (s : Shared) (H : Hp) (C : Addr) (cl : List (Str × Addr)) (fp : List Addr), PTs (X.blk s H scope (compEnvC scope cl C X.env) fp) ifs tt)
    (hk : ∀ (s : Shared) (H : Hp) (C : Addr) (cl : List (Str × Addr)) (fp : List Addr), PE (X.blk s H scope (compEnvC scope cl C X.env) fp) kx tk)
    (he : ∀ (s : Shared) (H : Hp) (C : Addr) (cl : List (Str × Addr)) (fp : List Addr), PE (X.blk s H scope (compEnvC scope cl C X.env) fp) vx tv) (hs : ∀ x, foldedSetIterable iter X.env x = pure x := by intro _; rfl) :
    PS X (.Assign [.Name y py] (.DictComp kx vx [⟨tg, iter, ifs, 0⟩] scope pos) spos) (tAsg (tDc wi g tt tk tv (own.map (·.2))) (gName i)) := by
  refine ⟨fun pins s σ H D I h => ?_⟩
  rw [exec_Assign_Name_used _ _ _ _ hsw]
  refine wpAny_bind (wpAny_standAt (wpAny_bind ?_))
  show wpAny _ X.A (do let _ ← comprehension (.DictComp kx vx [⟨tg, iter, ifs, 0⟩] scope pos) scope X.env (firstIterPos [⟨tg, iter, ifs, 0⟩] pos) newDict false (eval iter X.env) (some (assign (.Name y py) X.env))) _ _ s
  have h : tDc wi g tt tk tv (own.map (·.2)) σ H (fun x H1 => gName i x σ H1 D.nx) := h
  refine wpAny_bind (thn (dc_core (Qf := fun _ s' => SP X pins D .next s') hc hN I hi ok hg ht hk he hs h fun L C s' m H' I' q hn f => ?_) fun _ s' hq => wpAny_pure (wpAny_pure hq))
  show wpAny _ _ (assign (.Name y py) X.env (.ref L)) _ _ _
  refine wpAny_assign_Name (store_ok2 (v := V.ref L) I' hN hy (.inl hyl) rfl (fun s2 I2 ⟨a, sb, ha⟩ => ?_) (.inr hyl))
  obtain ⟨f0, f1, f2, f3, f4, f5⟩ := f
  have haC : C ≠ a := by
    rcases ha with z | z
    · rw [z]; exact f1
    · exact fun e => f4 y a z e.symm
  refine ⟨m, hn.sameBut sb haC, fun h3 sb3 => ?_⟩
  exact ⟨_, H', I2.turned (t' := s2.toks) (fun b o hb e => (sb3.2 b hb).trans e) f0 f1 f3 f4 f5, q⟩
theorem sw_trueD {kx vx : Expr} {gs : List Comprehension} {scope : Scope} {pos py : Pos} {y : Str} {l : Nat} {env : Env} (hk : env.scope.kind = .function) (hy : env.scope.names.lookup y = some .local) (hl : (py.line == pos.line) = true)
    (ha : (scope.names.any fun (n, k) => n == y && (k == .local || k == .cell)) = false) : swapsWith (.DictComp kx vx gs scope pos) (some (.Name y py)) l env = pure true := by
  have ky : env.kindOf y = some .local := hy
  have hb : env.blockKind = .function := by unfold Env.blockKind; rw [hk]; rfl
  unfold swapsWith
  simp only [hb, ky, ha, Expr.pos, hl]
  rfl
end L2
namespace Sn
open PySem PySem.Spec PyProof.Rows L2 Evl Gd
/-! one word of a reading at a time -/
section
variable {ta tr te tb tc td ty tv : TE} {tt : TA} {ts tz : TS} {D : Ends} {g : TG} {σ : L2.St} {H : Hp} {Q : VK} {K : PySem.W.Frag}
theorem c_of {Q : List V → Hp → Prop} (h : ta σ H fun x H1 => tt σ H1 fun xs H2 => Q (x :: xs) H2) : tCons ta tt σ H Q := h
theorem tup_of (h : tt σ H fun xs H1 => xs.length ≤ sizeLine ∧ ∀ p, H1 p = none → Q (.ref p) (upd H1 p (.tup xs))) : tTup tt σ H Q := h
theorem lst_of (h : tt σ H fun xs H1 => xs.length ≤ sizeLine ∧ ∀ p, H1 p = none → Q (.ref p) (upd H1 p (.lst xs))) : tLst tt σ H Q := h
theorem n_of {Q : List V → Hp → Prop} (h : Q [] H) : tNil σ H Q := h
theorem v_of {i : Nat} {v : V} (e : σ[i]? = some (some v)) (h : Q v H) : tVar i σ H Q := ⟨v, e, h⟩
theorem k_of {v : V} (h : Q v H) : tC v σ H Q := h
theorem seq_of (h : ts { D with nx := tz D } σ H) : tSeq ts tz D σ H := h
theorem asg_of {i : Nat} (h : te σ H fun x H1 => D.nx (σ.set i (some x)) H1) : tAsg te (gName i) D σ H := h
theorem asgG_of (h : te σ H fun x H1 => g x σ H1 D.nx) : tAsg te g D σ H := h
theorem par_of {i j : Nat} (h : tt σ H fun vs H1 => ∃ v w, vs = [v, w] ∧ D.nx ((σ.set i (some v)).set j (some w)) H1) : tPar i j tt D σ H := h
theorem ret_of (h : te σ H D.rt) : tRet te D σ H := h
theorem op_of {r : R2} (h : ta σ H fun x H1 => tb σ H1 fun y H2 => r x y H2 Q) : tOp r ta tb σ H Q := h
theorem call_of {sp : Sp} {dvs : List V} {E : XK} (h : tt σ H fun vs H1 => sp (vs ++ dvs) H1 Q E) : tCall sp dvs E tt σ H Q := h
theorem callK_of {sp : Sp} {gV : List V → List V → List V} {E : XK} {tk : TA} (h : tt σ H fun vs H1 => tk σ H1 fun zs H2 => sp (gV vs zs) H2 Q E) : tCallK sp gV E tt tk σ H Q := h
theorem callR_of {sp : Sp} {E : XK} (h : tt σ H fun vs H1 => sp vs H1 Q E) : tCallR sp E tt σ H Q := h
theorem cb_of {r : List V → Hp → VK → Prop} (h : tt σ H fun vs H1 => r vs H1 Q) : tCB r tt σ H Q := h
theorem test_of {Q : Bool → Hp → Prop} (h : te σ H fun x H1 => ∃ c, x = .bl c ∧ Q c H1) : tTest te σ H Q := h
theorem if_of {b : TT} (h : b σ H fun c H1 => if c = true then ta σ H1 Q else tb σ H1 Q) : tIf b ta tb σ H Q := h
theorem ifS_of {t : TT} {ta tb : TS} (h : t σ H fun c H1 => if c = true then ta D σ H1 else tb D σ H1) : tIfS t ta tb D σ H := h
theorem and_of {t u : TT} {Q : Bool → Hp → Prop} (h : t σ H fun c H1 => if c = true then u σ H1 Q else Q false H1) : tAnd t u σ H Q := h
theorem or_of {t u : TT} {Q : Bool → Hp → Prop} (h : t σ H fun c H1 => if c = true then Q true H1 else u σ H1 Q) : tOr t u σ H Q := h
theorem not_of {te : TT} {Q : Bool → Hp → Prop} (h : te σ H fun c H1 => Q (!c) H1) : tNot te σ H Q := h
theorem andv_of (h : ta σ H fun x H1 => ∃ c, x = .bl c ∧ if c = true then tb σ H1 Q else Q (.bl false) H1) : tAndV ta tb σ H Q := h
theorem notv_of (h : ta σ H fun x H1 => ∃ c, x = .bl c ∧ Q (.bl (!c)) H1) : tNotV ta σ H Q := h
theorem put_of (h : tv σ H fun v H1 => td σ H1 fun x H2 => ty σ H2 fun y H3 => ∃ a H4, x = .ref a ∧ DPut H3 a y v H4 ∧ D.nx σ H4) : sDPut td ty tv D σ H := h
theorem newK_of (h : ∀ p, H p = none → Q (.ref p) (upd H p (.dK []))) : tDNewK σ H Q := h
theorem dget_of (h : td σ H fun x H1 => ty σ H1 fun y H2 => ∃ a v, x = .ref a ∧ DGet H2 a y (some v) ∧ Q v H2) : tDGet td ty σ H Q := h
theorem din_of (h : ty σ H fun y H1 => td σ H1 fun x H2 => ∃ a o, x = .ref a ∧ DGet H2 a y o ∧ Q (.bl o.isSome) H2) : tDIn ty td σ H Q := h
theorem notin_of (h : ty σ H fun y H1 => td σ H1 fun x H2 => ∃ a o, x = .ref a ∧ DGet H2 a y o ∧ Q (.bl (!o.isSome)) H2) : tDNotIn ty td σ H Q := h
theorem drop_of (h : te σ H fun _ H1 => D.nx σ H1) : tDrop te D σ H := h
theorem make_of {C : Addr} {sp : Sp} {dvs : List V} {E : XK} (h : tt σ H fun vs H1 => ∀ x dx, H1 x = none → H1 dx = none → dx ≠ x → sp (.ref x :: (vs ++ dvs)) (upd (upd H1 dx (.own x)) x (.ins C dx [])) (fun v H2 => v = .non ∧ Q (.ref x) H2) E) : tMake C sp dvs E tt σ H Q := h
theorem meth_of {C : Addr} {m : Str} {sp : Sp} {dvs : List V} {E : XK} (h : ta σ H fun x H1 => ∃ a dx fs, x = .ref a ∧ H1 a = some (.ins C dx fs) ∧ fs.lookup m = none ∧ tt σ H1 fun vs H2 => sp (x :: (vs ++ dvs)) H2 Q E) : tMeth C m sp dvs E ta tt σ H Q := h
theorem lc_of {wi : TI} {tt : TT} {vs : List Nat} (h : wi σ H fun J H1 => ∀ D, H1 D = none → ∃ W : Nat → Nat → Hp → Prop, (∃ m, W 0 m (upd H1 D (.lst []))) ∧ ∀ i m H, W i m H →
  (J.stop i H ∧ Q (.ref D) H) ∨ (J.go i H ∧ ∃ Nx : Hp → Prop, (∀ H', Nx H' → ∃ m', m' < m ∧ W (i + 1) m' H') ∧ ∀ x H', J.yld i H x H' → g x (wipe σ vs) H' fun σ2 H2 => wipe σ2 vs = wipe σ vs ∧ tt σ2 H2 fun b H3 =>
    if b = true then te σ2 H3 fun y H4 => ∃ acc, H4 D = some (.lst acc) ∧ acc.length < sizeLine ∧ Nx (upd H4 D (.lst (acc ++ [y]))) else Nx H3)) : tLc wi g tt te vs σ H Q := h
theorem for_of {wi : TI} (h : wi σ H fun J H1 => ∃ W : Nat → Nat → L2.St → Hp → Prop, (∃ m, W 0 m σ H1) ∧ ∀ i m σ H, W i m σ H →
      (J.stop i H ∧ D.nx σ H) ∨ (J.go i H ∧ ∃ N : L2.St → Hp → Prop, (∀ σ' H', N σ' H' → ∃ m', m' < m ∧ W (i + 1) m' σ' H') ∧ ∀ x H', J.yld i H x H' → g x σ H' fun σ2 H2 => ts { D with nx := N, ct := N, bk := D.nx } σ2 H2)) : tFor wi g ts D σ H := h
theorem iL_of {R : It → Hp → Prop} (h : ta σ H fun x H1 => ∃ a, x = .ref a ∧ (∃ xs, SqL K H1 a xs) ∧ R (Itl K a) H1) : iList K ta σ H R := h
theorem iT_of {R : It → Hp → Prop} (h : ta σ H fun x H1 => ∃ a, x = .ref a ∧ (∃ xs, SqT K H1 a xs) ∧ R (Itt K a) H1) : iTup K ta σ H R := h
theorem kL_of {R : It → Hp → Prop} (h : td σ H fun x H1 => ∃ d kvs, x = .ref d ∧ H1 d = some (.dK kvs) ∧ ∀ od, R (Itk d od kvs) (upd H1 d (.frz od (.dK kvs)))) : iKeysL td σ H R := h
theorem r1_of {R : It → Hp → Prop} (h : tt σ H fun vs H1 => ∃ j : Int, vs = [.int j] ∧ -(2 ^ 62) ≤ j ∧ j < 2 ^ 62 ∧ R (Itr 0 j.toNat) H1) : iRng1 tt σ H R := h
theorem rev_of (h : te σ H fun x H1 => ∃ a xs, x = .ref a ∧ SqL K H1 a xs ∧ ∀ p, H1 p = none → Q (.ref p) (upd H1 p (.lst xs.reverse))) : tRevL K te σ H Q := h
theorem for1_of (h : tt σ H fun vs H1 => ∃ j : Int, vs = [.int j] ∧ -(2 ^ 62) ≤ j ∧ j < 2 ^ 62 ∧ ∃ W : Nat → Nat → L2.St → Hp → Prop, (∃ m, W 0 m σ H1) ∧ ∀ i m σ H, W i m σ H →
      ((Itr 0 j.toNat).stop i H ∧ D.nx σ H) ∨ ((Itr 0 j.toNat).go i H ∧ ∃ N : L2.St → Hp → Prop, (∀ σ' H', N σ' H' → ∃ m', m' < m ∧ W (i + 1) m' σ' H') ∧ ∀ x H', (Itr 0 j.toNat).yld i H x H' → g x σ H' fun σ2 H2 => ts { D with nx := N, ct := N, bk := D.nx } σ2 H2)) : tFor (iRng1 tt) g ts D σ H := h
theorem forS_of (h : ta σ H fun x H1 => ∃ a, x = .ref a ∧ (((∃ xs, SqL K H1 a xs) ∧ ∃ W : Nat → Nat → L2.St → Hp → Prop, (∃ m, W 0 m σ H1) ∧ ∀ i m σ H, W i m σ H →
      ((Itl K a).stop i H ∧ D.nx σ H) ∨ ((Itl K a).go i H ∧ ∃ N : L2.St → Hp → Prop, (∀ σ' H', N σ' H' → ∃ m', m' < m ∧ W (i + 1) m' σ' H') ∧ ∀ x H', (Itl K a).yld i H x H' → g x σ H' fun σ2 H2 => ts { D with nx := N, ct := N, bk := D.nx } σ2 H2)) ∨
    ((∃ xs, SqT K H1 a xs) ∧ ∃ W : Nat → Nat → L2.St → Hp → Prop, (∃ m, W 0 m σ H1) ∧ ∀ i m σ H, W i m σ H →
      ((Itt K a).stop i H ∧ D.nx σ H) ∨ ((Itt K a).go i H ∧ ∃ N : L2.St → Hp → Prop, (∀ σ' H', N σ' H' → ∃ m', m' < m ∧ W (i + 1) m' σ' H') ∧ ∀ x H', (Itt K a).yld i H x H' → g x σ H' fun σ2 H2 => ts { D with nx := N, ct := N, bk := D.nx } σ2 H2)))) : tFor (iSeq K ta) g ts D σ H := h
theorem ifE_yes {t : TT} (h : ∀ k : Bool → Hp → Prop, k true H → t σ H k) (q : ta σ H Q) : tIf t ta tb σ H Q := h _ (by
  show if true = true then ta σ H Q else tb σ H Q
  rw [if_pos rfl]
  exact q)
theorem ifE_no {t : TT} (h : ∀ k : Bool → Hp → Prop, k false H → t σ H k) (q : tb σ H Q) : tIf t ta tb σ H Q := h _ (by
  show if false = true then ta σ H Q else tb σ H Q
  rw [if_neg Bool.false_ne_true]
  exact q)
theorem seq_join (I : L2.St → Hp → Prop) (h1 : (∀ σ' H', I σ' H' → tz D σ' H') → tSeq ts tz D σ H) (h2 : ∀ σ' H', I σ' H' → tz D σ' H') : tSeq ts tz D σ H := h1 h2
end
/-! small facts of lists -/
theorem take_one {α : Type} {l : List α} {i : Nat} {x : α} (h : l[i]? = some x) : l.take (i + 1) = l.take i ++ [x] := by
  rw [List.take_add_one, h]
  rfl
theorem take_snoc {α β : Type} {l : List α} {i : Nat} {x : α} (f : α → β) (h : l[i]? = some x) : (l.take (i + 1)).map f = (l.take i).map f ++ [f x] := by
  rw [List.take_add_one, h, List.map_append]
  rfl
theorem map_at {α β : Type} {f : α → β} {l : List α} {i : Nat} {y : β} (h : (l.map f)[i]? = some y) : ∃ x, l[i]? = some x ∧ y = f x := by
  rw [List.getElem?_map] at h
  cases e : l[i]? with
  | none =>
    rw [e] at h
    cases h
  | some x =>
    rw [e] at h
    exact ⟨x, rfl, (Option.some.inj h).symm⟩
theorem at_map {l : List Int} {i : Nat} {x : V} (h : (l.map V.int)[i]? = some x) : ∃ k, l[i]? = some k ∧ x = .int k := map_at h
theorem filterMap_snoc {α β : Type} {l : List α} {i : Nat} {x : α} (f : α → Option β) (h : l[i]? = some x) : (l.take (i + 1)).filterMap f = (l.take i).filterMap f ++ (f x).toList := by
  rw [List.take_add_one, h, List.filterMap_append]
  show _ ++ List.filterMap f [x] = _
  cases e : f x with
  | none => rw [List.filterMap_cons_none e] <;> rfl
  | some y => rw [List.filterMap_cons_some e] <;> rfl
theorem flatMap_snoc {α β : Type} {l : List α} {i : Nat} {x : α} (f : α → List β) (h : l[i]? = some x) : (l.take (i + 1)).flatMap f = (l.take i).flatMap f ++ f x := by
  rw [List.take_add_one, h, List.flatMap_append]
  show _ ++ List.flatMap f [x] = _
  rw [List.flatMap_cons, List.flatMap_nil, List.append_nil]
theorem TdAll.last {K : PySem.W.Frag} {H : Hp} : ∀ {ys : List V} {ds : List PyData} {d : PyData}, TdAll K H ys (ds ++ [d]) → ∃ zs y, ys = zs ++ [y] ∧ TdAll K H zs ds ∧ Td K H y d
  | _, [], _, h => by
    obtain ⟨y, ys, rfl, h1, h2⟩ := TdAll.inv_cons h
    rw [h2.inv_nil]
    exact ⟨[], y, rfl, .nil, h1⟩
  | _, e :: ds, d, h => by
    obtain ⟨y, ys, rfl, h1, h2⟩ := TdAll.inv_cons h
    obtain ⟨zs, z, rfl, h3, h4⟩ := TdAll.last h2
    exact ⟨y :: zs, z, rfl, .cons h1 h3, h4⟩
theorem snoc_of {α : Type} : ∀ {l : List α}, l ≠ [] → ∃ m x, l = m ++ [x]
  | [], h => absurd rfl h
  | [x], _ => ⟨[], x, rfl⟩
  | x :: y :: l, _ => by
    obtain ⟨m, z, e⟩ := snoc_of (l := y :: l) (by simp)
    exact ⟨x :: m, z, by rw [e]; rfl⟩
theorem flat_congr {α β : Type} {f g : α → List β} : ∀ {l : List α}, (∀ x ∈ l, f x = g x) → l.flatMap f = l.flatMap g
  | [], _ => rfl
  | x :: l, h => by rw [List.flatMap_cons, List.flatMap_cons, h x List.mem_cons_self, flat_congr fun y hy => h y (List.mem_cons_of_mem _ hy)]
theorem strict_of {ns : List Int} (h : ns.Pairwise (· ≤ ·)) (nd : ns.Nodup) : ns.Pairwise (· < ·) := by
  refine List.Pairwise.imp₂ (fun a b h1 h2 => ?_) h nd
  have h3 : a ≠ b := h2
  omega
/-- strictly ascending lists of the same ints are the same -/
theorem asc_uniq : ∀ {a b : List Int}, a.Pairwise (· < ·) → b.Pairwise (· < ·) → (∀ n, n ∈ a ↔ n ∈ b) → a = b
  | [], [], _, _, _ => rfl
  | [], y :: b, _, _, h => absurd ((h y).mpr List.mem_cons_self) List.not_mem_nil
  | x :: a, [], _, _, h => absurd ((h x).mp List.mem_cons_self) List.not_mem_nil
  | x :: a, y :: b, ha, hb, h => by
    have h1 := List.pairwise_cons.mp ha
    have h2 := List.pairwise_cons.mp hb
    have e : x = y := by
      rcases List.mem_cons.mp ((h x).mp List.mem_cons_self) with e | m
      · exact e
      · rcases List.mem_cons.mp ((h y).mpr List.mem_cons_self) with e | m2
        · exact e.symm
        · have := h2.1 x m
          have := h1.1 y m2
          omega
    subst e
    rw [asc_uniq h1.2 h2.2 fun n => ?_]
    constructor
    · intro m
      rcases List.mem_cons.mp ((h n).mp (List.mem_cons_of_mem _ m)) with e | m2
      · have := h1.1 n m
        omega
      · exact m2
    · intro m
      rcases List.mem_cons.mp ((h n).mpr (List.mem_cons_of_mem _ m)) with e | m2
      · have := h2.1 n m
        omega
      · exact m2
theorem same_of {A : Int → Prop} {a b : List Int} (ha : a.Pairwise (· < ·)) (hb : b.Pairwise (· < ·)) (ia : ∀ n, n ∈ a ↔ A n) (ib : ∀ n, n ∈ b ↔ A n) : a = b := asc_uniq ha hb fun n => (ia n).trans (ib n).symm
theorem thing_src {t : Thing} {α : Arc} (h : α ∈ thingArcs t) : α.src.length ≤ 2 := by
  unfold thingArcs at h
  split at h
  · obtain ⟨p, _, e⟩ := List.mem_filterMap.mp h
    unfold slotArc at e
    split at e
    · cases e
      exact (show 1 ≤ 2 by decide)
    · cases e
  · split at h
    · obtain ⟨p, _, e⟩ := List.mem_filterMap.mp h
      unfold entryArc at e
      split at e
      · cases e
        exact Nat.le_refl 2
      · cases e
    · cases h
theorem arcs_src {s : Shot} {α : Arc} (h : α ∈ arcsOf s) : α.src.length ≤ 2 := by
  rcases List.mem_append.mp h with h | h
  · obtain ⟨r, _, rfl⟩ := List.mem_map.mp h
    exact (show 0 ≤ 2 by decide)
  · obtain ⟨t, _, ht⟩ := List.mem_flatMap.mp h
    exact thing_src ht
theorem filter_none (as : List Arc) : (as.filter fun α => decide (α.tgt ∉ ([] : List Int))) = as := List.filter_eq_self.mpr fun _ _ => by simp
/-! dicts of True -/
abbrev kTrue (met : List Int) : List (Key × V) := met.map fun n => (Sum.inl n, V.bl true)
theorem val_kTrue (n : Int) : ∀ met : List Int, (valV (kTrue met) (.inl n)).isSome = decide (n ∈ met)
  | [] => by simp [valV]
  | m :: met => by
    by_cases e : m = n
    · subst e
      show (valV ((Sum.inl m, V.bl true) :: kTrue met) (.inl m)).isSome = _
      rw [valV_pos rfl]
      simp
    · show (valV ((Sum.inl m, V.bl true) :: kTrue met) (.inl n)).isSome = _
      rw [valV_neg (fun q => e (Sum.inl.inj q)), val_kTrue n met]
      have : ¬ n = m := fun q => e q.symm
      simp [this]
theorem put_kTrue {n : Int} {met : List Int} (h : n ∉ met) : putK (kTrue met) (.inl n) (.bl true) = kTrue (met ++ [n]) := by
  have e : valV (kTrue met) (.inl n) = none := by
    have := val_kTrue n met
    rw [decide_eq_false h] at this
    cases q : valV (kTrue met) (.inl n) with
    | none => rfl
    | some v =>
      rw [q] at this
      cases this
  rw [putK_new _ e]
  show _ = (met ++ [n]).map _
  rw [List.map_append]
  rfl
def insT (met : List Int) (n : Int) : List Int := if n ∈ met then met else met ++ [n]
theorem put_ins (met : List Int) (n : Int) : putK (kTrue met) (.inl n) (.bl true) = kTrue (insT met n) := by
  unfold insT
  by_cases h : n ∈ met
  · rw [if_pos h]
    have e : (valV (kTrue met) (.inl n)).isSome = true := by
      rw [val_kTrue]
      exact decide_eq_true h
    unfold putK
    rw [valV_any, if_pos e]
    show (met.map fun n => ((Sum.inl n : Key), V.bl true)).map _ = _
    rw [List.map_map]
    refine List.map_congr_left fun m _ => ?_
    show (if (Sum.inl m : Key) = Sum.inl n then ((Sum.inl m : Key), V.bl true) else (Sum.inl m, V.bl true)) = _
    split <;> rfl
  · rw [if_neg h]
    exact put_kTrue h
theorem insT_mem {met : List Int} {n m : Int} : m ∈ insT met n ↔ m ∈ met ∨ m = n := by
  unfold insT
  by_cases h : n ∈ met
  · rw [if_pos h]
    constructor
    · exact .inl
    · rintro (q | q)
      · exact q
      · rw [q]
        exact h
  · rw [if_neg h, List.mem_append, List.mem_singleton]
theorem insT_nodup {met : List Int} {n : Int} (nd : met.Nodup) : (insT met n).Nodup := by
  unfold insT
  by_cases h : n ∈ met
  · rw [if_pos h]
    exact nd
  · rw [if_neg h, List.nodup_append]
    refine ⟨nd, by simp, fun a ha b hb e => ?_⟩
    rw [List.mem_singleton.mp hb] at e
    rw [e] at ha
    exact h ha
theorem insT_pre (met : List Int) (n : Int) : met <+: insT met n := by
  unfold insT
  split
  · exact List.prefix_refl _
  · exact List.prefix_append _ _
theorem insT_len (met : List Int) (n : Int) : (insT met n).length ≤ met.length + 1 := by
  unfold insT
  split
  · omega
  · rw [List.length_append, List.length_singleton]
    omega
/-! a list or a tuple -/
def SqA (K : PySem.W.Frag) (H : Hp) (a : Addr) (xs : List V) : Prop := SqL K H a xs ∨ SqT K H a xs
theorem SqA.ex {K : PySem.W.Frag} {H H' : Hp} {a : Addr} {xs : List V} (h : SqA K H a xs) (e : Ex H H') : SqA K H' a xs := h.imp (ex_l e) (ex_t e)
/-- over what is there from the beginning and stays -/
theorem for_seqA {K : PySem.W.Frag} {ta : TE} {g : TG} {tb : TS} {D : Ends} {σ : L2.St} {H0 H : Hp} {a : Addr} {xs : List V} (hq : SqA K H0 a xs) (Pv : Nat → L2.St → Hp → Prop) (hv : ∀ Q : VK, Q (.ref a) H → ta σ H Q) (h0 : Pv 0 σ H) (hl : ∀ i σ H, Pv i σ H → Ex H0 H)
    (hs : ∀ i x σ H, xs[i]? = some x → Pv i σ H → g x σ H fun σ2 H2 => tb { D with nx := Pv (i + 1), ct := Pv (i + 1), bk := D.nx } σ2 H2) (hd : ∀ σ H, Pv xs.length σ H → D.nx σ H) : tFor (iSeq K ta) g tb D σ H := by
  refine forS_of (hv _ ⟨a, rfl, ?_⟩)
  rcases hq with hq | hq
  · exact .inl ⟨⟨xs, ex_l (hl _ _ _ h0) hq⟩, for_list (K := K) (a := a) (xs := xs) Pv h0 (fun i σ H _ p => ex_l (hl _ _ _ p) hq) hs hd⟩
  · exact .inr ⟨⟨xs, ex_t (hl _ _ _ h0) hq⟩, for_tup (K := K) (a := a) (xs := xs) Pv h0 (fun i σ H _ p => ex_t (hl _ _ _ p) hq) hs hd⟩
theorem lc_seqA {K : PySem.W.Frag} {ta te : TE} {g : TG} {tt : TT} {vs : List Nat} {σ : L2.St} {H0 H : Hp} {a : Addr} {xs : List V} {Q : VK} (hq : SqA K H0 a xs) (e0 : Ex H0 H) (hv : ∀ Q : VK, Q (.ref a) H → ta σ H Q)
    (k : ∀ D, H D = none → ∃ Pv : Nat → Hp → Prop, Pv 0 (upd H D (.lst [])) ∧ (∀ i H, Pv i H → Ex H0 H) ∧
      (∀ i x H, xs[i]? = some x → Pv i H → g x (wipe σ vs) H fun σ2 H2 => wipe σ2 vs = wipe σ vs ∧ tt σ2 H2 fun b H3 => if b = true then te σ2 H3 fun y H4 => ∃ acc, H4 D = some (.lst acc) ∧ acc.length < sizeLine ∧ Pv (i + 1) (upd H4 D (.lst (acc ++ [y]))) else Pv (i + 1) H3) ∧
      ∀ H, Pv xs.length H → Q (.ref D) H) : tLc (iSeq K ta) g tt te vs σ H Q := by
  refine lc_of (hv _ ⟨a, rfl, ?_⟩)
  rcases hq with hq | hq
  · refine .inl ⟨⟨xs, ex_l e0 hq⟩, fun D hD => ?_⟩
    obtain ⟨Pv, h0, hl, hs, hd⟩ := k D hD
    exact lc_list (K := K) (a := a) (xs := xs) Pv h0 (fun i H _ p => ex_l (hl _ _ p) hq) hs hd
  · refine .inr ⟨⟨xs, ex_t e0 hq⟩, fun D hD => ?_⟩
    obtain ⟨Pv, h0, hl, hs, hd⟩ := k D hD
    exact lc_tup (K := K) (a := a) (xs := xs) Pv h0 (fun i H _ p => ex_t (hl _ _ p) hq) hs hd
end Sn
/-! the forms' words: is_name, is_local, whole_of, number_of, value_of, slot_of -/
namespace Pf
open PySem PySem.Spec PyProof.Rows L2 Evl Gd Sn
abbrev sIsName : Stmt := topS 13
abbrev sIsLocal : Stmt := topS 14
abbrev sWhole : Stmt := topS 15
abbrev sNumber : Stmt := topS 16
abbrev sValue : Stmt := topS 17
abbrev sSlot : Stmt := topS 18
abbrev nIsName : List Str := ["word"]
abbrev nWhole : List Str := ["word", "digits"]
abbrev nNumber : List Str := ["word", "most", "number"]
abbrev nValue : List Str := ["word", "number"]
abbrev nSlot : List Str := ["word", "name", "_", "slot"]
theorem scIsName : FnScope nIsName ["word"] (defScope sIsName) := ⟨rfl, rfl, rfl, by decide +kernel, rfl, by decide +kernel, by decide +kernel⟩
theorem scIsLocal : FnScope nIsName ["word"] (defScope sIsLocal) := ⟨rfl, rfl, rfl, by decide +kernel, rfl, by decide +kernel, by decide +kernel⟩
theorem scWhole : FnScope nWhole ["word", "digits"] (defScope sWhole) := ⟨rfl, rfl, rfl, by decide +kernel, rfl, by decide +kernel, by decide +kernel⟩
theorem scNumber : FnScope nNumber ["word", "most"] (defScope sNumber) := ⟨rfl, rfl, rfl, by decide +kernel, rfl, by decide +kernel, by decide +kernel⟩
theorem scValue : FnScope nValue ["word"] (defScope sValue) := ⟨rfl, rfl, rfl, by decide +kernel, rfl, by decide +kernel, by decide +kernel⟩
theorem scSlot : FnScope nSlot ["word"] (defScope sSlot) := ⟨rfl, rfl, rfl, by decide +kernel, rfl, by decide +kernel, by decide +kernel⟩
theorem mt_istitle {X : Cx} : MtR X "str.istitle" (fun x xs H Q => ∃ a, x = .str a ∧ xs = [] ∧ True ∧ Q (.bl (Txt.istitle a)) H) := mt0 fun x _ s _ _ h => PySem.SC.istitle (h (PySem.Value.bool (PySem.Txt.istitle x)) s.toks rfl)
theorem m0_of {r : V → List V → Hp → VK → Prop} {to : TE} {σ : L2.St} {H : Hp} {Q : VK} (h : to σ H fun x H1 => (∃ a, x = V.str a) ∧ r x [] H1 Q) : tM0 r to σ H Q := h
theorem m1_of {r : V → List V → Hp → VK → Prop} {to te : TE} {σ : L2.St} {H : Hp} {Q : VK} (h : to σ H fun x H1 => (∃ a, x = V.str a) ∧ te σ H1 fun y H2 => r x [y] H2 Q) : tM1 r to te σ H Q := h
theorem orv_of {ta tb : TE} {σ : L2.St} {H : Hp} {Q : VK} (h : ta σ H fun x H1 => ∃ c, x = .bl c ∧ if c = true then Q (.bl true) H1 else tb σ H1 Q) : tOrV ta tb σ H Q := h
theorem slS_of {r : V → Option Int → Option Int → Hp → VK → Prop} {te tl : TE} {σ : L2.St} {H : Hp} {Q : VK} (h : te σ H fun x H1 => tl σ H1 fun y H2 => ∃ i, y = .int i ∧ r x (some i) none H2 Q) : tSl r te (tPart tl) tNoPart σ H Q := h
theorem un_of {r : V → Hp → VK → Prop} {ta : TE} {σ : L2.St} {H : Hp} {Q : VK} (h : ta σ H fun x H1 => r x H1 Q) : tUn r ta σ H Q := h
/-- the tables and bounds of the forms that words are asked of -/
structure Tb (K : PySem.W.Frag) (w : World) (mg : Str → Option Value) (dT dS : Addr) : Prop where
  letters : ∃ t, mg "MOST_LETTERS" = some (.int 8 t)
  digits : ∃ t, mg "MOST_DIGITS" = some (.int 10 t)
  most : ∃ t, mg "MOST_VALUE" = some (.int 1000000000 t)
  taken : mg "TAKEN" = some (.ref dT)
  tk : ∃ es n, KDict K w dT es n
  slots : mg "SLOTS" = some (.ref dS)
  sl : ∃ es n, KDict K w dS es n
  free : ∀ z ∈ names12, PySem.W.nsIn K dT z = some none
  sn : ∀ m : Fin 6, ∃ t, PySem.W.nsIn K dS (Str.ofString (toString ((m.val : Nat) : Int))) = some (some (.int m.val t))
def spIsName : Sp := fun vs H Q _ => ∃ w : Str, vs = [.str w] ∧ Nm w ∧ Q (.bl true) H
theorem nm_facts : ∀ w ∈ names12, w.length ≤ 8 ∧ Txt.isalpha w = true ∧ Txt.isascii w = true ∧ (Txt.islower w || Txt.istitle w) = true ∧ (decide (V.str w = V.str "none") = false) := by decide +kernel
section
variable {P : Program} {w : World} {K : PySem.W.Frag} {mg : Str → Option Value} {base : Heap} {dT dS : Addr}
theorem ok_isname {f : Addr} {fd : FuncData} (F : Fun K "is_name" "is_name" sIsName f fd) (T : Tb K w mg dT dS) (mL : mg "len" = none) : FnOk P w K mg base CX0 1 f fd ["word"] spIsName := by
  obtain ⟨t8, g8⟩ := T.letters
  obtain ⟨es, n, kd⟩ := T.tk
  refine F.ok scIsName (fun vs H Q E h => ?_) (fun cdv A outer s H vs Q E hr h => ?_)
  · obtain ⟨w, rfl, _⟩ := h
    rfl
  · obtain ⟨w', rfl, hw, q⟩ := h
    have hu := hu_of hr
    refine ⟨_, pss_cons (ps_if (pw_or (pt_cmpR op_gt (pe_callB call_len_str (by rfl) mL PySem.boot_len (pa_cons (pv 0) pa_nil)) (pe_glob (v := .int 8) (by rfl) g8 ⟨t8, rfl⟩) (nomark _)) (pw_or1 (pt_cmpR (op_in_kd kd) (pv 0) (pe_glob (v := .ref dT) (by rfl) T.taken rfl) (by rfl)))).pt (pss_one (ps_ret pe_bl)) pss_nil) <|
      pss_one (ps_ret (pe_and (pe_m0 PySem.F.slot_str_isalpha PySem.F.type_str_isalpha mt_isalpha (pv 0)) (pe_and (pe_m0 PySem.F.slot_str_isascii PySem.F.type_str_isascii mt_isascii (pv 0)) (pe_one (pe_or (pe_m0 PySem.F.slot_str_islower PySem.F.type_str_islower mt_islower (pv 0)) (pe_one (pe_m0 PySem.F.slot_str_istitle PySem.F.type_str_istitle mt_istitle (pv 0)))))))), ?_⟩
    have fr := T.free _ hw
    obtain ⟨a1, a2, a3, a4, _⟩ := nm_facts _ hw
    refine seq_of (ifS_of (or_of (test_of (op_of (cb_of (c_of (v_of rfl (n_of ⟨_, rfl, by rw [sizeLine_eq]; omega, k_of ⟨_, _, rfl, rfl, _, rfl, ?_⟩⟩))))))))
    rw [decide_eq_false (by omega), if_neg Bool.false_ne_true]
    refine test_of (op_of (v_of rfl (k_of ⟨_, _, rfl, rfl, fr, _, rfl, ?_⟩)))
    rw [if_neg (show ¬ (none : Option Value).isSome = true from Bool.false_ne_true)]
    dsimp only [tNext]
    refine ret_of (andv_of (m0_of (v_of rfl ⟨⟨_, rfl⟩, _, rfl, rfl, trivial, _, rfl, ?_⟩)))
    rw [a2, if_pos rfl]
    refine andv_of (m0_of (v_of rfl ⟨⟨_, rfl⟩, _, rfl, rfl, trivial, _, rfl, ?_⟩))
    rw [a3, if_pos rfl]
    refine orv_of (m0_of (v_of rfl ⟨⟨_, rfl⟩, _, rfl, rfl, trivial, _, rfl, ?_⟩))
    by_cases c : Txt.islower w' = true
    · rw [if_pos c]
      exact q
    · rw [if_neg c]
      rw [Bool.or_eq_true] at a4
      have a5 : Txt.istitle w' = true := a4.resolve_left c
      refine m0_of (v_of rfl ⟨⟨_, rfl⟩, _, rfl, rfl, trivial, ?_⟩)
      rw [a5]
      exact q
def lows : List Str := ["a", "b", "x", "abcdefgh", "k", "p", "bye", "y", "z"]
theorem lows_sub : ∀ w ∈ lows, w ∈ names12 ∧ Txt.islower w = true := by decide +kernel
theorem calls_low : ∀ w ∈ calls3, w ∈ lows := by decide +kernel
def spIsLocal : Sp := fun vs H Q _ => ∃ w : Str, vs = [.str w] ∧ w ∈ lows ∧ Q (.bl true) H
theorem ok_islocal {f fN : Addr} {fd fdN : FuncData} (F : Fun K "is_local" "is_local" sIsLocal f fd) (FN : Fun K "is_name" "is_name" sIsName fN fdN) (bN : Binds K fdN ["word"] []) (gN : mg "is_name" = some (.ref fN)) (GN : FnOk P w K mg base CX0 1 fN fdN ["word"] spIsName) : FnOk P w K mg base CX0 2 f fd ["word"] spIsLocal := by
  refine F.ok scIsLocal (fun vs H Q E h => ?_) (fun cdv A outer s H vs Q E hr h => ?_)
  · obtain ⟨w, rfl, _⟩ := h
    rfl
  · obtain ⟨w', rfl, hw, q⟩ := h
    obtain ⟨h1, h2⟩ := lows_sub _ hw
    refine ⟨_, pss_one (ps_ret (pe_and (pe_call GN hr (by rfl) gN FN.kp bN .nil pass0 (pa_cons (pv 0) pa_nil)) (pe_one (pe_m0 PySem.F.slot_str_islower PySem.F.type_str_islower mt_islower (pv 0))))), ?_⟩
    refine ret_of (andv_of (call_of (c_of (v_of rfl (n_of ⟨_, rfl, h1, true, rfl, ?_⟩)))))
    rw [if_pos rfl]
    refine m0_of (v_of rfl ⟨⟨_, rfl⟩, _, rfl, rfl, trivial, ?_⟩)
    rw [h2]
    exact q
/-- whole_of: a number, or none where there are signs -/
def spWhole : Sp := fun vs H Q _ => ∃ w : Str, vs = [.str w, .int 10] ∧ ((∃ n : Nat, n ≤ 1000000000 ∧ w = Str.ofString (toString (n : Int)) ∧ Q (.int n) H) ∨ (Spt w ∧ Q .non H))
theorem lead0 : ∀ (n : Nat) (c : Nat) (r : List Nat), TL.numL n = c :: r → c = 48 → n = 0 := by
  intro n
  induction n using Nat.strongRecOn with
  | ind n ih =>
    intro c r e c48
    by_cases h : n < 10
    · rw [TL.numL_lt h] at e
      have := (List.cons.inj e).1
      omega
    · rw [TL.numL_step (by omega)] at e
      cases z : TL.numL (n / 10) with
      | nil => exact absurd z (TL.numL_ne _)
      | cons a b =>
        rw [z] at e
        have ea : a = c := (List.cons.inj e).1
        have := ih (n / 10) (by omega) a b z (by omega)
        omega
theorem num_facts {n : Nat} (h : n ≤ 1000000000) : (Str.ofString (toString (n : Int))).length ≤ 10 ∧ 0 < (Str.ofString (toString (n : Int))).length ∧ Txt.isdigit (Str.ofString (toString (n : Int))) = true ∧ Txt.isascii (Str.ofString (toString (n : Int))) = true ∧ Txt.isalpha (Str.ofString (toString (n : Int))) = false ∧ PySem.intText? (Str.ofString (toString (n : Int))) = some n ∧ (∃ c, (Str.ofString (toString (n : Int))).cps.toList[0]? = some c ∧ 48 ≤ c ∧ c ≤ 57 ∧ (c = 48 → n = 0)) := by
  have e : TL.tl (Str.ofString (toString (n : Int))) = TL.numL n := TL.tl_num n
  have hl : (TL.numL n).length ≤ 10 := TL.numL_len (by decide) (by omega)
  have len := TL.len_tl (Str.ofString (toString (n : Int)))
  rw [e] at len
  have dg := TL.numL_digits n
  have ne := TL.numL_ne n
  have pos : 0 < (TL.numL n).length := List.length_pos_iff.mpr ne
  have mem : ∀ c ∈ (Str.ofString (toString (n : Int))).cps.toList, 48 ≤ c ∧ c ≤ 57 := fun c hc => by
    have hc : c ∈ TL.tl (Str.ofString (toString (n : Int))) := hc
    rw [e] at hc
    exact dg c hc
  refine ⟨by omega, by omega, ?_, ?_, ?_, TL.int_num (by omega), ?_⟩
  · unfold Txt.isdigit
    rw [decide_eq_true (by omega), Bool.true_and, ← Array.all_toList, List.all_eq_true]
    intro c hc
    have := mem c hc
    have all : ∀ c : Fin 10, Unicode.isDigit (48 + c.val) = true := by decide +kernel
    have := all ⟨c - 48, by omega⟩
    rw [show 48 + (⟨c - 48, by omega⟩ : Fin 10).val = c from by show 48 + (c - 48) = c; omega] at this
    exact this
  · unfold Txt.isascii
    rw [← Array.all_toList, List.all_eq_true]
    intro c hc
    have := mem c hc
    exact decide_eq_true (by omega)
  · unfold Txt.isalpha
    rw [Bool.and_eq_false_iff]
    right
    rw [← Array.all_toList]
    cases z : (Str.ofString (toString (n : Int))).cps.toList with
    | nil =>
      have : TL.tl (Str.ofString (toString (n : Int))) = [] := z
      rw [e] at this
      exact absurd this ne
    | cons c r =>
      have := mem c (by rw [z]; exact List.mem_cons_self)
      have all : ∀ c : Fin 10, Unicode.isAlpha (48 + c.val) = false := by decide +kernel
      have := all ⟨c - 48, by omega⟩
      rw [show 48 + (⟨c - 48, by omega⟩ : Fin 10).val = c from by show 48 + (c - 48) = c; omega] at this
      rw [List.all_cons, this]
      rfl
  · have z : (Str.ofString (toString (n : Int))).cps.toList = TL.numL n := e
    rw [z]
    cases zz : TL.numL n with
    | nil => exact absurd zz ne
    | cons c r =>
      have := dg c (by rw [zz]; exact List.mem_cons_self)
      exact ⟨c, rfl, this.1, this.2, fun c48 => lead0 n c r zz c48⟩
theorem spt_facts : ∀ o ∈ names12, ∀ m : Fin 6, (o ++ ("." : Str) ++ Str.ofString (toString ((m.val : Nat) : Int))).length ≤ 10 ∧ Txt.isdigit (o ++ ("." : Str) ++ Str.ofString (toString ((m.val : Nat) : Int))) = false ∧ Txt.isalpha (o ++ ("." : Str) ++ Str.ofString (toString ((m.val : Nat) : Int))) = false ∧ Txt.startswith (o ++ ("." : Str) ++ Str.ofString (toString ((m.val : Nat) : Int))) "-" = false ∧ decide (V.str (o ++ ("." : Str) ++ Str.ofString (toString ((m.val : Nat) : Int))) = V.str "none") = false ∧ Txt.partition (o ++ ("." : Str) ++ Str.ofString (toString ((m.val : Nat) : Int))) "." = (o, ((".") : Str), Str.ofString (toString ((m.val : Nat) : Int))) := by decide +kernel
theorem zero_is {w : Str} {c : Nat} (h : w.cps.toList[0]? = some c) : decide (V.str (⟨#[c]⟩ : Str) = V.str "0") = decide (c = 48) := by
  by_cases z : c = 48
  · subst z
    decide +kernel
  · rw [decide_eq_false z, decide_eq_false]
    intro e
    have : (⟨#[c]⟩ : Str) = "0" := V.str.inj e
    have e2 : (#[c] : Array Nat).toList = ("0" : Str).cps.toList := congrArg (fun z : Str => z.cps.toList) this
    rw [show ("0" : Str).cps.toList = [48] from by decide +kernel] at e2
    exact z (List.cons.inj e2).1
theorem ok_whole {f : Addr} {fd : FuncData} (F : Fun K "whole_of" "whole_of" sWhole f fd) (mL : mg "len" = none) (mI : mg "int" = none) : FnOk P w K mg base CX0 1 f fd ["word", "digits"] spWhole := by
  refine F.ok scWhole (fun vs H Q E h => ?_) (fun cdv A outer s H vs Q E hr h => ?_)
  · obtain ⟨w, rfl, _⟩ := h
    rfl
  · obtain ⟨w', rfl, h⟩ := h
    refine ⟨_, pss_cons (ps_if (pw_or (pt_cmpR op_gt (pe_callB call_len_str (by rfl) mL PySem.boot_len (pa_cons (pv 0) pa_nil)) (pv 1) (nomark _)) (pw_or (pt_not (pt_val (pe_m0 PySem.F.slot_str_isdigit PySem.F.type_str_isdigit mt_isdigit (pv 0)))) (pw_or1 (pt_not (pt_val (pe_m0 PySem.F.slot_str_isascii PySem.F.type_str_isascii mt_isascii (pv 0))))))).pt (pss_one (ps_ret pe_non)) pss_nil) <|
      pss_one (ps_ret (pe_ifExp (pw_and (pt_cmpR op_eq (pe_ix ix_str (pv 0) pe_int (fun _ _ => rfl)) pe_str (nomark _)) (pw_and1 (pt_cmpR op_ne (pv 0) pe_str (nomark _)))).pt pe_non (pe_callTy call_int_str (by rfl) mI (by decide +kernel) (pa_cons (pv 0) pa_nil)))), ?_⟩
    rcases h with ⟨n, hn, rfl, q⟩ | ⟨⟨o, ho, m, rfl⟩, q⟩
    · obtain ⟨f1, f2, f3, f4, f5, f6, c, f7, f8, f9, f10⟩ := num_facts hn
      refine seq_of (ifS_of (or_of (test_of (op_of (cb_of (c_of (v_of rfl (n_of ⟨_, rfl, by rw [sizeLine_eq]; omega, v_of rfl ⟨_, _, rfl, rfl, _, rfl, ?_⟩⟩))))))))
      rw [decide_eq_false (by omega), if_neg Bool.false_ne_true]
      refine or_of (not_of (test_of (m0_of (v_of rfl ⟨⟨_, rfl⟩, _, rfl, rfl, trivial, _, rfl, ?_⟩))))
      rw [f3, if_neg (show ¬ (!true) = true from Bool.false_ne_true)]
      refine not_of (test_of (m0_of (v_of rfl ⟨⟨_, rfl⟩, _, rfl, rfl, trivial, _, rfl, ?_⟩)))
      rw [f4, if_neg (show ¬ (!true) = true from Bool.false_ne_true)]
      dsimp only [tNext]
      have fin : ∀ {H1 : Hp} {σ : L2.St}, H1 = H → σ[0]? = some (some (.str (Str.ofString (toString (n : Int))))) → tCB (fun xs H Q => ∃ a n, xs = [.str a] ∧ PySem.intText? a = some n ∧ a.length ≤ 640 ∧ Q (.int n) H) (tCons (tVar 0) tNil) σ H1 Q := fun {H1 σ} e h => by
        rw [e]
        exact cb_of (c_of (v_of h (n_of ⟨_, _, rfl, f6, by omega, q⟩)))
      refine ret_of (if_of (and_of (test_of (op_of (v_of rfl (k_of ⟨_, 0, c, rfl, rfl, by rw [sizeLine_eq]; omega, atI_nat (j := 0) f7, k_of ⟨rfl, _, rfl, ?_⟩⟩))))))
      rw [zero_is f7]
      by_cases c48 : c = 48
      · rw [decide_eq_true c48, if_pos rfl]
        refine test_of (op_of (v_of rfl (k_of ⟨rfl, _, rfl, ?_⟩)))
        have z0 := f10 c48
        rw [z0, show (!decide (V.str (Str.ofString (toString ((0 : Nat) : Int))) = V.str "0")) = false from by decide +kernel, if_neg Bool.false_ne_true]
        rw [z0] at fin
        exact fin rfl rfl
      · rw [decide_eq_false c48, if_neg Bool.false_ne_true, if_neg Bool.false_ne_true]
        exact fin rfl rfl
    · obtain ⟨f1, f2, _⟩ := spt_facts o ho m
      refine seq_of (ifS_of (or_of (test_of (op_of (cb_of (c_of (v_of rfl (n_of ⟨_, rfl, by rw [sizeLine_eq]; omega, v_of rfl ⟨_, _, rfl, rfl, _, rfl, ?_⟩⟩))))))))
      rw [decide_eq_false (by omega), if_neg Bool.false_ne_true]
      refine or_of (not_of (test_of (m0_of (v_of rfl ⟨⟨_, rfl⟩, _, rfl, rfl, trivial, _, rfl, ?_⟩))))
      rw [f2, if_pos (show (!false) = true from rfl), if_pos rfl]
      exact ret_of (k_of q)
def spNumber : Sp := fun vs H Q _ => ∃ (w : Str) (m : Int), vs = [.str w, .int m] ∧ ((∃ n : Nat, n ≤ 1000000000 ∧ (n : Int) ≤ m ∧ w = Str.ofString (toString (n : Int)) ∧ Q (.int n) H) ∨ (Spt w ∧ Q .non H))
theorem ok_number {f fW : Addr} {fd fdW : FuncData} (F : Fun K "number_of" "number_of" sNumber f fd) (FW : Fun K "whole_of" "whole_of" sWhole fW fdW) (T : Tb K w mg dT dS) (bW : Binds K fdW ["word", "digits"] []) (gW : mg "whole_of" = some (.ref fW)) (GW : FnOk P w K mg base CX0 1 fW fdW ["word", "digits"] spWhole) : FnOk P w K mg base CX0 2 f fd ["word", "most"] spNumber := by
  obtain ⟨t10, g10⟩ := T.digits
  refine F.ok scNumber (fun vs H Q E h => ?_) (fun cdv A outer s H vs Q E hr h => ?_)
  · obtain ⟨w, m, rfl, _⟩ := h
    rfl
  · obtain ⟨w', m, rfl, h⟩ := h
    refine ⟨_, pss_cons (ps_set (i := 2) scNumber.nd rfl (.inl rfl) (pe_call GW hr (by rfl) gW FW.kp bW .nil pass0 (pa_cons (pv 0) <| pa_cons (pe_glob (v := .int 10) (by rfl) g10 ⟨t10, rfl⟩) pa_nil))) <|
      pss_one (ps_ret (pe_ifExp (pw_or (pt_cmpR op_isN (pv 2) pe_non (nomark _)) (pw_or1 (pt_cmpR op_gt (pv 2) (pv 1) (nomark _)))).pt pe_non (pv 2))), ?_⟩
    rcases h with ⟨n, hn, hm, rfl, q⟩ | ⟨sp, q⟩
    · refine seq_of (asg_of (call_of (c_of (v_of rfl (c_of (k_of (n_of ⟨_, rfl, .inl ⟨n, hn, rfl, ?_⟩⟩)))))))
      dsimp only
      refine ret_of (if_of (or_of (test_of (op_of (v_of rfl (k_of ⟨rfl, _, rfl, ?_⟩))))))
      rw [show decide (V.int (n : Int) = V.non) = false from by simp, if_neg Bool.false_ne_true]
      refine test_of (op_of (v_of rfl (v_of rfl ⟨_, _, rfl, rfl, _, rfl, ?_⟩)))
      rw [decide_eq_false (by omega), if_neg Bool.false_ne_true]
      exact v_of rfl q
    · refine seq_of (asg_of (call_of (c_of (v_of rfl (c_of (k_of (n_of ⟨_, rfl, .inr ⟨sp, ?_⟩⟩)))))))
      dsimp only
      refine ret_of (if_of (or_of (test_of (op_of (v_of rfl (k_of ⟨rfl, _, rfl, ?_⟩))))))
      rw [decide_eq_true rfl, if_pos rfl, if_pos rfl]
      exact k_of q
def spValue : Sp := fun vs H Q _ => ∃ w : Str, vs = [.str w] ∧ ((Wo w ∧ ∀ v, (v = V.non ∨ (∃ i, v = V.int i) ∨ v = V.str w) → Q v H) ∨ (Spt w ∧ Q (.bl false) H))
theorem neg_facts : ∀ w ∈ (["-7", "-1000000000"] : List Str), Txt.isalpha w = false ∧ Txt.startswith w "-" = true ∧ decide (V.str w = V.str "none") = false ∧ w.length ≤ 20 ∧ ∃ n ∈ ([7, 1000000000] : List Nat), cutS w (some 1) none = Str.ofString (toString (n : Int)) := by decide +kernel
theorem num_more {n : Nat} (h : n ≤ 1000000000) : Txt.startswith (Str.ofString (toString (n : Int))) "-" = false ∧ decide (V.str (Str.ofString (toString (n : Int))) = V.str "none") = false := by
  obtain ⟨f1, f2, f3, f4, f5, f6, c, f7, f8, f9, f10⟩ := num_facts h
  constructor
  · cases z : Txt.startswith (Str.ofString (toString (n : Int))) "-" with
    | false => rfl
    | true =>
      unfold Txt.startswith at z
      rw [Bool.and_eq_true] at z
      have at0 : StrLaws.At (Str.ofString (toString (n : Int))) "-" (Str.ofString (toString (n : Int))).length 0 := ⟨of_decide_eq_true z.1, z.2⟩
      have := (TL.at_iff (y := "-") (show TL.tl ("-" : Str) ≠ [] from by decide +kernel) 0).mp at0
      rw [show TL.tl ("-" : Str) = [45] from by decide +kernel, List.drop_zero] at this
      have z : (Str.ofString (toString (n : Int))).cps.toList = TL.tl (Str.ofString (toString (n : Int))) := rfl
      rw [z] at f7
      cases e : TL.tl (Str.ofString (toString (n : Int))) with
      | nil => rw [e] at f7; cases f7
      | cons a r =>
        rw [e] at f7 this
        have ac : a = c := Option.some.inj f7
        have ne : a ≠ 45 := by omega
        rw [TL.pre_of_head [] r ne] at this
        cases this
  · refine decide_eq_false fun e => ?_
    rw [V.str.inj e] at f5
    exact absurd f5 (by decide +kernel)
theorem ok_value {f fN fU : Addr} {fd fdN fdU : FuncData} (F : Fun K "value_of" "value_of" sValue f fd) (FN : Fun K "is_name" "is_name" sIsName fN fdN) (FU : Fun K "number_of" "number_of" sNumber fU fdU) (T : Tb K w mg dT dS) (bN : Binds K fdN ["word"] []) (bU : Binds K fdU ["word", "most"] []) (gN : mg "is_name" = some (.ref fN)) (gU : mg "number_of" = some (.ref fU))
    (GN' : FnOk P w K mg base CX0 1 fN fdN ["word"] spIsName) (GU : FnOk P w K mg base CX0 2 fU fdU ["word", "most"] spNumber) : FnOk P w K mg base CX0 3 f fd ["word"] spValue := by
  have GN : FnOk P w K mg base CX0 2 fN fdN ["word"] spIsName := GN'.mono (by decide)
  obtain ⟨tm, gm⟩ := T.most
  refine F.ok scValue (fun vs H Q E h => ?_) (fun cdv A outer s H vs Q E hr h => ?_)
  · obtain ⟨w, rfl, _⟩ := h
    rfl
  · obtain ⟨w', rfl, h⟩ := h
    refine ⟨_, pss_cons (ps_if (pt_cmpR op_eq (pv 0) pe_str (nomark _)) (pss_one (ps_ret pe_non)) pss_nil) <|
      pss_cons (ps_if (pt_val (pe_m0 PySem.F.slot_str_isalpha PySem.F.type_str_isalpha mt_isalpha (pv 0))) (pss_one (ps_ret (pe_ifExp (pt_val (pe_call GN hr (by rfl) gN FN.kp bN .nil pass0 (pa_cons (pv 0) pa_nil))) (pv 0) pe_bl))) pss_nil) <|
      pss_cons (ps_if (pt_val (pe_m1 PySem.F.slot_str_startswith PySem.F.type_str_startswith mt_startswith (pv 0) pe_str)) (pss_cons (ps_set (i := 1) scValue.nd rfl (.inl rfl) (pe_call GU hr (by rfl) gU FU.kp bU .nil pass0 (pa_cons (pe_slice sl_str (pv 0) (po_some pe_int) po_none) <| pa_cons (pe_glob (v := .int 1000000000) (by rfl) gm ⟨tm, rfl⟩) pa_nil))) <|
        pss_one (ps_ret (pe_ifExp (pw_or (pt_cmpR op_isN (pv 1) pe_non (nomark _)) (pw_or1 (pt_cmpR op_eq (pv 1) pe_int (nomark _)))).pt pe_bl (pe_un un_neg (pv 1))))) pss_nil) <|
      pss_cons (ps_set (i := 1) scValue.nd rfl (.inl rfl) (pe_call GU hr (by rfl) gU FU.kp bU .nil pass0 (pa_cons (pv 0) <| pa_cons (pe_glob (v := .int 1000000000) (by rfl) gm ⟨tm, rfl⟩) pa_nil))) <|
      pss_one (ps_ret (pe_ifExp (pt_cmpR op_isN (pv 1) pe_non (nomark _)) pe_bl (pv 1))), ?_⟩
    rcases h with ⟨wo, q⟩ | ⟨sp, q⟩
    · rcases wo with nm | rfl | ⟨n, hn, rfl⟩ | neg
      · obtain ⟨a1, a2, a3, a4, a5⟩ := nm_facts _ nm
        refine seq_of (ifS_of (test_of (op_of (v_of rfl (k_of ⟨rfl, _, rfl, ?_⟩)))))
        rw [a5, if_neg Bool.false_ne_true]
        dsimp only [tNext]
        refine seq_of (ifS_of (test_of (m0_of (v_of rfl ⟨⟨_, rfl⟩, _, rfl, rfl, trivial, _, rfl, ?_⟩))))
        rw [a2, if_pos rfl]
        refine ret_of (if_of (test_of (call_of (c_of (v_of rfl (n_of ⟨_, rfl, nm, true, rfl, ?_⟩))))))
        rw [if_pos rfl]
        exact v_of rfl (q _ (.inr (.inr rfl)))
      · refine seq_of (ifS_of (test_of (op_of (v_of rfl (k_of ⟨rfl, _, rfl, ?_⟩)))))
        rw [decide_eq_true rfl, if_pos rfl]
        exact ret_of (k_of (q _ (.inl rfl)))
      · obtain ⟨f1, f2, f3, f4, f5, _⟩ := num_facts hn
        obtain ⟨g1, g2⟩ := num_more hn
        refine seq_of (ifS_of (test_of (op_of (v_of rfl (k_of ⟨rfl, _, rfl, ?_⟩)))))
        rw [g2, if_neg Bool.false_ne_true]
        dsimp only [tNext]
        refine seq_of (ifS_of (test_of (m0_of (v_of rfl ⟨⟨_, rfl⟩, _, rfl, rfl, trivial, _, rfl, ?_⟩))))
        rw [f5, if_neg Bool.false_ne_true]
        dsimp only [tNext]
        refine seq_of (ifS_of (test_of (m1_of (v_of rfl ⟨⟨_, rfl⟩, k_of ⟨_, _, rfl, rfl, _, rfl, ?_⟩⟩))))
        rw [g1, if_neg Bool.false_ne_true]
        dsimp only [tNext]
        refine seq_of (asg_of (call_of (c_of (v_of rfl (c_of (k_of (n_of ⟨_, _, rfl, .inl ⟨n, hn, by omega, rfl, ?_⟩⟩)))))))
        dsimp only
        refine ret_of (if_of (test_of (op_of (v_of rfl (k_of ⟨rfl, _, rfl, ?_⟩)))))
        rw [show decide (V.int (n : Int) = V.non) = false from by simp, if_neg Bool.false_ne_true]
        exact v_of rfl (q _ (.inr (.inl ⟨n, rfl⟩)))
      · obtain ⟨f1, f2, f3, f4, n, hn, f5⟩ := neg_facts _ neg
        have n0 : 0 < n ∧ n ≤ 1000000000 := by
          rcases List.mem_cons.mp hn with rfl | hn
          · decide
          · rw [List.mem_singleton.mp hn]
            decide
        refine seq_of (ifS_of (test_of (op_of (v_of rfl (k_of ⟨rfl, _, rfl, ?_⟩)))))
        rw [f3, if_neg Bool.false_ne_true]
        dsimp only [tNext]
        refine seq_of (ifS_of (test_of (m0_of (v_of rfl ⟨⟨_, rfl⟩, _, rfl, rfl, trivial, _, rfl, ?_⟩))))
        rw [f1, if_neg Bool.false_ne_true]
        dsimp only [tNext]
        refine seq_of (ifS_of (test_of (m1_of (v_of rfl ⟨⟨_, rfl⟩, k_of ⟨_, _, rfl, rfl, _, rfl, ?_⟩⟩))))
        rw [f2, if_pos rfl]
        refine seq_of (asg_of (call_of (c_of (slS_of (v_of rfl (k_of ⟨1, rfl, _, rfl, by rw [sizeLine_eq]; omega, c_of (k_of (n_of ⟨_, _, rfl, .inl ⟨n, n0.2, by omega, f5, ?_⟩⟩))⟩))))))
        dsimp only
        refine ret_of (if_of (or_of (test_of (op_of (v_of rfl (k_of ⟨rfl, _, rfl, ?_⟩))))))
        rw [show decide (V.int (n : Int) = V.non) = false from by simp, if_neg Bool.false_ne_true]
        refine test_of (op_of (v_of rfl (k_of ⟨rfl, _, rfl, ?_⟩)))
        rw [decide_eq_false (fun e => by have := V.int.inj e; omega), if_neg Bool.false_ne_true]
        exact un_of (v_of rfl ⟨_, rfl, q _ (.inr (.inl ⟨_, rfl⟩))⟩)
    · obtain ⟨o, ho, m, rfl⟩ := id sp
      obtain ⟨f1, f2, f3, f4, f5, f6⟩ := spt_facts o ho m
      refine seq_of (ifS_of (test_of (op_of (v_of rfl (k_of ⟨rfl, _, rfl, ?_⟩)))))
      rw [f5, if_neg Bool.false_ne_true]
      dsimp only [tNext]
      refine seq_of (ifS_of (test_of (m0_of (v_of rfl ⟨⟨_, rfl⟩, _, rfl, rfl, trivial, _, rfl, ?_⟩))))
      rw [f3, if_neg Bool.false_ne_true]
      dsimp only [tNext]
      refine seq_of (ifS_of (test_of (m1_of (v_of rfl ⟨⟨_, rfl⟩, k_of ⟨_, _, rfl, rfl, _, rfl, ?_⟩⟩))))
      rw [f4, if_neg Bool.false_ne_true]
      dsimp only [tNext]
      refine seq_of (asg_of (call_of (c_of (v_of rfl (c_of (k_of (n_of ⟨_, _, rfl, .inr ⟨sp, ?_⟩⟩)))))))
      dsimp only
      refine ret_of (if_of (test_of (op_of (v_of rfl (k_of ⟨rfl, _, rfl, ?_⟩)))))
      rw [decide_eq_true rfl, if_pos rfl]
      exact k_of q
def spSlot : Sp := fun vs H Q _ => ∃ w : Str, vs = [.str w] ∧ Spt w ∧ ∀ H' t o m, Ex H H' → H' t = some (.tup [.str o, .int m]) → Q (.ref t) H'
theorem ok_slot {f fN : Addr} {fd fdN : FuncData} (F : Fun K "slot_of" "slot_of" sSlot f fd) (FN : Fun K "is_name" "is_name" sIsName fN fdN) (T : Tb K w mg dT dS) (bN : Binds K fdN ["word"] []) (gN : mg "is_name" = some (.ref fN)) (GN : FnOk P w K mg base CX0 1 fN fdN ["word"] spIsName) : FnOk P w K mg base CX0 2 f fd ["word"] spSlot := by
  obtain ⟨es, n, kd⟩ := T.sl
  refine F.ok scSlot (fun vs H Q E h => ?_) (fun cdv A outer s H vs Q E hr h => ?_)
  · obtain ⟨w, rfl, _⟩ := h
    rfl
  · obtain ⟨w', rfl, ⟨o, ho, m, rfl⟩, q⟩ := h
    refine ⟨_, pss_cons (ps_asg (pe_partition (pv 0) pe_str) (pg_tup (n := 3) rfl (pgs_cons (pg_name (i := 1) scSlot.nd rfl (.inl rfl)) <| pgs_cons (pg_name (i := 2) scSlot.nd rfl (.inl rfl)) <| pgs_cons (pg_name (i := 3) scSlot.nd rfl (.inl rfl)) pgs_nil))) <|
      pss_one (ps_ret (pe_ifExp (pw_and (pt_cmpR (op_in_kd kd) (pv 3) (pe_glob (v := .ref dS) (by rfl) T.slots rfl) (by rfl)) (pw_and1 (pt_val (pe_call GN hr (by rfl) gN FN.kp bN .nil pass0 (pa_cons (pv 1) pa_nil))))).pt (pe_tup (pa_cons (pv 1) <| pa_cons (pe_ix ix_kdict (pe_glob (v := .ref dS) (by rfl) T.slots rfl) (pv 3) (fun _ _ => rfl)) pa_nil)) pe_non)), ?_⟩
    obtain ⟨f1, f2, f3, f4, f5, f6⟩ := spt_facts o ho m
    obtain ⟨t, ht⟩ := T.sn m
    refine seq_of (asgG_of (m1_of (v_of rfl ⟨⟨_, rfl⟩, k_of ⟨_, _, rfl, rfl, by decide +kernel, by rw [sizeLine_eq]; omega, fun p hp => ?_⟩⟩)))
    rw [f6]
    have e1 : Ex H (upd H p (.tup [.str o, .str ".", .str (Str.ofString (toString ((m.val : Nat) : Int)))])) := Ex.new hp
    refine ⟨p, _, rfl, st_of upd_same, rfl, .str o, _, rfl, .str ".", _, rfl, .str (Str.ofString (toString ((m.val : Nat) : Int))), _, rfl, rfl, ?_⟩
    dsimp only [gName]
    generalize upd H p (.tup [.str o, .str ".", .str (Str.ofString (toString ((m.val : Nat) : Int)))]) = H1 at e1 ⊢
    refine ret_of (if_of (and_of (test_of (op_of (v_of rfl (k_of ⟨_, _, rfl, rfl, ht, _, rfl, ?_⟩))))))
    rw [if_pos (show (some (Value.int ((m.val : Nat) : Int) t)).isSome = true from rfl)]
    refine test_of (call_of (c_of (v_of rfl (n_of ⟨_, rfl, ho, true, rfl, ?_⟩))))
    rw [if_pos rfl]
    refine tup_of (c_of (v_of rfl (c_of (op_of (k_of (v_of rfl ⟨_, _, .int ((m.val : Nat) : Int), rfl, rfl, ⟨es, n, _, kd.at_, kd.lit, ht, ⟨t, rfl⟩⟩, n_of ⟨by show 2 ≤ sizeLine; decide, fun p2 hp2 => ?_⟩⟩))))))
    exact q _ p2 o _ (e1.trans (Ex.new hp2)) upd_same
end
end Pf
/-! the forms of a row: each answers a tuple at the words that this law draws -/
namespace Pf
open PySem PySem.Spec PyProof.Rows L2 Evl Gd Sn
abbrev sWord : Stmt := topS 19
abbrev sAsked : Stmt := topS 20
abbrev sRec : Stmt := topS 21
abbrev sWeak : Stmt := topS 22
abbrev sMap : Stmt := topS 23
abbrev nWord : List Str := ["verb", "name", "word", "value", "place"]
abbrev nAsked : List Str := ["verb", "name", "words"]
abbrev nOne : List Str := ["words"]
theorem scWord : FnScope nWord ["verb", "name", "word"] (defScope sWord) := ⟨rfl, rfl, rfl, by decide +kernel, rfl, by decide +kernel, by decide +kernel⟩
theorem scAsked : FnScope nAsked ["verb", "name", "words"] (defScope sAsked) := ⟨rfl, rfl, rfl, by decide +kernel, rfl, by decide +kernel, by decide +kernel⟩
theorem scRec : FnScope nOne ["words"] (defScope sRec) := ⟨rfl, rfl, rfl, by decide +kernel, rfl, by decide +kernel, by decide +kernel⟩
theorem scWeak : FnScope nOne ["words"] (defScope sWeak) := ⟨rfl, rfl, rfl, by decide +kernel, rfl, by decide +kernel, by decide +kernel⟩
theorem scMap : FnScope nOne ["words"] (defScope sMap) := ⟨rfl, rfl, rfl, by decide +kernel, rfl, by decide +kernel, by decide +kernel⟩
/-- a value that is no object -/
def isPlainV : V → Bool
  | .non => true
  | .int _ => true
  | .str _ => true
  | .bl _ => true
  | _ => false
theorem plain_is {x : V} {b : Bool} {u v : Value} (h : isPlainV x = true) (rx : RelV x v) (ry : RelV (.bl b) u) : plainIs v u = true ∧ (v == u) = decide (x = .bl b) := by
  have eu : u = Value.bool b := ry
  subst eu
  cases x with
  | non =>
    have : v = Value.none := rx
    subst this
    exact ⟨rfl, by simp⟩
  | int i =>
    obtain ⟨t, e⟩ := rx
    subst e
    exact ⟨rfl, by simp⟩
  | str z =>
    obtain ⟨t, e⟩ := rx
    subst e
    exact ⟨rfl, by simp⟩
  | bl c =>
    have : v = Value.bool c := rx
    subst this
    refine ⟨rfl, ?_⟩
    by_cases e : c = b
    · subst e
      simp
    · rw [decide_eq_false (fun z => e (V.bl.inj z))]
      exact beq_eq_false_iff_ne.mpr fun z => e (Value.bool.inj z)
  | _ => cases h
def rNotF : R2 := fun x y H Q => ∃ b : Bool, isPlainV x = true ∧ y = .bl b ∧ Q (.bl (!decide (x = .bl b))) H
def rIsF : R2 := fun x y H Q => ∃ b : Bool, isPlainV x = true ∧ y = .bl b ∧ Q (.bl (decide (x = .bl b))) H
theorem op_notF {X : Cx} : OpR X (compareOp .IsNot) rNotF := by
  intro pins s σ H x y v u Q I rx ry h
  obtain ⟨b, hx, rfl, q⟩ := h
  obtain ⟨h1, h2⟩ := plain_is hx rx ry
  refine wpAny_isNot_plain h1 ?_
  rw [show (!v == u) = !(v == u) from rfl, h2]
  exact ⟨.bl _, H, I, rfl, q⟩
theorem op_isF {X : Cx} : OpR X (compareOp .Is) rIsF := by
  intro pins s σ H x y v u Q I rx ry h
  obtain ⟨b, hx, rfl, q⟩ := h
  obtain ⟨h1, h2⟩ := plain_is hx rx ry
  refine wpAny_is_plain h1 ?_
  rw [h2]
  exact ⟨.bl _, H, I, rfl, q⟩
section
variable {K : PySem.W.Frag} {σ : L2.St} {H : Hp} {Q : VK}
theorem ixk_of {i k : Nat} {l : Addr} {xs : List V} {v : V} (e : σ[i]? = some (some (.ref l))) (h : H l = some (.lst xs)) (a : xs[k]? = some v) (q : Q v H) : tOp (rIxL K) (tVar i) (tC (.int k)) σ H Q :=
  ⟨_, e, l, xs, k, v, rfl, rfl, sq_of h, atI_nat a, q⟩
theorem len_of {i : Nat} {l : Addr} {xs : List V} (m : Int) (e : σ[i]? = some (some (.ref l))) (h : H l = some (.lst xs)) (hm : (xs.length : Int) = m) (q : Q (.int m) H) : tCB (fun xs H Q => ∃ p ys, xs = [V.ref p] ∧ (SqL K H p ys ∨ SqT K H p ys) ∧ Q (V.int ↑ys.length) H) (tCons (tVar i) tNil) σ H Q :=
  cb_of (c_of (v_of e (n_of ⟨l, xs, rfl, .inl (sq_of h), by rw [hm]; exact q⟩)))
end
/-- answers a tuple -/
def IsTup (H H' : Hp) (v : V) : Prop := Ex H H' ∧ ∃ t xs, v = .ref t ∧ H' t = some (.tup xs)
def spWord : Sp := fun vs H Q _ => ∃ (z : Str) (y : V) (w : Str), vs = [.str z, y, .str w] ∧ z ∈ (["let", "say"] : List Str) ∧ (Wo w ∨ Spt w) ∧ ∀ H' t z' y' x xs, Ex H H' → H' t = some (.tup (.str z' :: y' :: x :: xs)) → (x = .non ∨ (∃ i, x = .int i) ∨ ∃ u, x = .str u) → Q (.ref t) H'
def spAsked : Sp := fun vs H Q _ => ∃ (z : Str) (y : V) (l : Addr) (ws : List Str), vs = [.str z, y, .ref l] ∧ z ∈ (["let", "say"] : List Str) ∧ H l = some (.lst (ws.map V.str)) ∧ ((∃ w, ws = [("get" : Str), w] ∧ Nm w) ∨ ∃ w u, ws = [w, ("at" : Str), u] ∧ Nm w ∧ Nm u) ∧ ∀ H' v, IsTup H H' v → Q v H'
/-- a form's promise -/
def spF (G : List Str → Prop) : Sp := fun vs H Q _ => ∃ (l : Addr) (ws : List Str), vs = [.ref l] ∧ H l = some (.lst (ws.map V.str)) ∧ G ws ∧ ∀ H' v, IsTup H H' v → Q v H'
theorem two_le : (2 : Nat) ≤ sizeLine := by show 2 ≤ sizeLine; decide
theorem verb_len : ∀ z ∈ (["let", "say"] : List Str), z.length ≤ 3 := by decide +kernel
section
variable {P : Program} {w : World} {K : PySem.W.Frag} {mg : Str → Option Value} {base : Heap} {dT dS : Addr}
theorem ok_word {f fV fS : Addr} {fd fdV fdS : FuncData} (F : Fun K "word_form" "word_form" sWord f fd) (FV : Fun K "value_of" "value_of" sValue fV fdV) (FS : Fun K "slot_of" "slot_of" sSlot fS fdS) (bV : Binds K fdV ["word"] []) (bS : Binds K fdS ["word"] []) (gV : mg "value_of" = some (.ref fV)) (gS : mg "slot_of" = some (.ref fS))
    (GV : FnOk P w K mg base CX0 3 fV fdV ["word"] spValue) (GS' : FnOk P w K mg base CX0 2 fS fdS ["word"] spSlot) : FnOk P w K mg base CX0 4 f fd ["verb", "name", "word"] spWord := by
  have GS : FnOk P w K mg base CX0 3 fS fdS ["word"] spSlot := GS'.mono (by decide)
  refine F.ok scWord (fun vs H Q E h => ?_) (fun cdv A outer s H vs Q E hr h => ?_)
  · obtain ⟨z, y, w, rfl, _⟩ := h
    rfl
  · obtain ⟨z, y, w', rfl, hz, hw, q⟩ := h
    have zl := verb_len z hz
    have l6 : (" value" : Str).length = 6 := by decide +kernel
    have l5 : (" slot" : Str).length = 5 := by decide +kernel
    refine ⟨_, pss_cons (ps_set (i := 3) scWord.nd rfl (.inl rfl) (pe_call GV hr (by rfl) gV FV.kp bV .nil pass0 (pa_cons (pv 2) pa_nil))) <|
      pss_cons (ps_if (pt_cmpR op_notF (pv 3) pe_bl (nomark _)) (pss_one (ps_ret (pe_tup (pa_cons (pe_op op_add_str (pv 0) pe_str) <| pa_cons (pv 1) <| pa_cons (pv 3) pa_nil)))) pss_nil) <|
      pss_cons (ps_set (i := 4) scWord.nd rfl (.inl rfl) (pe_call GS hr (by rfl) gS FS.kp bS .nil pass0 (pa_cons (pv 2) pa_nil))) <|
      pss_one (ps_ret (pe_ifExp (pt_cmpR op_isN (pv 4) pe_non (nomark _)) pe_non (pe_tup (pa_cons (pe_op op_add_str (pv 0) pe_str) <| pa_cons (pv 1) <| pa_cons (pe_ix ix_tup (pv 4) pe_int (fun _ _ => rfl)) <| pa_cons (pe_ix ix_tup (pv 4) pe_int (fun _ _ => rfl)) pa_nil)))), ?_⟩
    rcases hw with hw | hw
    · refine seq_of (asg_of (call_of (c_of (v_of rfl (n_of ⟨_, rfl, .inl ⟨hw, fun v hv => ?_⟩⟩)))))
      dsimp only
      have pl : isPlainV v = true ∧ (v = .non ∨ (∃ i, v = .int i) ∨ ∃ u, v = .str u) ∧ decide (v = .bl false) = false := by
        rcases hv with rfl | ⟨i, rfl⟩ | rfl
        · exact ⟨rfl, .inl rfl, by simp⟩
        · exact ⟨rfl, .inr (.inl ⟨_, rfl⟩), by simp⟩
        · exact ⟨rfl, .inr (.inr ⟨_, rfl⟩), by simp⟩
      refine seq_of (ifS_of (test_of (op_of (v_of rfl (k_of ⟨false, pl.1, rfl, _, rfl, ?_⟩)))))
      rw [pl.2.2, if_pos (show (!false) = true from rfl)]
      refine ret_of (tup_of (c_of (op_of (v_of rfl (k_of ⟨_, _, rfl, rfl, (by rw [sizeLine_eq, l6]; omega), c_of (v_of rfl (c_of (v_of rfl (n_of ⟨by show 3 ≤ sizeLine; decide, fun p hp => ?_⟩))))⟩)))))
      exact q _ p _ _ _ _ (Ex.new hp) upd_same pl.2.1
    · refine seq_of (asg_of (call_of (c_of (v_of rfl (n_of ⟨_, rfl, .inr ⟨hw, ?_⟩⟩)))))
      dsimp only
      refine seq_of (ifS_of (test_of (op_of (v_of rfl (k_of ⟨false, rfl, rfl, _, rfl, ?_⟩)))))
      rw [decide_eq_true rfl, if_neg (show ¬ (!true) = true from Bool.false_ne_true)]
      dsimp only [tNext]
      refine seq_of (asg_of (call_of (c_of (v_of rfl (n_of ⟨_, rfl, hw, fun H1 t o m e1 ht => ?_⟩)))))
      dsimp only
      refine ret_of (if_of (test_of (op_of (v_of rfl (k_of ⟨rfl, _, rfl, ?_⟩)))))
      rw [show decide (V.ref t = V.non) = false from by simp, if_neg Bool.false_ne_true]
      refine tup_of (c_of (op_of (v_of rfl (k_of ⟨_, _, rfl, rfl, (by rw [sizeLine_eq, l5]; omega), c_of (v_of rfl (c_of (op_of (v_of rfl (k_of ⟨t, _, 0, _, rfl, rfl, st_of ht, atI_nat (j := 0) rfl, c_of (op_of (v_of rfl (k_of ⟨t, _, 1, _, rfl, rfl, st_of ht, atI_nat (j := 1) rfl, n_of ⟨by show 4 ≤ sizeLine; decide, fun p hp => ?_⟩⟩)))⟩)))))⟩))))
      exact q _ p _ _ _ _ (e1.trans (Ex.new hp)) upd_same (.inr (.inr ⟨_, rfl⟩))
/-- the homes, the sizes -/
structure Tb2 (K : PySem.W.Frag) (w : World) (mg : Str → Option Value) (dH dZ : Addr) : Prop where
  homes : mg "HOMES" = some (.ref dH)
  hm : ∀ H, SqT K H dH (homes2.map V.str)
  sizes : mg "SIZES" = some (.ref dZ)
  sz : ∃ es n, KDict K w dZ es n
  zn : ∀ m : Fin 7, ∃ t, PySem.W.nsIn K dZ (Str.ofString (toString ((m.val : Nat) : Int))) = some (some (.int m.val t))
theorem ok_asked {f fN : Addr} {fd fdN : FuncData} (F : Fun K "asked_form" "asked_form" sAsked f fd) (FN : Fun K "is_name" "is_name" sIsName fN fdN) (bN : Binds K fdN ["word"] []) (gN : mg "is_name" = some (.ref fN)) (mL : mg "len" = none)
    (GN' : FnOk P w K mg base CX0 1 fN fdN ["word"] spIsName) : FnOk P w K mg base CX0 4 f fd ["verb", "name", "words"] spAsked := by
  have GN : FnOk P w K mg base CX0 3 fN fdN ["word"] spIsName := GN'.mono (by decide)
  refine F.ok scAsked (fun vs H Q E h => ?_) (fun cdv A outer s H vs Q E hr h => ?_)
  · obtain ⟨z, y, l, ws, rfl, _⟩ := h
    rfl
  · obtain ⟨z, y, l, ws, rfl, hz, hl, hw, q⟩ := h
    have zl := verb_len z hz
    have l4 : (" get" : Str).length = 4 := by decide +kernel
    have l3 : (" at" : Str).length = 3 := by decide +kernel
    refine ⟨_, pss_cons (ps_if (pw_and (pt_cmpR op_eq (pe_callB call_len_seq (by rfl) mL PySem.boot_len (pa_cons (pv 2) pa_nil)) pe_int (nomark _)) (pw_and (pt_cmpR op_eq (pe_ix ix_list (pv 2) pe_int (fun _ _ => rfl)) pe_str (nomark _)) (pw_and1 (pt_val (pe_call GN hr (by rfl) gN FN.kp bN .nil pass0 (pa_cons (pe_ix ix_list (pv 2) pe_int (fun _ _ => rfl)) pa_nil)))))).pt
        (pss_one (ps_ret (pe_tup (pa_cons (pe_op op_add_str (pv 0) pe_str) <| pa_cons (pv 1) <| pa_cons (pe_ix ix_list (pv 2) pe_int (fun _ _ => rfl)) pa_nil)))) pss_nil) <|
      pss_cons (ps_if (pw_and (pt_cmpR op_eq (pe_callB call_len_seq (by rfl) mL PySem.boot_len (pa_cons (pv 2) pa_nil)) pe_int (nomark _)) (pw_and (pt_cmpR op_eq (pe_ix ix_list (pv 2) pe_int (fun _ _ => rfl)) pe_str (nomark _)) (pw_and (pt_val (pe_call GN hr (by rfl) gN FN.kp bN .nil pass0 (pa_cons (pe_ix ix_list (pv 2) pe_int (fun _ _ => rfl)) pa_nil))) (pw_and1 (pt_val (pe_call GN hr (by rfl) gN FN.kp bN .nil pass0 (pa_cons (pe_ix ix_list (pv 2) pe_int (fun _ _ => rfl)) pa_nil))))))).pt
        (pss_one (ps_ret (pe_tup (pa_cons (pe_op op_add_str (pv 0) pe_str) <| pa_cons (pv 1) <| pa_cons (pe_ix ix_list (pv 2) pe_int (fun _ _ => rfl)) <| pa_cons (pe_ix ix_list (pv 2) pe_int (fun _ _ => rfl)) pa_nil)))) pss_nil) <|
      pss_one (ps_ret pe_non), ?_⟩
    rcases hw with ⟨w1, rfl, n1⟩ | ⟨w1, w2, rfl, n1, n2⟩
    · refine seq_of (ifS_of (and_of (test_of (op_of (len_of 2 rfl hl rfl (k_of ⟨rfl, _, rfl, ?_⟩))))))
      rw [decide_eq_true rfl, if_pos rfl]
      refine and_of (test_of (op_of (ixk_of rfl hl (k := 0) rfl (k_of ⟨rfl, _, rfl, ?_⟩))))
      rw [decide_eq_true rfl, if_pos rfl]
      refine test_of (call_of (c_of (ixk_of rfl hl (k := 1) rfl (n_of ⟨_, rfl, n1, true, rfl, ?_⟩))))
      rw [if_pos rfl]
      refine ret_of (tup_of (c_of (op_of (v_of rfl (k_of ⟨_, _, rfl, rfl, (by rw [sizeLine_eq, l4]; omega), c_of (v_of rfl (c_of (ixk_of rfl hl (k := 1) rfl (n_of ⟨by show 3 ≤ sizeLine; decide, fun p hp => ?_⟩))))⟩)))))
      exact q _ _ ⟨Ex.new hp, p, _, rfl, upd_same⟩
    · refine seq_of (ifS_of (and_of (test_of (op_of (len_of 3 rfl hl rfl (k_of ⟨rfl, _, rfl, ?_⟩))))))
      rw [show decide (V.int 3 = V.int 2) = false from by decide +kernel, if_neg Bool.false_ne_true, if_neg Bool.false_ne_true]
      dsimp only [tNext]
      refine seq_of (ifS_of (and_of (test_of (op_of (len_of 3 rfl hl rfl (k_of ⟨rfl, _, rfl, ?_⟩))))))
      rw [decide_eq_true rfl, if_pos rfl]
      refine and_of (test_of (op_of (ixk_of rfl hl (k := 1) rfl (k_of ⟨rfl, _, rfl, ?_⟩))))
      rw [decide_eq_true rfl, if_pos rfl]
      refine and_of (test_of (call_of (c_of (ixk_of rfl hl (k := 0) rfl (n_of ⟨_, rfl, n1, true, rfl, ?_⟩)))))
      rw [if_pos rfl]
      refine test_of (call_of (c_of (ixk_of rfl hl (k := 2) rfl (n_of ⟨_, rfl, n2, true, rfl, ?_⟩))))
      rw [if_pos rfl]
      refine ret_of (tup_of (c_of (op_of (v_of rfl (k_of ⟨_, _, rfl, rfl, (by rw [sizeLine_eq, l3]; omega), c_of (v_of rfl (c_of (ixk_of rfl hl (k := 0) rfl (c_of (ixk_of rfl hl (k := 2) rfl (n_of ⟨by show 4 ≤ sizeLine; decide, fun p hp => ?_⟩))))))⟩)))))
      exact q _ _ ⟨Ex.new hp, p, _, rfl, upd_same⟩
end
end Pf
namespace Pf
open PySem PySem.Spec PyProof.Rows L2 Evl Gd Sn
abbrev sName : Stmt := topS 27
abbrev sNumF : Stmt := topS 28
abbrev sBare : Stmt := topS 29
abbrev sIf : Stmt := topS 30
abbrev nNumF : List Str := ["words", "number"]
abbrev nIf : List Str := ["words", "left", "right"]
theorem scName : FnScope nOne ["words"] (defScope sName) := ⟨rfl, rfl, rfl, by decide +kernel, rfl, by decide +kernel, by decide +kernel⟩
theorem scNumF : FnScope nNumF ["words"] (defScope sNumF) := ⟨rfl, rfl, rfl, by decide +kernel, rfl, by decide +kernel, by decide +kernel⟩
theorem scBare : FnScope nOne ["words"] (defScope sBare) := ⟨rfl, rfl, rfl, by decide +kernel, rfl, by decide +kernel, by decide +kernel⟩
theorem scIf : FnScope nIf ["words"] (defScope sIf) := ⟨rfl, rfl, rfl, by decide +kernel, rfl, by decide +kernel, by decide +kernel⟩
def gRec (ws : List Str) : Prop := ∃ nm h k : Str, (ws = [("let" : Str), nm, "=", "record", h, k] ∧ h ∈ homes2 ∧ Num 6 k) ∨ ∃ c : Str, ws = [("let" : Str), nm, "=", "record", h, k, "then", c] ∧ h ∈ homes2 ∧ Num 6 k ∧ c ∈ calls3
def gWeak (ws : List Str) : Prop := ∃ nm h o : Str, ws = [("let" : Str), nm, "=", "weak", h, o] ∧ h ∈ homes2 ∧ Nm o
def gMap (ws : List Str) : Prop := ∃ nm h : Str, ws = [("let" : Str), nm, "=", "map", h] ∧ h ∈ homes2
def gNm (ws : List Str) : Prop := ∃ v o : Str, ws = [v, o] ∧ Nm o
def gNum (ws : List Str) : Prop := ∃ v o : Str, ws = [v, o] ∧ Num 10000 o
def gBare (ws : List Str) : Prop := ∃ v : Str, ws = [v]
def gIf (ws : List Str) : Prop := ∃ v a b : Str, ws = [v, a, "is", b] ∧ Wo a ∧ Wo b
theorem home_in : ∀ h ∈ homes2, inV (.str h) (homes2.map V.str) = true := by decide +kernel
theorem homes_flat : (homes2.map V.str).all flatV = true := by decide +kernel
section
variable {P : Program} {w : World} {K : PySem.W.Frag} {mg : Str → Option Value} {base : Heap} {dT dS dH dZ : Addr}
theorem ok_rec {f fL : Addr} {fd fdL : FuncData} (F : Fun K "record_form" "record_form" sRec f fd) (FL : Fun K "is_local" "is_local" sIsLocal fL fdL) (T : Tb2 K w mg dH dZ) (bL : Binds K fdL ["word"] []) (gL : mg "is_local" = some (.ref fL)) (mL : mg "len" = none)
    (GL : FnOk P w K mg base CX0 2 fL fdL ["word"] spIsLocal) : FnOk P w K mg base CX0 3 f fd ["words"] (spF gRec) := by
  obtain ⟨es, n, kd⟩ := T.sz
  refine F.ok scRec (fun vs H Q E h => ?_) (fun cdv A outer s H vs Q E hr h => ?_)
  · obtain ⟨l, ws, rfl, _⟩ := h
    rfl
  · obtain ⟨l, ws, rfl, hl, g, q⟩ := h
    refine ⟨_, pss_cons (ps_if (pw_or (pt_cmpR op_notIn_seq (pe_callB call_len_seq (by rfl) mL PySem.boot_len (pa_cons (pv 0) pa_nil)) (pe_tup (pa_cons pe_int <| pa_cons pe_int pa_nil)) (by rfl)) (pw_or (pt_cmpR op_notIn_seq (pe_ix ix_list (pv 0) pe_int (fun _ _ => rfl)) (pe_glob (v := .ref dH) (by rfl) T.homes rfl) (by rfl)) (pw_or1 (pt_cmpR (op_notIn_kd kd) (pe_ix ix_list (pv 0) pe_int (fun _ _ => rfl)) (pe_glob (v := .ref dZ) (by rfl) T.sizes rfl) (by rfl))))).pt (pss_one (ps_ret pe_non)) pss_nil) <|
      pss_cons (ps_if (pt_cmpR op_eq (pe_callB call_len_seq (by rfl) mL PySem.boot_len (pa_cons (pv 0) pa_nil)) pe_int (nomark _)) (pss_one (ps_ret (pe_tup (pa_cons pe_str <| pa_cons (pe_ix ix_list (pv 0) pe_int (fun _ _ => rfl)) <| pa_cons pe_str <| pa_cons (pe_ix ix_list (pv 0) pe_int (fun _ _ => rfl)) <| pa_cons (pe_ix ix_kdict (pe_glob (v := .ref dZ) (by rfl) T.sizes rfl) (pe_ix ix_list (pv 0) pe_int (fun _ _ => rfl)) (fun _ _ => rfl)) <| pa_cons pe_non pa_nil)))) pss_nil) <|
      pss_cons (ps_if (pw_or (pt_cmpR op_ne (pe_ix ix_list (pv 0) pe_int (fun _ _ => rfl)) pe_str (nomark _)) (pw_or1 (pt_not (pt_val (pe_call GL hr (by rfl) gL FL.kp bL .nil pass0 (pa_cons (pe_ix ix_list (pv 0) pe_int (fun _ _ => rfl)) pa_nil)))))).pt (pss_one (ps_ret pe_non)) pss_nil) <|
      pss_one (ps_ret (pe_tup (pa_cons pe_str <| pa_cons (pe_ix ix_list (pv 0) pe_int (fun _ _ => rfl)) <| pa_cons pe_str <| pa_cons (pe_ix ix_list (pv 0) pe_int (fun _ _ => rfl)) <| pa_cons (pe_ix ix_kdict (pe_glob (v := .ref dZ) (by rfl) T.sizes rfl) (pe_ix ix_list (pv 0) pe_int (fun _ _ => rfl)) (fun _ _ => rfl)) <| pa_cons (pe_ix ix_list (pv 0) pe_int (fun _ _ => rfl)) pa_nil))), ?_⟩
    obtain ⟨nm, h, k, g⟩ := g
    rcases g with ⟨rfl, hh, m, hm, rfl⟩ | ⟨c, rfl, hh, ⟨m, hm, rfl⟩, hc⟩
    · obtain ⟨t, ht⟩ := T.zn ⟨m, by omega⟩
      have ht : PySem.W.nsIn K dZ (Str.ofString (toString (m : Int))) = some (some (.int m t)) := ht
      refine seq_of (ifS_of (or_of (test_of (op_of (len_of 6 rfl hl rfl (tup_of (c_of (k_of (c_of (k_of (n_of ⟨two_le, fun a ha => ?_⟩)))))))))))
      have e1 : Ex H (upd H a (.tup [.int 6, .int 8])) := Ex.new ha
      refine ⟨a, [.int 6, .int 8], rfl, .inr (st_of upd_same), rfl, rfl, _, rfl, ?_⟩
      rw [show (if true = true then !inV (V.int 6) [V.int 6, V.int 8] else inV (V.int 6) [V.int 6, V.int 8]) = false from by decide +kernel, if_neg Bool.false_ne_true]
      generalize upd H a (.tup [.int 6, .int 8]) = H1 at e1 ⊢
      have hl1 := e1 _ _ hl
      refine or_of (test_of (op_of (ixk_of rfl hl1 (k := 4) rfl (k_of ⟨dH, _, rfl, .inr (T.hm H1), rfl, homes_flat, _, rfl, ?_⟩))))
      rw [if_pos rfl, home_in h hh, if_neg (show ¬ (!true) = true from Bool.false_ne_true)]
      refine test_of (op_of (ixk_of rfl hl1 (k := 5) rfl (k_of ⟨_, _, rfl, rfl, ht, _, rfl, ?_⟩)))
      rw [if_neg (show ¬ (!(some (Value.int (m : Int) t)).isSome) = true from Bool.false_ne_true)]
      dsimp only [tNext]
      refine seq_of (ifS_of (test_of (op_of (len_of 6 rfl hl1 rfl (k_of ⟨rfl, _, rfl, ?_⟩)))))
      rw [decide_eq_true rfl, if_pos rfl]
      refine ret_of (tup_of (c_of (k_of (c_of (ixk_of rfl hl1 (k := 1) rfl (c_of (k_of (c_of (ixk_of rfl hl1 (k := 4) rfl (c_of (op_of (k_of (ixk_of rfl hl1 (k := 5) rfl ⟨_, _, .int (m : Int), rfl, rfl, ⟨es, n, _, kd.at_, kd.lit, ht, ⟨t, rfl⟩⟩, c_of (k_of (n_of ⟨by show 6 ≤ sizeLine; decide, fun p hp => ?_⟩))⟩)))))))))))))
      exact q _ _ ⟨e1.trans (Ex.new hp), p, _, rfl, upd_same⟩
    · obtain ⟨t, ht⟩ := T.zn ⟨m, by omega⟩
      have ht : PySem.W.nsIn K dZ (Str.ofString (toString (m : Int))) = some (some (.int m t)) := ht
      refine seq_of (ifS_of (or_of (test_of (op_of (len_of 8 rfl hl rfl (tup_of (c_of (k_of (c_of (k_of (n_of ⟨two_le, fun a ha => ?_⟩)))))))))))
      have e1 : Ex H (upd H a (.tup [.int 6, .int 8])) := Ex.new ha
      refine ⟨a, [.int 6, .int 8], rfl, .inr (st_of upd_same), rfl, rfl, _, rfl, ?_⟩
      rw [show (if true = true then !inV (V.int 8) [V.int 6, V.int 8] else inV (V.int 8) [V.int 6, V.int 8]) = false from by decide +kernel, if_neg Bool.false_ne_true]
      generalize upd H a (.tup [.int 6, .int 8]) = H1 at e1 ⊢
      have hl1 := e1 _ _ hl
      refine or_of (test_of (op_of (ixk_of rfl hl1 (k := 4) rfl (k_of ⟨dH, _, rfl, .inr (T.hm H1), rfl, homes_flat, _, rfl, ?_⟩))))
      rw [if_pos rfl, home_in h hh, if_neg (show ¬ (!true) = true from Bool.false_ne_true)]
      refine test_of (op_of (ixk_of rfl hl1 (k := 5) rfl (k_of ⟨_, _, rfl, rfl, ht, _, rfl, ?_⟩)))
      rw [if_neg (show ¬ (!(some (Value.int (m : Int) t)).isSome) = true from Bool.false_ne_true)]
      dsimp only [tNext]
      refine seq_of (ifS_of (test_of (op_of (len_of 8 rfl hl1 rfl (k_of ⟨rfl, _, rfl, ?_⟩)))))
      rw [show decide (V.int 8 = V.int 6) = false from by decide +kernel, if_neg Bool.false_ne_true]
      dsimp only [tNext]
      refine seq_of (ifS_of (or_of (test_of (op_of (ixk_of rfl hl1 (k := 6) rfl (k_of ⟨rfl, _, rfl, ?_⟩))))))
      rw [decide_eq_true rfl, if_neg (show ¬ (!true) = true from Bool.false_ne_true)]
      refine not_of (test_of (call_of (c_of (ixk_of rfl hl1 (k := 7) rfl (n_of ⟨_, rfl, calls_low c hc, true, rfl, ?_⟩)))))
      rw [if_neg (show ¬ (!true) = true from Bool.false_ne_true)]
      dsimp only [tNext]
      refine ret_of (tup_of (c_of (k_of (c_of (ixk_of rfl hl1 (k := 1) rfl (c_of (k_of (c_of (ixk_of rfl hl1 (k := 4) rfl (c_of (op_of (k_of (ixk_of rfl hl1 (k := 5) rfl ⟨_, _, .int (m : Int), rfl, rfl, ⟨es, n, _, kd.at_, kd.lit, ht, ⟨t, rfl⟩⟩, c_of (ixk_of rfl hl1 (k := 7) rfl (n_of ⟨by show 6 ≤ sizeLine; decide, fun p hp => ?_⟩))⟩)))))))))))))
      exact q _ _ ⟨e1.trans (Ex.new hp), p, _, rfl, upd_same⟩
theorem ok_weak {f fN : Addr} {fd fdN : FuncData} (F : Fun K "weak_form" "weak_form" sWeak f fd) (FN : Fun K "is_name" "is_name" sIsName fN fdN) (T : Tb2 K w mg dH dZ) (bN : Binds K fdN ["word"] []) (gN : mg "is_name" = some (.ref fN)) (mL : mg "len" = none)
    (GN' : FnOk P w K mg base CX0 1 fN fdN ["word"] spIsName) : FnOk P w K mg base CX0 3 f fd ["words"] (spF gWeak) := by
  have GN : FnOk P w K mg base CX0 2 fN fdN ["word"] spIsName := GN'.mono (by decide)
  refine F.ok scWeak (fun vs H Q E h => ?_) (fun cdv A outer s H vs Q E hr h => ?_)
  · obtain ⟨l, ws, rfl, _⟩ := h
    rfl
  · obtain ⟨l, ws, rfl, hl, ⟨nm, h, o, rfl, hh, ho⟩, q⟩ := h
    refine ⟨_, pss_cons (ps_if (pw_or (pt_cmpR op_ne (pe_callB call_len_seq (by rfl) mL PySem.boot_len (pa_cons (pv 0) pa_nil)) pe_int (nomark _)) (pw_or (pt_cmpR op_notIn_seq (pe_ix ix_list (pv 0) pe_int (fun _ _ => rfl)) (pe_glob (v := .ref dH) (by rfl) T.homes rfl) (by rfl)) (pw_or1 (pt_not (pt_val (pe_call GN hr (by rfl) gN FN.kp bN .nil pass0 (pa_cons (pe_ix ix_list (pv 0) pe_int (fun _ _ => rfl)) pa_nil))))))).pt (pss_one (ps_ret pe_non)) pss_nil) <|
      pss_one (ps_ret (pe_tup (pa_cons pe_str <| pa_cons (pe_ix ix_list (pv 0) pe_int (fun _ _ => rfl)) <| pa_cons pe_str <| pa_cons (pe_ix ix_list (pv 0) pe_int (fun _ _ => rfl)) <| pa_cons (pe_ix ix_list (pv 0) pe_int (fun _ _ => rfl)) pa_nil))), ?_⟩
    refine seq_of (ifS_of (or_of (test_of (op_of (len_of 6 rfl hl rfl (k_of ⟨rfl, _, rfl, ?_⟩))))))
    rw [decide_eq_true rfl, if_neg (show ¬ (!true) = true from Bool.false_ne_true)]
    refine or_of (test_of (op_of (ixk_of rfl hl (k := 4) rfl (k_of ⟨dH, _, rfl, .inr (T.hm H), rfl, homes_flat, _, rfl, ?_⟩))))
    rw [if_pos rfl, home_in h hh, if_neg (show ¬ (!true) = true from Bool.false_ne_true)]
    refine not_of (test_of (call_of (c_of (ixk_of rfl hl (k := 5) rfl (n_of ⟨_, rfl, ho, true, rfl, ?_⟩)))))
    rw [if_neg (show ¬ (!true) = true from Bool.false_ne_true)]
    dsimp only [tNext]
    refine ret_of (tup_of (c_of (k_of (c_of (ixk_of rfl hl (k := 1) rfl (c_of (k_of (c_of (ixk_of rfl hl (k := 4) rfl (c_of (ixk_of rfl hl (k := 5) rfl (n_of ⟨by show 5 ≤ sizeLine; decide, fun p hp => ?_⟩))))))))))))
    exact q _ _ ⟨Ex.new hp, p, _, rfl, upd_same⟩
theorem ok_map {f : Addr} {fd : FuncData} (F : Fun K "map_form" "map_form" sMap f fd) (T : Tb2 K w mg dH dZ) (mL : mg "len" = none) : FnOk P w K mg base CX0 3 f fd ["words"] (spF gMap) := by
  refine F.ok scMap (fun vs H Q E h => ?_) (fun cdv A outer s H vs Q E hr h => ?_)
  · obtain ⟨l, ws, rfl, _⟩ := h
    rfl
  · obtain ⟨l, ws, rfl, hl, ⟨nm, h, rfl, hh⟩, q⟩ := h
    refine ⟨_, pss_cons (ps_if (pw_or (pt_cmpR op_ne (pe_callB call_len_seq (by rfl) mL PySem.boot_len (pa_cons (pv 0) pa_nil)) pe_int (nomark _)) (pw_or1 (pt_cmpR op_notIn_seq (pe_ix ix_list (pv 0) pe_int (fun _ _ => rfl)) (pe_glob (v := .ref dH) (by rfl) T.homes rfl) (by rfl)))).pt (pss_one (ps_ret pe_non)) pss_nil) <|
      pss_one (ps_ret (pe_tup (pa_cons pe_str <| pa_cons (pe_ix ix_list (pv 0) pe_int (fun _ _ => rfl)) <| pa_cons pe_str <| pa_cons (pe_ix ix_list (pv 0) pe_int (fun _ _ => rfl)) pa_nil))), ?_⟩
    refine seq_of (ifS_of (or_of (test_of (op_of (len_of 5 rfl hl rfl (k_of ⟨rfl, _, rfl, ?_⟩))))))
    rw [decide_eq_true rfl, if_neg (show ¬ (!true) = true from Bool.false_ne_true)]
    refine test_of (op_of (ixk_of rfl hl (k := 4) rfl (k_of ⟨dH, _, rfl, .inr (T.hm H), rfl, homes_flat, _, rfl, ?_⟩)))
    rw [if_pos rfl, home_in h hh, if_neg (show ¬ (!true) = true from Bool.false_ne_true)]
    dsimp only [tNext]
    refine ret_of (tup_of (c_of (k_of (c_of (ixk_of rfl hl (k := 1) rfl (c_of (k_of (c_of (ixk_of rfl hl (k := 4) rfl (n_of ⟨by show 4 ≤ sizeLine; decide, fun p hp => ?_⟩))))))))))
    exact q _ _ ⟨Ex.new hp, p, _, rfl, upd_same⟩
theorem ok_name {f fN : Addr} {fd fdN : FuncData} (F : Fun K "name_form" "name_form" sName f fd) (FN : Fun K "is_name" "is_name" sIsName fN fdN) (bN : Binds K fdN ["word"] []) (gN : mg "is_name" = some (.ref fN)) (mL : mg "len" = none)
    (GN' : FnOk P w K mg base CX0 1 fN fdN ["word"] spIsName) : FnOk P w K mg base CX0 3 f fd ["words"] (spF gNm) := by
  have GN : FnOk P w K mg base CX0 2 fN fdN ["word"] spIsName := GN'.mono (by decide)
  refine F.ok scName (fun vs H Q E h => ?_) (fun cdv A outer s H vs Q E hr h => ?_)
  · obtain ⟨l, ws, rfl, _⟩ := h
    rfl
  · obtain ⟨l, ws, rfl, hl, ⟨v, o, rfl, ho⟩, q⟩ := h
    refine ⟨_, pss_one (ps_ret (pe_ifExp (pw_and (pt_cmpR op_eq (pe_callB call_len_seq (by rfl) mL PySem.boot_len (pa_cons (pv 0) pa_nil)) pe_int (nomark _)) (pw_and1 (pt_val (pe_call GN hr (by rfl) gN FN.kp bN .nil pass0 (pa_cons (pe_ix ix_list (pv 0) pe_int (fun _ _ => rfl)) pa_nil))))).pt (pe_tup (pa_cons (pe_ix ix_list (pv 0) pe_int (fun _ _ => rfl)) <| pa_cons (pe_ix ix_list (pv 0) pe_int (fun _ _ => rfl)) pa_nil)) pe_non)), ?_⟩
    refine ret_of (if_of (and_of (test_of (op_of (len_of 2 rfl hl rfl (k_of ⟨rfl, _, rfl, ?_⟩))))))
    rw [decide_eq_true rfl, if_pos rfl]
    refine test_of (call_of (c_of (ixk_of rfl hl (k := 1) rfl (n_of ⟨_, rfl, ho, true, rfl, ?_⟩))))
    rw [if_pos rfl]
    refine tup_of (c_of (ixk_of rfl hl (k := 0) rfl (c_of (ixk_of rfl hl (k := 1) rfl (n_of ⟨two_le, fun p hp => ?_⟩)))))
    exact q _ _ ⟨Ex.new hp, p, _, rfl, upd_same⟩
theorem ok_numf {f fU : Addr} {fd fdU : FuncData} (F : Fun K "number_form" "number_form" sNumF f fd) (FU : Fun K "number_of" "number_of" sNumber fU fdU) (bU : Binds K fdU ["word", "most"] []) (gU : mg "number_of" = some (.ref fU)) (gM : ∃ t, mg "MOST_NUMBER" = some (.int 10000 t)) (mL : mg "len" = none)
    (GU : FnOk P w K mg base CX0 2 fU fdU ["word", "most"] spNumber) : FnOk P w K mg base CX0 3 f fd ["words"] (spF gNum) := by
  obtain ⟨tm, gm⟩ := gM
  refine F.ok scNumF (fun vs H Q E h => ?_) (fun cdv A outer s H vs Q E hr h => ?_)
  · obtain ⟨l, ws, rfl, _⟩ := h
    rfl
  · obtain ⟨l, ws, rfl, hl, ⟨v, o, rfl, n, hn, rfl⟩, q⟩ := h
    refine ⟨_, pss_cons (ps_if (pt_cmpR op_ne (pe_callB call_len_seq (by rfl) mL PySem.boot_len (pa_cons (pv 0) pa_nil)) pe_int (nomark _)) (pss_one (ps_ret pe_non)) pss_nil) <|
      pss_cons (ps_set (i := 1) scNumF.nd rfl (.inl rfl) (pe_call GU hr (by rfl) gU FU.kp bU .nil pass0 (pa_cons (pe_ix ix_list (pv 0) pe_int (fun _ _ => rfl)) <| pa_cons (pe_glob (v := .int 10000) (by rfl) gm ⟨tm, rfl⟩) pa_nil))) <|
      pss_one (ps_ret (pe_ifExp (pt_cmpR op_isN (pv 1) pe_non (nomark _)) pe_non (pe_tup (pa_cons (pe_ix ix_list (pv 0) pe_int (fun _ _ => rfl)) <| pa_cons (pv 1) pa_nil)))), ?_⟩
    refine seq_of (ifS_of (test_of (op_of (len_of 2 rfl hl rfl (k_of ⟨rfl, _, rfl, ?_⟩)))))
    rw [decide_eq_true rfl, if_neg (show ¬ (!true) = true from Bool.false_ne_true)]
    dsimp only [tNext]
    refine seq_of (asg_of (call_of (c_of (ixk_of rfl hl (k := 1) rfl (c_of (k_of (n_of ⟨_, _, rfl, .inl ⟨n, by omega, by omega, rfl, ?_⟩⟩)))))))
    dsimp only
    refine ret_of (if_of (test_of (op_of (v_of rfl (k_of ⟨rfl, _, rfl, ?_⟩)))))
    rw [show decide (V.int (n : Int) = V.non) = false from by simp, if_neg Bool.false_ne_true]
    refine tup_of (c_of (ixk_of rfl hl (k := 0) rfl (c_of (v_of rfl (n_of ⟨two_le, fun p hp => ?_⟩)))))
    exact q _ _ ⟨Ex.new hp, p, _, rfl, upd_same⟩
theorem ok_bare {f : Addr} {fd : FuncData} (F : Fun K "bare_form" "bare_form" sBare f fd) (mL : mg "len" = none) : FnOk P w K mg base CX0 3 f fd ["words"] (spF gBare) := by
  refine F.ok scBare (fun vs H Q E h => ?_) (fun cdv A outer s H vs Q E hr h => ?_)
  · obtain ⟨l, ws, rfl, _⟩ := h
    rfl
  · obtain ⟨l, ws, rfl, hl, ⟨v, rfl⟩, q⟩ := h
    refine ⟨_, pss_one (ps_ret (pe_ifExp (pt_cmpR op_eq (pe_callB call_len_seq (by rfl) mL PySem.boot_len (pa_cons (pv 0) pa_nil)) pe_int (nomark _)) (pe_tup (pa_cons (pe_ix ix_list (pv 0) pe_int (fun _ _ => rfl)) pa_nil)) pe_non)), ?_⟩
    refine ret_of (if_of (test_of (op_of (len_of 1 rfl hl rfl (k_of ⟨rfl, _, rfl, ?_⟩)))))
    rw [decide_eq_true rfl, if_pos rfl]
    refine tup_of (c_of (ixk_of rfl hl (k := 0) rfl (n_of ⟨by show 1 ≤ sizeLine; decide, fun p hp => ?_⟩)))
    exact q _ _ ⟨Ex.new hp, p, _, rfl, upd_same⟩
theorem val_plain {w' : Str} {v : V} (h : v = V.non ∨ (∃ i, v = V.int i) ∨ v = V.str w') : isPlainV v = true ∧ decide (v = .bl false) = false := by
  rcases h with rfl | ⟨i, rfl⟩ | rfl
  · exact ⟨rfl, by simp⟩
  · exact ⟨rfl, by simp⟩
  · exact ⟨rfl, by simp⟩
theorem ok_if {f fV : Addr} {fd fdV : FuncData} (F : Fun K "if_form" "if_form" sIf f fd) (FV : Fun K "value_of" "value_of" sValue fV fdV) (bV : Binds K fdV ["word"] []) (gV : mg "value_of" = some (.ref fV)) (mL : mg "len" = none)
    (GV : FnOk P w K mg base CX0 3 fV fdV ["word"] spValue) : FnOk P w K mg base CX0 4 f fd ["words"] (spF gIf) := by
  refine F.ok scIf (fun vs H Q E h => ?_) (fun cdv A outer s H vs Q E hr h => ?_)
  · obtain ⟨l, ws, rfl, _⟩ := h
    rfl
  · obtain ⟨l, ws, rfl, hl, ⟨v, a, b, rfl, ha, hb⟩, q⟩ := h
    refine ⟨_, pss_cons (ps_if (pw_or (pt_cmpR op_ne (pe_callB call_len_seq (by rfl) mL PySem.boot_len (pa_cons (pv 0) pa_nil)) pe_int (nomark _)) (pw_or1 (pt_cmpR op_ne (pe_ix ix_list (pv 0) pe_int (fun _ _ => rfl)) pe_str (nomark _)))).pt (pss_one (ps_ret pe_non)) pss_nil) <|
      pss_cons (ps_set (i := 1) scIf.nd rfl (.inl rfl) (pe_call GV hr (by rfl) gV FV.kp bV .nil pass0 (pa_cons (pe_ix ix_list (pv 0) pe_int (fun _ _ => rfl)) pa_nil))) <|
      pss_cons (ps_set (i := 2) scIf.nd rfl (.inl rfl) (pe_call GV hr (by rfl) gV FV.kp bV .nil pass0 (pa_cons (pe_ix ix_list (pv 0) pe_int (fun _ _ => rfl)) pa_nil))) <|
      pss_one (ps_ret (pe_ifExp (pw_or (pt_cmpR op_isF (pv 1) pe_bl (nomark _)) (pw_or1 (pt_cmpR op_isF (pv 2) pe_bl (nomark _)))).pt pe_non (pe_tup (pa_cons pe_str <| pa_cons (pv 1) <| pa_cons (pv 2) pa_nil)))), ?_⟩
    refine seq_of (ifS_of (or_of (test_of (op_of (len_of 4 rfl hl rfl (k_of ⟨rfl, _, rfl, ?_⟩))))))
    rw [decide_eq_true rfl, if_neg (show ¬ (!true) = true from Bool.false_ne_true)]
    refine test_of (op_of (ixk_of rfl hl (k := 2) rfl (k_of ⟨rfl, _, rfl, ?_⟩)))
    rw [decide_eq_true rfl, if_neg (show ¬ (!true) = true from Bool.false_ne_true)]
    dsimp only [tNext]
    refine seq_of (asg_of (call_of (c_of (ixk_of rfl hl (k := 1) rfl (n_of ⟨_, rfl, .inl ⟨ha, fun x hx => ?_⟩⟩)))))
    dsimp only
    refine seq_of (asg_of (call_of (c_of (ixk_of rfl hl (k := 3) rfl (n_of ⟨_, rfl, .inl ⟨hb, fun y hy => ?_⟩⟩)))))
    dsimp only
    obtain ⟨p1, p2⟩ := val_plain hx
    obtain ⟨r1, r2⟩ := val_plain hy
    refine ret_of (if_of (or_of (test_of (op_of (v_of rfl (k_of ⟨false, p1, rfl, _, rfl, ?_⟩))))))
    rw [p2, if_neg Bool.false_ne_true]
    refine test_of (op_of (v_of rfl (k_of ⟨false, r1, rfl, _, rfl, ?_⟩)))
    rw [r2, if_neg Bool.false_ne_true]
    refine tup_of (c_of (k_of (c_of (v_of rfl (c_of (v_of rfl (n_of ⟨by show 3 ≤ sizeLine; decide, fun p hp => ?_⟩)))))))
    exact q _ _ ⟨Ex.new hp, p, _, rfl, upd_same⟩
end
end Pf
namespace Pf
open PySem PySem.Spec PyProof.Rows L2 Evl Gd Sn
def rCntS (K : PySem.W.Frag) : V → List V → Hp → VK → Prop := fun x xs H Q => ∃ (p : Addr) (ys : List Str) (k : Str), x = .ref p ∧ xs = [.str k] ∧ SqL K H p (ys.map V.str) ∧ Q (.int (countIn (PyData.str k) (ys.map PyData.str))) H
theorem mt_lcountS {X : Cx} : MtR X "list.count" (rCntS X.K) := by
  intro pins s σ H x xs v us Q I rx rxs h
  obtain ⟨p, ys, k, rfl, rfl, hs, q⟩ := h
  obtain rfl : v = Value.ref p := rx
  obtain ⟨u, rfl, t, rfl⟩ := vals1 rxs
  obtain ⟨its, rv, hl, hlen⟩ := I.list hs
  exact count_list_strs hl.isList rv.strs ⟨.int _, H, I.tok _, ⟨_, rfl⟩, q⟩
theorem chain_of {r r' : R2} {ta tb tc : TE} {σ : L2.St} {H : Hp} {Q : VK} (h : ta σ H fun x H1 => tb σ H1 fun y H2 => r x y H2 fun z H3 => ∃ k, z = .bl k ∧ (if k = true then tc σ H3 fun w' H4 => r' y w' H4 Q else Q (.bl false) H3)) : tChain r r' ta tb tc σ H Q := h
theorem bm_of {K : PySem.W.Frag} {T : String} {r : V → List V → Hp → VK → Prop} {to : TE} {t : TA} {σ : L2.St} {H : Hp} {Q : VK} (h : to σ H fun x H1 => tyV K T x H1 ∧ t σ H1 fun xs H2 => r x xs H2 Q) : tBM K T r to t σ H Q := h
def gProc (ws : List Str) : Prop := ∃ c : Str, c ∈ calls3 ∧ (ws = [("proc" : Str), c] ∨ ws = [("proc" : Str), c, "y", "z"])
theorem proc_facts {ws : List Str} (h : gProc ws) : ∃ (us ns : List Str) (m : Int) (c : Str), (2 ≤ m ∧ m ≤ 6) ∧ ((ws.map V.str).length : Int) = m ∧ cutV (ws.map V.str) (some 1) none = us.map V.str ∧ cutV (ws.map V.str) (some 2) none = ns.map V.str ∧ (∀ u ∈ us, u ∈ lows) ∧ (∀ n ∈ ns, countIn (PyData.str n) (ns.map PyData.str) = 1) ∧ us.length ≤ 3 ∧ ns.length ≤ 2 ∧ (ws.map V.str)[1]? = some (.str c) := by
  obtain ⟨c, hc, rfl | rfl⟩ := h
  · exact ⟨[c], [], 2, c, by decide, rfl, rfl, rfl, fun u hu => by rw [List.mem_singleton.mp hu]; exact calls_low c hc, fun n hn => absurd hn List.not_mem_nil, by show 1 ≤ 3; decide, by show 0 ≤ 2; decide, rfl⟩
  · refine ⟨[c, "y", "z"], ["y", "z"], 4, c, by decide, rfl, rfl, rfl, fun u hu => ?_, by decide +kernel, by show 3 ≤ 3; decide, by show 2 ≤ 2; decide, rfl⟩
    rcases List.mem_cons.mp hu with rfl | hu
    · exact calls_low _ hc
    · have all : ∀ u ∈ (["y", "z"] : List Str), u ∈ lows := by decide +kernel
      exact all u hu
abbrev sProc : Stmt := topS 31
abbrev sDo : Stmt := topS 32
abbrev sStore : Stmt := topS 33
abbrev sLet : Stmt := topS 25
abbrev sSay : Stmt := topS 26
abbrev nProc : List Str := ["words", "names", "word", "name"]
abbrev nDo : List Str := ["words", "values", "word", "value"]
abbrev nStore : List Str := ["words", "value", "place"]
abbrev nLet : List Str := ["words", "form"]
abbrev nSay : List Str := ["words", "statement"]
theorem scProc : FnScope nProc ["words"] (defScope sProc) := ⟨rfl, rfl, rfl, by decide +kernel, rfl, by decide +kernel, by decide +kernel⟩
theorem scDo : FnScope nDo ["words"] (defScope sDo) := ⟨rfl, rfl, rfl, by decide +kernel, rfl, by decide +kernel, by decide +kernel⟩
theorem scStore : FnScope nStore ["words"] (defScope sStore) := ⟨rfl, rfl, rfl, by decide +kernel, rfl, by decide +kernel, by decide +kernel⟩
theorem scLet : FnScope nLet ["words"] (defScope sLet) := ⟨rfl, rfl, rfl, by decide +kernel, rfl, by decide +kernel, by decide +kernel⟩
theorem scSay : FnScope nSay ["words"] (defScope sSay) := ⟨rfl, rfl, rfl, by decide +kernel, rfl, by decide +kernel, by decide +kernel⟩
def gDo (ws : List Str) : Prop := ∃ c : Str, c ∈ calls3 ∧ (ws = [("do" : Str), c] ∨ ∃ a, Wo a ∧ ws = [("do" : Str), c, a])
def gStore (ws : List Str) : Prop := (∃ p a : Str, ws = [p, "=", a] ∧ Spt p ∧ Wo a) ∨ ∃ o t a : Str, ws = [o, "at", t, "=", a] ∧ Nm o ∧ Nm t ∧ Wo a
section
variable {P : Program} {w : World} {K : PySem.W.Frag} {mg : Str → Option Value} {base : Heap} {dT dS dH dZ : Addr}
theorem ok_proc {f fL : Addr} {fd fdL : FuncData} (F : Fun K "proc_form" "proc_form" sProc f fd) (FL : Fun K "is_local" "is_local" sIsLocal fL fdL) (bL : Binds K fdL ["word"] []) (gL : mg "is_local" = some (.ref fL)) (gM : ∃ t, mg "MOST_PARAMETERS" = some (.int 4 t)) (mL : mg "len" = none) (mA : mg "all" = none) (mY : mg "any" = none) (mT : mg "tuple" = none)
    (GL : FnOk P w K mg base CX0 2 fL fdL ["word"] spIsLocal) : FnOk P w K mg base CX0 3 f fd ["words"] (spF gProc) := by
  obtain ⟨tm, gm⟩ := gM
  refine F.ok scProc (fun vs H Q E h => ?_) (fun cdv A outer s H vs Q E hr h => ?_)
  · obtain ⟨l, ws, rfl, _⟩ := h
    rfl
  · obtain ⟨l, ws, rfl, hl, g, q⟩ := h
    refine ⟨_, pss_cons (ps_if (pt_not (pt_chain op_le op_le pe_int (pe_callB call_len_seq (by rfl) mL PySem.boot_len (pa_cons (pv 0) pa_nil)) (pe_op op_add pe_int (pe_glob (v := .int 4) (by rfl) gm ⟨tm, rfl⟩)))) (pss_one (ps_ret pe_non)) pss_nil) <|
      pss_cons (ps_if (pt_not (pt_val (pe_callB (cr_all rfl) (by rfl) mA (by decide +kernel) (pa_cons (pe_lc (own := [("word", 2)]) (g := gName 2) (tt := tYes) (te := tCall spIsLocal [] E0 (tCons (tVar 2) tNil)) rfl scProc.nd (pi_list (pe_slice sl_list (pv 0) (po_some pe_int) po_none)) (blkOk_by (N := nProc) (sc := defScope sProc) (by decide +kernel))
          (fun _ _ _ _ _ => pg_name (i := 2) scProc.nd rfl (.inl rfl)) (fun _ _ _ _ _ => pts_nil) (fun _ _ _ _ _ => pe_call GL hr (by rfl) gL FL.kp bL .nil pass0 (pa_cons (pv 2) pa_nil))) pa_nil)))) (pss_one (ps_ret pe_non)) pss_nil) <|
      pss_cons (ps_set (i := 1) scProc.nd rfl (.inr rfl) (pe_slice sl_list (pv 0) (po_some pe_int) po_none)) <|
      pss_cons (ps_if (pt_val (pe_callB (cr_any rfl) (by rfl) mY (by decide +kernel) (pa_cons (pe_lc (own := [("name", 3)]) (g := gName 3) (tt := tYes) (te := tOp rGt (tBM K "list" (rCntS K) (tVar 1) (tCons (tVar 3) tNil)) (tC (.int 1))) rfl scProc.nd (pi_list (pv 1)) (blkOk_by (N := nProc) (sc := defScope sProc) (by decide +kernel))
          (fun _ _ _ _ _ => pg_name (i := 3) scProc.nd rfl (.inl rfl)) (fun _ _ _ _ _ => pts_nil) (fun _ _ _ _ _ => pe_cmpR op_gt (pe_bm PySem.F.plainAttrs_list PySem.F.slot_list_count PySem.F.type_list_count mt_lcountS (pv 1) (pa_cons (pv 3) pa_nil)) pe_int (nomark _))) pa_nil))) (pss_one (ps_ret pe_non)) pss_nil) <|
      pss_one (ps_ret (pe_tup (pa_cons pe_str <| pa_cons (pe_ix ix_list (pv 0) pe_int (fun _ _ => rfl)) <| pa_cons (pe_callTy call_tuple_of (by rfl) mT (by decide +kernel) (pa_cons (pv 1) pa_nil)) pa_nil))), ?_⟩
    obtain ⟨us, ns, m, c, m0, hm, hu, hn, au, an, ul, nl, h1⟩ := proc_facts g
    refine seq_of (ifS_of (not_of (test_of (chain_of (k_of (len_of m rfl hl hm ⟨_, _, rfl, rfl, _, rfl, ?_⟩))))))
    rw [decide_eq_true m0.1, if_pos rfl]
    refine op_of (k_of (k_of ⟨_, _, rfl, rfl, _, _, rfl, rfl, _, rfl, ?_⟩))
    rw [decide_eq_true (show m ≤ 2 + 4 by omega), if_neg (show ¬ (!true) = true from Bool.false_ne_true)]
    dsimp only [tNext]
    refine seq_of (ifS_of (not_of (test_of (cb_of (c_of (lc_of (iL_of (slS_of (v_of rfl (k_of ⟨1, rfl, l, _, rfl, sq_of hl, fun p hp => ⟨p, rfl, ⟨_, sq_of upd_same⟩, fun D hD => ?_⟩⟩))))))))))
    rw [hu] at hD ⊢
    have x1 : Ex H (upd H p (.lst (us.map V.str))) := Ex.new hp
    have y1 : (upd H p (.lst (us.map V.str))) p = some (.lst (us.map V.str)) := upd_same
    generalize upd H p (.lst (us.map V.str)) = H1 at x1 y1 hD ⊢
    refine lc_list (xs := us.map V.str) (fun i H' => Ex H1 H' ∧ H' D = some (.lst ((List.replicate i true).map V.bl))) ⟨Ex.new hD, upd_same⟩ (fun i H' _ h => sq_of (h.1 _ _ y1)) ?_ ?_
    · rintro i x' H' hx ⟨e, hd⟩
      rw [List.getElem?_map] at hx
      obtain ⟨u, hu', rfl⟩ := Option.map_eq_some_iff.mp hx
      have il : i < us.length := (List.getElem?_eq_some_iff.mp hu').1
      refine ⟨rfl, ?_⟩
      dsimp only [tYes]
      rw [if_pos rfl]
      refine call_of (c_of (v_of rfl (n_of ⟨_, rfl, au u (List.mem_of_getElem? hu'), ?_⟩)))
      refine ⟨_, hd, sz_lt (by rw [List.length_map, List.length_replicate]; omega), Ex.mut e hD, ?_⟩
      rw [upd_same, List.replicate_succ', List.map_append]
      rfl
    rintro H2 ⟨e2, hd⟩
    refine n_of ⟨D, _, rfl, sq_of hd, _, rfl, ?_⟩
    rw [show (List.replicate (us.map V.str).length true).all id = true by simp, if_neg (show ¬ (!true) = true from Bool.false_ne_true)]
    have e02 := x1.trans e2
    dsimp only [tNext]
    refine seq_of (asg_of (slS_of (v_of rfl (k_of ⟨2, rfl, l, _, rfl, sq_of (e02 _ _ hl), fun p2 hp2 => ?_⟩))))
    rw [hn]
    have x3 : Ex H2 (upd H2 p2 (.lst (ns.map V.str))) := Ex.new hp2
    have y3 : (upd H2 p2 (.lst (ns.map V.str))) p2 = some (.lst (ns.map V.str)) := upd_same
    generalize upd H2 p2 (.lst (ns.map V.str)) = H3 at x3 y3 ⊢
    dsimp only
    refine seq_of (ifS_of (test_of (cb_of (c_of (lc_of (iL_of (v_of rfl ⟨p2, rfl, ⟨_, sq_of y3⟩, fun D2 hD2 => lc_list (xs := ns.map V.str) (fun i H' => Ex H3 H' ∧ H' D2 = some (.lst ((List.replicate i false).map V.bl))) ⟨Ex.new hD2, upd_same⟩ (fun i H' _ h => sq_of (h.1 _ _ y3)) ?_ ?_⟩)))))))
    · rintro i x' H' hx ⟨e, hd2⟩
      rw [List.getElem?_map] at hx
      obtain ⟨u, hu', rfl⟩ := Option.map_eq_some_iff.mp hx
      have il : i < ns.length := (List.getElem?_eq_some_iff.mp hu').1
      refine ⟨rfl, ?_⟩
      dsimp only [tYes]
      rw [if_pos rfl]
      refine op_of (bm_of (v_of rfl ⟨.inl ⟨rfl, _, sq_of (e _ _ y3)⟩, c_of (v_of rfl (n_of ⟨p2, ns, u, rfl, rfl, sq_of (e _ _ y3), k_of ⟨_, _, rfl, rfl, ?_⟩⟩))⟩))
      rw [an u (List.mem_of_getElem? hu')]
      refine ⟨_, hd2, sz_lt (by rw [List.length_map, List.length_replicate]; omega), Ex.mut e hD2, ?_⟩
      rw [upd_same, List.replicate_succ', List.map_append]
      rfl
    rintro H4 ⟨e4, hd2⟩
    refine n_of ⟨D2, _, rfl, sq_of hd2, _, rfl, ?_⟩
    rw [show (List.replicate (ns.map V.str).length false).any id = false by simp, if_neg Bool.false_ne_true]
    dsimp only [tNext]
    have e04 := (e02.trans x3).trans e4
    refine ret_of (tup_of (c_of (k_of (c_of (ixk_of rfl (e04 _ _ hl) (k := 1) h1 (c_of (cb_of (c_of (v_of rfl (n_of ⟨p2, _, rfl, .inl ⟨sq_of (e4 _ _ y3), fun p5 hp5 => n_of ⟨by show 3 ≤ sizeLine; decide, fun p6 hp6 => ?_⟩⟩⟩))))))))))
    exact q _ _ ⟨e04.trans ((Ex.new hp5).trans (Ex.new hp6)), p6, _, rfl, upd_same⟩
theorem do_facts {ws : List Str} (h : gDo ws) : ∃ (as : List Str) (m : Int) (c : Str), 2 ≤ m ∧ ((ws.map V.str).length : Int) = m ∧ cutV (ws.map V.str) (some 2) none = as.map V.str ∧ (∀ u ∈ as, Wo u) ∧ as.length ≤ 1 ∧ c ∈ calls3 ∧ (ws.map V.str)[1]? = some (.str c) := by
  obtain ⟨c, hc, rfl | ⟨a, ha, rfl⟩⟩ := h
  · exact ⟨[], 2, c, by decide, rfl, rfl, fun n hn => absurd hn List.not_mem_nil, by show 0 ≤ 1; decide, hc, rfl⟩
  · exact ⟨[a], 3, c, by decide, rfl, rfl, fun n hn => by rw [List.mem_singleton.mp hn]; exact ha, by show 1 ≤ 1; decide, hc, rfl⟩
theorem ok_do {f fL fV : Addr} {fd fdL fdV : FuncData} (F : Fun K "do_form" "do_form" sDo f fd) (FL : Fun K "is_local" "is_local" sIsLocal fL fdL) (FV : Fun K "value_of" "value_of" sValue fV fdV) (bL : Binds K fdL ["word"] []) (bV : Binds K fdV ["word"] []) (gL : mg "is_local" = some (.ref fL)) (gV : mg "value_of" = some (.ref fV)) (mL : mg "len" = none) (mY : mg "any" = none) (mT : mg "tuple" = none)
    (GL' : FnOk P w K mg base CX0 2 fL fdL ["word"] spIsLocal) (GV : FnOk P w K mg base CX0 3 fV fdV ["word"] spValue) : FnOk P w K mg base CX0 4 f fd ["words"] (spF gDo) := by
  have GL : FnOk P w K mg base CX0 3 fL fdL ["word"] spIsLocal := GL'.mono (by decide)
  refine F.ok scDo (fun vs H Q E h => ?_) (fun cdv A outer s H vs Q E hr h => ?_)
  · obtain ⟨l, ws, rfl, _⟩ := h
    rfl
  · obtain ⟨l, ws, rfl, hl, g, q⟩ := h
    refine ⟨_, pss_cons (ps_if (pw_or (pt_cmpR op_lt (pe_callB call_len_seq (by rfl) mL PySem.boot_len (pa_cons (pv 0) pa_nil)) pe_int (nomark _)) (pw_or1 (pt_not (pt_val (pe_call GL hr (by rfl) gL FL.kp bL .nil pass0 (pa_cons (pe_ix ix_list (pv 0) pe_int (fun _ _ => rfl)) pa_nil)))))).pt (pss_one (ps_ret pe_non)) pss_nil) <|
      pss_cons (ps_set (i := 1) scDo.nd rfl (.inl rfl) (pe_callTy call_tuple_of (by rfl) mT (by decide +kernel) (pa_cons (pe_lc (own := [("word", 2)]) (g := gName 2) (tt := tYes) (te := tCall spValue [] E0 (tCons (tVar 2) tNil)) rfl scDo.nd (pi_list (pe_slice sl_list (pv 0) (po_some pe_int) po_none)) (blkOk_by (N := nDo) (sc := defScope sDo) (by decide +kernel))
          (fun _ _ _ _ _ => pg_name (i := 2) scDo.nd rfl (.inl rfl)) (fun _ _ _ _ _ => pts_nil) (fun _ _ _ _ _ => pe_call GV hr (by rfl) gV FV.kp bV .nil pass0 (pa_cons (pv 2) pa_nil))) pa_nil))) <|
      pss_cons (ps_if (pt_val (pe_callB (cr_any rfl) (by rfl) mY (by decide +kernel) (pa_cons (pe_lc (own := [("value", 3)]) (g := gName 3) (tt := tYes) (te := tOp rIsF (tVar 3) (tC (.bl false))) rfl scDo.nd (pi_tup (pv 1)) (blkOk_by (N := nDo) (sc := defScope sDo) (by decide +kernel))
          (fun _ _ _ _ _ => pg_name (i := 3) scDo.nd rfl (.inl rfl)) (fun _ _ _ _ _ => pts_nil) (fun _ _ _ _ _ => pe_cmpR op_isF (pv 3) pe_bl (nomark _))) pa_nil))) (pss_one (ps_ret pe_non)) pss_nil) <|
      pss_one (ps_ret (pe_tup (pa_cons pe_str <| pa_cons (pe_ix ix_list (pv 0) pe_int (fun _ _ => rfl)) <| pa_cons (pv 1) pa_nil))), ?_⟩
    obtain ⟨as, m, c, m0, hm, hc, aw, al, cc, h1⟩ := do_facts g
    refine seq_of (ifS_of (or_of (test_of (op_of (len_of m rfl hl hm (k_of ⟨_, _, rfl, rfl, _, rfl, ?_⟩))))))
    rw [decide_eq_false (show ¬ m < 2 by omega), if_neg Bool.false_ne_true]
    refine not_of (test_of (call_of (c_of (ixk_of rfl hl (k := 1) h1 (n_of ⟨_, rfl, calls_low c cc, true, rfl, ?_⟩)))))
    rw [if_neg (show ¬ (!true) = true from Bool.false_ne_true)]
    dsimp only [tNext]
    refine seq_of (asg_of (cb_of (c_of (lc_of (iL_of (slS_of (v_of rfl (k_of ⟨2, rfl, l, _, rfl, sq_of hl, fun p hp => ⟨p, rfl, ⟨_, sq_of upd_same⟩, fun D hD => ?_⟩⟩))))))))
    rw [hc] at hD ⊢
    have x1 : Ex H (upd H p (.lst (as.map V.str))) := Ex.new hp
    have y1 : (upd H p (.lst (as.map V.str))) p = some (.lst (as.map V.str)) := upd_same
    generalize upd H p (.lst (as.map V.str)) = H1 at x1 y1 hD ⊢
    refine lc_list (xs := as.map V.str) (fun i H' => Ex H1 H' ∧ ∃ us, H' D = some (.lst us) ∧ us.length = i ∧ ∀ v ∈ us, isPlainV v = true ∧ decide (v = V.bl false) = false) ⟨Ex.new hD, [], upd_same, rfl, fun v hv => absurd hv List.not_mem_nil⟩ (fun i H' _ h => sq_of (h.1 _ _ y1)) ?_ ?_
    · rintro i x' H' hx ⟨e, us, hd, ul, hu⟩
      rw [List.getElem?_map] at hx
      obtain ⟨u, hu', rfl⟩ := Option.map_eq_some_iff.mp hx
      have il : i < as.length := (List.getElem?_eq_some_iff.mp hu').1
      refine ⟨rfl, ?_⟩
      dsimp only [tYes]
      rw [if_pos rfl]
      refine call_of (c_of (v_of rfl (n_of ⟨_, rfl, .inl ⟨aw u (List.mem_of_getElem? hu'), fun v hv => ?_⟩⟩)))
      refine ⟨_, hd, sz_lt (by omega), Ex.mut e hD, us ++ [v], upd_same, by rw [List.length_append, ul]; rfl, fun v' hv' => ?_⟩
      rcases List.mem_append.mp hv' with z | z
      · exact hu v' z
      · rw [List.mem_singleton.mp z]
        exact val_plain hv
    rintro H2 ⟨e2, us, hd, ul, hu⟩
    rw [List.length_map] at ul
    refine n_of ⟨D, us, rfl, .inl ⟨sq_of hd, fun t ht => ?_⟩⟩
    have x3 : Ex H2 (upd H2 t (.tup us)) := Ex.new ht
    have y3 : (upd H2 t (.tup us)) t = some (.tup us) := upd_same
    generalize upd H2 t (.tup us) = H3 at x3 y3 ⊢
    dsimp only
    refine seq_of (ifS_of (test_of (cb_of (c_of (lc_of (iT_of (v_of rfl ⟨t, rfl, ⟨_, st_of y3⟩, fun D2 hD2 => lc_tup (xs := us) (fun i H' => Ex H3 H' ∧ H' D2 = some (.lst ((List.replicate i false).map V.bl))) ⟨Ex.new hD2, upd_same⟩ (fun i H' _ h => st_of (h.1 _ _ y3)) ?_ ?_⟩)))))))
    · rintro i x' H' hx ⟨e, hd2⟩
      obtain ⟨p1, p2⟩ := hu x' (List.mem_of_getElem? hx)
      have il : i < us.length := (List.getElem?_eq_some_iff.mp hx).1
      refine ⟨rfl, ?_⟩
      dsimp only [tYes]
      rw [if_pos rfl]
      refine op_of (v_of rfl (k_of ⟨false, p1, rfl, ?_⟩))
      rw [p2]
      refine ⟨_, hd2, sz_lt (by rw [List.length_map, List.length_replicate]; omega), Ex.mut e hD2, ?_⟩
      rw [upd_same, List.replicate_succ', List.map_append]
      rfl
    rintro H4 ⟨e4, hd2⟩
    refine n_of ⟨D2, _, rfl, sq_of hd2, _, rfl, ?_⟩
    rw [show (List.replicate us.length false).any id = false by simp, if_neg Bool.false_ne_true]
    dsimp only [tNext]
    have e04 := ((x1.trans e2).trans x3).trans e4
    refine ret_of (tup_of (c_of (k_of (c_of (ixk_of rfl (e04 _ _ hl) (k := 1) h1 (c_of (v_of rfl (n_of ⟨by show 3 ≤ sizeLine; decide, fun p6 hp6 => ?_⟩))))))))
    exact q _ _ ⟨e04.trans (Ex.new hp6), p6, _, rfl, upd_same⟩
theorem ixn_of {K : PySem.W.Frag} {σ : L2.St} {H : Hp} {Q : VK} {i : Nat} {k : Int} {l : Addr} {xs : List V} {v : V} (e : σ[i]? = some (some (.ref l))) (h : H l = some (.lst xs)) (a : atI xs (-k) = some v) (q : Q v H) : tOp (rIxL K) (tVar i) (tUn (rU fun i => .int (-i)) (tC (.int k))) σ H Q :=
  ⟨_, e, k, rfl, l, xs, -k, v, rfl, rfl, sq_of h, a, q⟩
theorem ok_store {f fN fV fS : Addr} {fd fdN fdV fdS : FuncData} (F : Fun K "store_form" "store_form" sStore f fd) (FN : Fun K "is_name" "is_name" sIsName fN fdN) (FV : Fun K "value_of" "value_of" sValue fV fdV) (FS : Fun K "slot_of" "slot_of" sSlot fS fdS) (bN : Binds K fdN ["word"] []) (bV : Binds K fdV ["word"] []) (bS : Binds K fdS ["word"] []) (gN : mg "is_name" = some (.ref fN)) (gV : mg "value_of" = some (.ref fV)) (gS : mg "slot_of" = some (.ref fS)) (mL : mg "len" = none)
    (GN' : FnOk P w K mg base CX0 1 fN fdN ["word"] spIsName) (GV : FnOk P w K mg base CX0 3 fV fdV ["word"] spValue) (GS' : FnOk P w K mg base CX0 2 fS fdS ["word"] spSlot) : FnOk P w K mg base CX0 4 f fd ["words"] (spF gStore) := by
  have GN : FnOk P w K mg base CX0 3 fN fdN ["word"] spIsName := GN'.mono (by decide)
  have GS : FnOk P w K mg base CX0 3 fS fdS ["word"] spSlot := GS'.mono (by decide)
  refine F.ok scStore (fun vs H Q E h => ?_) (fun cdv A outer s H vs Q E hr h => ?_)
  · obtain ⟨l, ws, rfl, _⟩ := h
    rfl
  · obtain ⟨l, ws, rfl, hl, g, q⟩ := h
    refine ⟨_, pss_cons (ps_if (pw_or (pt_cmpR op_notIn_seq (pe_callB call_len_seq (by rfl) mL PySem.boot_len (pa_cons (pv 0) pa_nil)) (pe_tup (pa_cons pe_int <| pa_cons pe_int pa_nil)) (by rfl)) (pw_or1 (pt_cmpR op_ne (pe_ix ix_list (pv 0) (pe_un un_neg pe_int) (fun _ _ => rfl)) pe_str (nomark _)))).pt (pss_one (ps_ret pe_non)) pss_nil) <|
      pss_cons (ps_set (i := 1) scStore.nd rfl (.inl rfl) (pe_call GV hr (by rfl) gV FV.kp bV .nil pass0 (pa_cons (pe_ix ix_list (pv 0) (pe_un un_neg pe_int) (fun _ _ => rfl)) pa_nil))) <|
      pss_cons (ps_if (pt_cmpR op_isF (pv 1) pe_bl (nomark _)) (pss_one (ps_ret pe_non)) pss_nil) <|
      pss_cons (ps_if (pt_cmpR op_eq (pe_callB call_len_seq (by rfl) mL PySem.boot_len (pa_cons (pv 0) pa_nil)) pe_int (nomark _)) (pss_cons (ps_set (i := 2) scStore.nd rfl (.inl rfl) (pe_call GS hr (by rfl) gS FS.kp bS .nil pass0 (pa_cons (pe_ix ix_list (pv 0) pe_int (fun _ _ => rfl)) pa_nil))) <|
        pss_one (ps_ret (pe_ifExp (pt_cmpR op_isN (pv 2) pe_non (nomark _)) pe_non (pe_tup (pa_cons pe_str <| pa_cons (pe_ix ix_tup (pv 2) pe_int (fun _ _ => rfl)) <| pa_cons (pe_ix ix_tup (pv 2) pe_int (fun _ _ => rfl)) <| pa_cons (pv 1) pa_nil))))) pss_nil) <|
      pss_cons (ps_if (pw_or (pt_cmpR op_ne (pe_ix ix_list (pv 0) pe_int (fun _ _ => rfl)) pe_str (nomark _)) (pw_or (pt_not (pt_val (pe_call GN hr (by rfl) gN FN.kp bN .nil pass0 (pa_cons (pe_ix ix_list (pv 0) pe_int (fun _ _ => rfl)) pa_nil)))) (pw_or1 (pt_not (pt_val (pe_call GN hr (by rfl) gN FN.kp bN .nil pass0 (pa_cons (pe_ix ix_list (pv 0) pe_int (fun _ _ => rfl)) pa_nil))))))).pt (pss_one (ps_ret pe_non)) pss_nil) <|
      pss_one (ps_ret (pe_tup (pa_cons pe_str <| pa_cons (pe_ix ix_list (pv 0) pe_int (fun _ _ => rfl)) <| pa_cons (pe_ix ix_list (pv 0) pe_int (fun _ _ => rfl)) <| pa_cons (pv 1) pa_nil))), ?_⟩
    rcases g with ⟨pl, a, rfl, hp, ha⟩ | ⟨o, t, a, rfl, ho, ht, ha⟩
    · refine seq_of (ifS_of (or_of (test_of (op_of (len_of 3 rfl hl rfl (tup_of (c_of (k_of (c_of (k_of (n_of ⟨two_le, fun b hb => ?_⟩)))))))))))
      have e1 : Ex H (upd H b (.tup [.int 3, .int 5])) := Ex.new hb
      refine ⟨b, [.int 3, .int 5], rfl, .inr (st_of upd_same), rfl, rfl, _, rfl, ?_⟩
      rw [show (if true = true then !inV (V.int 3) [V.int 3, V.int 5] else inV (V.int 3) [V.int 3, V.int 5]) = false from by decide +kernel, if_neg Bool.false_ne_true]
      generalize upd H b (.tup [.int 3, .int 5]) = H1 at e1 ⊢
      have hl1 := e1 _ _ hl
      refine test_of (op_of (ixn_of rfl hl1 (k := 2) rfl (k_of ⟨rfl, _, rfl, ?_⟩)))
      rw [decide_eq_true rfl, if_neg (show ¬ (!true) = true from Bool.false_ne_true)]
      dsimp only [tNext]
      refine seq_of (asg_of (call_of (c_of (ixn_of rfl hl1 (k := 1) rfl (n_of ⟨_, rfl, .inl ⟨ha, fun v hv => ?_⟩⟩)))))
      obtain ⟨p1, p2⟩ := val_plain hv
      dsimp only
      refine seq_of (ifS_of (test_of (op_of (v_of rfl (k_of ⟨false, p1, rfl, _, rfl, ?_⟩)))))
      rw [p2, if_neg Bool.false_ne_true]
      dsimp only [tNext]
      refine seq_of (ifS_of (test_of (op_of (len_of 3 rfl hl1 rfl (k_of ⟨rfl, _, rfl, ?_⟩)))))
      rw [decide_eq_true rfl, if_pos rfl]
      refine seq_of (asg_of (call_of (c_of (ixk_of rfl hl1 (k := 0) rfl (n_of ⟨_, rfl, hp, fun H2 t2 o2 m2 e2 ht2 => ?_⟩)))))
      dsimp only
      refine ret_of (if_of (test_of (op_of (v_of rfl (k_of ⟨rfl, _, rfl, ?_⟩)))))
      rw [show decide (V.ref t2 = V.non) = false from by simp, if_neg Bool.false_ne_true]
      refine tup_of (c_of (k_of (c_of (op_of (v_of rfl (k_of ⟨t2, _, 0, _, rfl, rfl, st_of ht2, atI_nat (j := 0) rfl, c_of (op_of (v_of rfl (k_of ⟨t2, _, 1, _, rfl, rfl, st_of ht2, atI_nat (j := 1) rfl, c_of (v_of rfl (n_of ⟨by show 4 ≤ sizeLine; decide, fun p6 hp6 => ?_⟩))⟩)))⟩))))))
      exact q _ _ ⟨(e1.trans e2).trans (Ex.new hp6), p6, _, rfl, upd_same⟩
    · refine seq_of (ifS_of (or_of (test_of (op_of (len_of 5 rfl hl rfl (tup_of (c_of (k_of (c_of (k_of (n_of ⟨two_le, fun b hb => ?_⟩)))))))))))
      have e1 : Ex H (upd H b (.tup [.int 3, .int 5])) := Ex.new hb
      refine ⟨b, [.int 3, .int 5], rfl, .inr (st_of upd_same), rfl, rfl, _, rfl, ?_⟩
      rw [show (if true = true then !inV (V.int 5) [V.int 3, V.int 5] else inV (V.int 5) [V.int 3, V.int 5]) = false from by decide +kernel, if_neg Bool.false_ne_true]
      generalize upd H b (.tup [.int 3, .int 5]) = H1 at e1 ⊢
      have hl1 := e1 _ _ hl
      refine test_of (op_of (ixn_of rfl hl1 (k := 2) rfl (k_of ⟨rfl, _, rfl, ?_⟩)))
      rw [decide_eq_true rfl, if_neg (show ¬ (!true) = true from Bool.false_ne_true)]
      dsimp only [tNext]
      refine seq_of (asg_of (call_of (c_of (ixn_of rfl hl1 (k := 1) rfl (n_of ⟨_, rfl, .inl ⟨ha, fun v hv => ?_⟩⟩)))))
      obtain ⟨p1, p2⟩ := val_plain hv
      dsimp only
      refine seq_of (ifS_of (test_of (op_of (v_of rfl (k_of ⟨false, p1, rfl, _, rfl, ?_⟩)))))
      rw [p2, if_neg Bool.false_ne_true]
      dsimp only [tNext]
      refine seq_of (ifS_of (test_of (op_of (len_of 5 rfl hl1 rfl (k_of ⟨rfl, _, rfl, ?_⟩)))))
      rw [show decide (V.int 5 = V.int 3) = false from by decide +kernel, if_neg Bool.false_ne_true]
      dsimp only [tNext]
      refine seq_of (ifS_of (or_of (test_of (op_of (ixk_of rfl hl1 (k := 1) rfl (k_of ⟨rfl, _, rfl, ?_⟩))))))
      rw [decide_eq_true rfl, if_neg (show ¬ (!true) = true from Bool.false_ne_true)]
      refine or_of (not_of (test_of (call_of (c_of (ixk_of rfl hl1 (k := 0) rfl (n_of ⟨_, rfl, ho, true, rfl, ?_⟩))))))
      rw [if_neg (show ¬ (!true) = true from Bool.false_ne_true)]
      refine not_of (test_of (call_of (c_of (ixk_of rfl hl1 (k := 2) rfl (n_of ⟨_, rfl, ht, true, rfl, ?_⟩)))))
      rw [if_neg (show ¬ (!true) = true from Bool.false_ne_true)]
      dsimp only [tNext]
      refine ret_of (tup_of (c_of (k_of (c_of (ixk_of rfl hl1 (k := 0) rfl (c_of (ixk_of rfl hl1 (k := 2) rfl (c_of (v_of rfl (n_of ⟨by show 4 ≤ sizeLine; decide, fun p6 hp6 => ?_⟩))))))))))
      exact q _ _ ⟨e1.trans (Ex.new hp6), p6, _, rfl, upd_same⟩
end
end Pf
namespace Pf
open PySem PySem.Spec PyProof.Rows L2 Evl Gd Sn
def gSay (ws : List Str) : Prop := ∃ rs, ws = ("say" : Str) :: rs ∧ Reads rs
def gLet (ws : List Str) : Prop := ∃ (nm : Str) (rs : List Str), ws = ("let" : Str) :: nm :: ("=" : Str) :: rs ∧ Nm nm ∧ (Reads rs ∨ Makes rs)
theorem reads_alt {rs : List Str} (g : Reads rs) : (∃ a, rs = [a] ∧ (Wo a ∨ Spt a)) ∨ (∃ w, rs = [("get" : Str), w] ∧ Nm w) ∨ ∃ w u, rs = [w, ("at" : Str), u] ∧ Nm w ∧ Nm u := by
  cases g with
  | wo h => exact .inl ⟨_, rfl, .inl h⟩
  | sp h => exact .inl ⟨_, rfl, .inr h⟩
  | get h => exact .inr (.inl ⟨_, rfl, h⟩)
  | «at» h1 h2 => exact .inr (.inr ⟨_, _, rfl, h1, h2⟩)
/-- the made forms -/
structure Tb3 (K : PySem.W.Frag) (w : World) (mg : Str → Option Value) (dM fR fW fM : Addr) : Prop where
  made : mg "MADE_FORMS" = some (.ref dM)
  kd : ∃ es n, KDict K w dM es n
  rc : PySem.W.nsIn K dM "record" = some (some (.ref fR))
  wk : PySem.W.nsIn K dM "weak" = some (some (.ref fW))
  mp : PySem.W.nsIn K dM "map" = some (some (.ref fM))
  no : ∀ z ∈ ("get" : Str) :: names12, PySem.W.nsIn K dM z = some none
theorem callL_of {i : Nat} {f : Addr} {sp : Sp} {dvs : List V} {E : XK} {t : TA} {σ : L2.St} {H : Hp} {Q : VK} (e : σ[i]? = some (some (.ref f))) (h : t σ H fun vs H1 => sp (vs ++ dvs) H1 Q E) : tCallL i f sp dvs E t σ H Q := ⟨e, h⟩
section
variable {P : Program} {w : World} {K : PySem.W.Frag} {mg : Str → Option Value} {base : Heap} {dT dS dH dZ dM : Addr}
theorem ok_say {f fA fW : Addr} {fd fdA fdW : FuncData} (F : Fun K "say_form" "say_form" sSay f fd) (FA : Fun K "asked_form" "asked_form" sAsked fA fdA) (FW : Fun K "word_form" "word_form" sWord fW fdW) (bA : Binds K fdA ["verb", "name", "words"] []) (bW : Binds K fdW ["verb", "name", "word"] []) (gA : mg "asked_form" = some (.ref fA)) (gW : mg "word_form" = some (.ref fW)) (mL : mg "len" = none) (mI : mg "isinstance" = none) (mS : mg "str" = none)
    (GA : FnOk P w K mg base CX0 4 fA fdA ["verb", "name", "words"] spAsked) (GW : FnOk P w K mg base CX0 4 fW fdW ["verb", "name", "word"] spWord) : FnOk P w K mg base CX0 5 f fd ["words"] (spF gSay) := by
  refine F.ok scSay (fun vs H Q E h => ?_) (fun cdv A outer s H vs Q E hr h => ?_)
  · obtain ⟨l, ws, rfl, _⟩ := h
    rfl
  · obtain ⟨l, ws, rfl, hl, ⟨rs, rfl, g⟩, q⟩ := h
    refine ⟨_, pss_cons (ps_if (pt_cmpR op_ne (pe_callB call_len_seq (by rfl) mL PySem.boot_len (pa_cons (pv 0) pa_nil)) pe_int (nomark _)) (pss_one (ps_ret (pe_call GA hr (by rfl) gA FA.kp bA .nil pass0 (pa_cons pe_str <| pa_cons pe_non <| pa_cons (pe_slice sl_list (pv 0) (po_some pe_int) po_none) pa_nil)))) pss_nil) <|
      pss_cons (ps_set (i := 1) scSay.nd rfl (.inl rfl) (pe_call GW hr (by rfl) gW FW.kp bW .nil pass0 (pa_cons pe_str <| pa_cons pe_non <| pa_cons (pe_ix ix_list (pv 0) pe_int (fun _ _ => rfl)) pa_nil))) <|
      pss_cons (ps_if (pw_or (pt_cmpR op_isN (pv 1) pe_non (nomark _)) (pw_or1 (pt_val (pe_callB call_isi (by rfl) mI (by decide +kernel) (pa_cons (pe_ix ix_tup (pv 1) pe_int (fun _ _ => rfl)) (pa_cons (pe_bltn (v := .ty "str") (by rfl) mS (by decide +kernel) rfl) pa_nil)))))).pt (pss_one (ps_ret (pv 1))) pss_nil) <|
      pss_one (ps_ret (pe_tup (pa_cons pe_str <| pa_cons (pe_tup (pa_cons pe_str <| pa_cons (pe_ix ix_list (pv 0) pe_int (fun _ _ => rfl)) pa_nil)) pa_nil))), ?_⟩
    rcases reads_alt g with ⟨a, rfl, ha⟩ | ⟨w1, rfl, n1⟩ | ⟨w1, w2, rfl, n1, n2⟩
    · refine seq_of (ifS_of (test_of (op_of (len_of 2 rfl hl rfl (k_of ⟨rfl, _, rfl, ?_⟩)))))
      rw [decide_eq_true rfl, if_neg (show ¬ (!true) = true from Bool.false_ne_true)]
      dsimp only [tNext]
      refine seq_of (asg_of (call_of (c_of (k_of (c_of (k_of (c_of (ixk_of rfl hl (k := 1) rfl (n_of ⟨_, _, _, rfl, by decide +kernel, ha, fun H1 t z y x xs e1 ht hx => ?_⟩)))))))))
      dsimp only
      refine seq_of (ifS_of (or_of (test_of (op_of (v_of rfl (k_of ⟨rfl, _, rfl, ?_⟩))))))
      rw [show decide (V.ref t = V.non) = false from by simp, if_neg Bool.false_ne_true]
      have isi : ∃ (u : Value) (bb : Bool), TyX K H1 x u ∧ PySem.W.kitOne K u (.type "str") = some bb := by
        rcases hx with rfl | ⟨i, rfl⟩ | ⟨u, rfl⟩
        · exact ⟨_, false, .base .non, kit_ty (by decide +kernel)⟩
        · exact ⟨_, false, .base (.int i), kit_ty (by decide +kernel)⟩
        · exact ⟨_, true, .base (.str u), kit_ty (by decide +kernel)⟩
      obtain ⟨u, bb, ty, ki⟩ := isi
      refine test_of (cb_of (c_of (op_of (v_of rfl (k_of ⟨t, _, 2, _, rfl, rfl, st_of ht, atI_nat (j := 2) rfl, c_of (k_of (n_of ⟨x, .ty "str", _, _, bb, rfl, .ty "str", ty, ki, bb, rfl, ?_⟩))⟩)))))
      cases bb with
      | true =>
        rw [if_pos rfl]
        exact ret_of (v_of rfl (q _ _ ⟨e1, t, _, rfl, ht⟩))
      | false =>
        rw [if_neg Bool.false_ne_true]
        dsimp only [tNext]
        refine ret_of (tup_of (c_of (k_of (c_of (tup_of (c_of (k_of (c_of (ixk_of rfl (e1 _ _ hl) (k := 1) rfl (n_of ⟨two_le, fun p hp => n_of ⟨two_le, fun p2 hp2 => ?_⟩⟩))))))))))
        exact q _ _ ⟨e1.trans ((Ex.new hp).trans (Ex.new hp2)), p2, _, rfl, upd_same⟩
    · refine seq_of (ifS_of (test_of (op_of (len_of 3 rfl hl rfl (k_of ⟨rfl, _, rfl, ?_⟩)))))
      rw [show (!decide (V.int 3 = V.int 2)) = true from by decide +kernel, if_pos rfl]
      refine ret_of (call_of (c_of (k_of (c_of (k_of (c_of (slS_of (v_of rfl (k_of ⟨1, rfl, l, _, rfl, sq_of hl, fun p hp => n_of ⟨_, _, p, [("get" : Str), w1], rfl, by decide +kernel, upd_same, .inl ⟨w1, rfl, n1⟩, fun H' v ⟨e, it⟩ => q _ _ ⟨(Ex.new hp).trans e, it⟩⟩⟩)))))))))
    · refine seq_of (ifS_of (test_of (op_of (len_of 4 rfl hl rfl (k_of ⟨rfl, _, rfl, ?_⟩)))))
      rw [show (!decide (V.int 4 = V.int 2)) = true from by decide +kernel, if_pos rfl]
      refine ret_of (call_of (c_of (k_of (c_of (k_of (c_of (slS_of (v_of rfl (k_of ⟨1, rfl, l, _, rfl, sq_of hl, fun p hp => n_of ⟨_, _, p, [w1, ("at" : Str), w2], rfl, by decide +kernel, upd_same, .inr ⟨w1, w2, rfl, n1, n2⟩, fun H' v ⟨e, it⟩ => q _ _ ⟨(Ex.new hp).trans e, it⟩⟩⟩)))))))))
/-- a form as it is called by a local name -/
structure Fm (P : Program) (w : World) (K : PySem.W.Frag) (mg : Str → Option Value) (base : Heap) (k : Nat) (f : Addr) (G : List Str → Prop) : Prop where
  ex : ∃ fd, FnOk P w K mg base CX0 k f fd ["words"] (spF G) ∧ PySem.W.keepIn K (.ref f) = true ∧ Binds K fd ["words"] []
theorem makes_alt {rs : List Str} {nm : Str} (g : Makes rs) : ∃ z us, rs = z :: us ∧ ((z = "record" ∧ gRec (("let" : Str) :: nm :: ("=" : Str) :: rs)) ∨ (z = "weak" ∧ gWeak (("let" : Str) :: nm :: ("=" : Str) :: rs)) ∨ (z = "map" ∧ gMap (("let" : Str) :: nm :: ("=" : Str) :: rs))) ∧ 2 ≤ rs.length := by
  cases g with
  | recd a b => exact ⟨_, _, rfl, .inl ⟨rfl, _, _, _, .inl ⟨rfl, a, b⟩⟩, by show 2 ≤ 3; decide⟩
  | weak a b => exact ⟨_, _, rfl, .inr (.inl ⟨rfl, _, _, _, rfl, a, b⟩), by show 2 ≤ 3; decide⟩
  | map a => exact ⟨_, _, rfl, .inr (.inr ⟨rfl, _, _, rfl, a⟩), by show 2 ≤ 2; decide⟩
  | close a b c => exact ⟨_, _, rfl, .inl ⟨rfl, _, _, _, .inr ⟨_, rfl, a, b, c⟩⟩, by show 2 ≤ 5; decide⟩
theorem ok_let {f fA fW fN fR fK fM : Addr} {fd fdA fdW fdN : FuncData} (F : Fun K "let_form" "let_form" sLet f fd) (FA : Fun K "asked_form" "asked_form" sAsked fA fdA) (FW : Fun K "word_form" "word_form" sWord fW fdW) (FN : Fun K "is_name" "is_name" sIsName fN fdN) (bA : Binds K fdA ["verb", "name", "words"] []) (bW : Binds K fdW ["verb", "name", "word"] []) (bN : Binds K fdN ["word"] []) (gA : mg "asked_form" = some (.ref fA)) (gW : mg "word_form" = some (.ref fW)) (gN : mg "is_name" = some (.ref fN)) (mL : mg "len" = none) (T : Tb3 K w mg dM fR fK fM)
    (GA : FnOk P w K mg base CX0 4 fA fdA ["verb", "name", "words"] spAsked) (GW : FnOk P w K mg base CX0 4 fW fdW ["verb", "name", "word"] spWord) (GN' : FnOk P w K mg base CX0 1 fN fdN ["word"] spIsName) (MR : Fm P w K mg base 4 fR gRec) (MW : Fm P w K mg base 4 fK gWeak) (MM : Fm P w K mg base 4 fM gMap) : FnOk P w K mg base CX0 5 f fd ["words"] (spF gLet) := by
  have GN : FnOk P w K mg base CX0 4 fN fdN ["word"] spIsName := GN'.mono (by decide)
  obtain ⟨es, n, kd⟩ := T.kd
  refine F.ok scLet (fun vs H Q E h => ?_) (fun cdv A outer s H vs Q E hr h => ?_)
  · obtain ⟨l, ws, rfl, _⟩ := h
    rfl
  · obtain ⟨l, ws, rfl, hl, ⟨nm, rs, rfl, nn, g⟩, q⟩ := h
    have key : ∃ (fX : Addr) (G : List Str → Prop), Fm P w K mg base 4 fX G ∧ (Makes rs → G (("let" : Str) :: nm :: ("=" : Str) :: rs) ∧ ∃ z us, rs = z :: us ∧ 2 ≤ rs.length ∧ PySem.W.nsIn K dM z = some (some (.ref fX))) := by
      by_cases m : Makes rs
      · obtain ⟨z, us, e, h, l2⟩ := makes_alt (nm := nm) m
        rcases h with ⟨rfl, h⟩ | ⟨rfl, h⟩ | ⟨rfl, h⟩
        · exact ⟨fR, gRec, MR, fun _ => ⟨h, _, us, e, l2, T.rc⟩⟩
        · exact ⟨fK, gWeak, MW, fun _ => ⟨h, _, us, e, l2, T.wk⟩⟩
        · exact ⟨fM, gMap, MM, fun _ => ⟨h, _, us, e, l2, T.mp⟩⟩
      · exact ⟨fR, gRec, MR, fun h => absurd h m⟩
    obtain ⟨fX, G, ⟨fdX, GX, kX, bX⟩, hX⟩ := key
    refine ⟨_, pss_cons (ps_if (pw_or (pt_cmpR op_lt (pe_callB call_len_seq (by rfl) mL PySem.boot_len (pa_cons (pv 0) pa_nil)) pe_int (nomark _)) (pw_or (pt_cmpR op_ne (pe_ix ix_list (pv 0) pe_int (fun _ _ => rfl)) pe_str (nomark _)) (pw_or1 (pt_not (pt_val (pe_call GN hr (by rfl) gN FN.kp bN .nil pass0 (pa_cons (pe_ix ix_list (pv 0) pe_int (fun _ _ => rfl)) pa_nil))))))).pt (pss_one (ps_ret pe_non)) pss_nil) <|
      pss_cons (ps_if (pt_cmpR op_eq (pe_callB call_len_seq (by rfl) mL PySem.boot_len (pa_cons (pv 0) pa_nil)) pe_int (nomark _)) (pss_one (ps_ret (pe_call GW hr (by rfl) gW FW.kp bW .nil pass0 (pa_cons pe_str <| pa_cons (pe_ix ix_list (pv 0) pe_int (fun _ _ => rfl)) <| pa_cons (pe_ix ix_list (pv 0) pe_int (fun _ _ => rfl)) pa_nil)))) pss_nil) <|
      pss_cons (ps_if (pt_cmpR (op_notIn_kd kd) (pe_ix ix_list (pv 0) pe_int (fun _ _ => rfl)) (pe_glob (v := .ref dM) (by rfl) T.made rfl) (by rfl)) (pss_one (ps_ret (pe_call GA hr (by rfl) gA FA.kp bA .nil pass0 (pa_cons pe_str <| pa_cons (pe_ix ix_list (pv 0) pe_int (fun _ _ => rfl)) <| pa_cons (pe_slice sl_list (pv 0) (po_some pe_int) po_none) pa_nil)))) pss_nil) <|
      pss_cons (ps_set (i := 1) scLet.nd rfl (.inl rfl) (pe_ix ix_kdict (pe_glob (v := .ref dM) (by rfl) T.made rfl) (pe_ix ix_list (pv 0) pe_int (fun _ _ => rfl)) (fun _ _ => rfl))) <|
      pss_one (ps_ret (pe_callL (i := 1) GX hr rfl (.inl rfl) kX bX .nil pass0 (pa_cons (pv 0) pa_nil))), ?_⟩
    have len : (((("let" : Str) :: nm :: ("=" : Str) :: rs).map V.str).length : Int) = 3 + (rs.length : Int) := by
      simp only [List.map_cons, List.length_cons, List.length_map]
      omega
    have pos : 1 ≤ rs.length := by
      rcases g with g | g
      · cases g <;> (simp only [List.length_cons, List.length_nil]; omega)
      · cases g <;> (simp only [List.length_cons, List.length_nil]; omega)
    refine seq_of (ifS_of (or_of (test_of (op_of (len_of _ rfl hl len (k_of ⟨_, _, rfl, rfl, _, rfl, ?_⟩))))))
    rw [decide_eq_false (by omega), if_neg Bool.false_ne_true]
    refine or_of (test_of (op_of (ixk_of rfl hl (k := 2) rfl (k_of ⟨rfl, _, rfl, ?_⟩))))
    rw [decide_eq_true rfl, if_neg (show ¬ (!true) = true from Bool.false_ne_true)]
    refine not_of (test_of (call_of (c_of (ixk_of rfl hl (k := 1) rfl (n_of ⟨_, rfl, nn, true, rfl, ?_⟩)))))
    rw [if_neg (show ¬ (!true) = true from Bool.false_ne_true)]
    dsimp only [tNext]
    rcases g with g | g
    · rcases reads_alt g with ⟨a, rfl, ha⟩ | ⟨w1, rfl, n1⟩ | ⟨w1, w2, rfl, n1, n2⟩
      · refine seq_of (ifS_of (test_of (op_of (len_of 4 rfl hl rfl (k_of ⟨rfl, _, rfl, ?_⟩)))))
        rw [decide_eq_true rfl, if_pos rfl]
        exact ret_of (call_of (c_of (k_of (c_of (ixk_of rfl hl (k := 1) rfl (c_of (ixk_of rfl hl (k := 3) rfl (n_of ⟨_, _, _, rfl, by decide +kernel, ha, fun H1 t z y x xs e1 ht hx => q _ _ ⟨e1, t, _, rfl, ht⟩⟩))))))))
      · refine seq_of (ifS_of (test_of (op_of (len_of 5 rfl hl rfl (k_of ⟨rfl, _, rfl, ?_⟩)))))
        rw [show decide (V.int 5 = V.int 4) = false from by decide +kernel, if_neg Bool.false_ne_true]
        dsimp only [tNext]
        refine seq_of (ifS_of (test_of (op_of (ixk_of rfl hl (k := 3) rfl (k_of ⟨_, _, rfl, rfl, T.no _ List.mem_cons_self, _, rfl, ?_⟩)))))
        rw [if_pos (show (!(none : Option Value).isSome) = true from rfl)]
        exact ret_of (call_of (c_of (k_of (c_of (ixk_of rfl hl (k := 1) rfl (c_of (slS_of (v_of rfl (k_of ⟨3, rfl, l, _, rfl, sq_of hl, fun p hp => n_of ⟨_, _, p, [("get" : Str), w1], rfl, by decide +kernel, upd_same, .inl ⟨w1, rfl, n1⟩, fun H' v ⟨e, it⟩ => q _ _ ⟨(Ex.new hp).trans e, it⟩⟩⟩)))))))))
      · refine seq_of (ifS_of (test_of (op_of (len_of 6 rfl hl rfl (k_of ⟨rfl, _, rfl, ?_⟩)))))
        rw [show decide (V.int 6 = V.int 4) = false from by decide +kernel, if_neg Bool.false_ne_true]
        dsimp only [tNext]
        refine seq_of (ifS_of (test_of (op_of (ixk_of rfl hl (k := 3) rfl (k_of ⟨_, _, rfl, rfl, T.no _ (List.mem_cons_of_mem _ n1), _, rfl, ?_⟩)))))
        rw [if_pos (show (!(none : Option Value).isSome) = true from rfl)]
        exact ret_of (call_of (c_of (k_of (c_of (ixk_of rfl hl (k := 1) rfl (c_of (slS_of (v_of rfl (k_of ⟨3, rfl, l, _, rfl, sq_of hl, fun p hp => n_of ⟨_, _, p, [w1, ("at" : Str), w2], rfl, by decide +kernel, upd_same, .inr ⟨w1, w2, rfl, n1, n2⟩, fun H' v ⟨e, it⟩ => q _ _ ⟨(Ex.new hp).trans e, it⟩⟩⟩)))))))))
    · obtain ⟨gx, z, us, rfl, l2, hz⟩ := hX g
      have l2 : 2 ≤ us.length + 1 := l2
      refine seq_of (ifS_of (test_of (op_of (len_of _ rfl hl len (k_of ⟨rfl, _, rfl, ?_⟩)))))
      rw [decide_eq_false (fun e => by have := V.int.inj e; rw [List.length_cons] at this; omega), if_neg Bool.false_ne_true]
      dsimp only [tNext]
      refine seq_of (ifS_of (test_of (op_of (ixk_of rfl hl (k := 3) rfl (k_of ⟨_, _, rfl, rfl, hz, _, rfl, ?_⟩)))))
      rw [if_neg (show ¬ (!(some (Value.ref fX)).isSome) = true from Bool.false_ne_true)]
      dsimp only [tNext]
      refine seq_of (asg_of (op_of (k_of (ixk_of rfl hl (k := 3) rfl ⟨_, _, .ref fX, rfl, rfl, ⟨es, n, _, kd.at_, kd.lit, hz, rfl⟩, ?_⟩))))
      dsimp only
      exact ret_of (callL_of rfl (c_of (v_of rfl (n_of ⟨l, _, rfl, hl, gx, fun H' v it => q H' v it⟩))))
end
end Pf
namespace Pf
open PySem PySem.Spec PyProof.Rows L2 Evl Gd Sn
/-- d.get(k, x), d a dict with text keys that the module's top wrote -/
def tKGet2 (K : PySem.W.Frag) (d : Addr) (td ty tx : TE) : TE := fun σ H Q => td σ H fun x H1 => x = .ref d ∧ ty σ H1 fun y H2 => ∃ (z : Str) (r : Option Value), y = .str z ∧ PySem.W.nsIn K d z = some r ∧ tx σ H2 fun dv H3 => (r = none → Q dv H3) ∧ ∀ u, r = some u → ∃ v, RelV v u ∧ Q v H3
theorem pe_kget2 {X : Cx} {o e f : Expr} {apos cpos : Pos} {td ty tx : TE} {d : Addr} {es : Array DictEntry} {n : Nat} (D : KDict X.K X.w d es n) (ho : PE X o td) (he : PE X e ty) (hf : PE X f tx) (m : M2 X o "get" apos e f cpos) : PE X (.Call (.Attribute o "get" apos) [e, f] [] cpos) (tKGet2 X.K d td ty tx) := by
  refine ⟨fun pins s σ H Q I h => wpAny_Call_method m.base m.few m.line PySem.F.plainAttrs_dict PySem.F.slot_dict_get PySem.F.type_dict_get (thn (ho.run pins s σ H _ I h) ?_)⟩
  rintro u s1 ⟨x, H1, I1, rx, rfl, q1⟩
  obtain rfl : u = Value.ref d := rx
  have at_ := I1.kIn _ _ D.at_
  refine ⟨⟨_, at_, rfl⟩, fun a e => ?_, ?_⟩
  · cases e
    exact ⟨_, at_, rfl⟩
  rw [m.trees]
  refine Calls.callWith_builtin rfl (Calls.evalArgs_plain (Calls.spliced_cons (thn (he.run pins s1 σ H1 _ I1 q1) ?_)))
  rintro iv s2 ⟨y, H2, I2, ry, z, r, rfl, hz, q2⟩
  refine Calls.spliced_cons (thn (hf.run pins s2 σ H2 _ I2 q2) ?_)
  rintro fv s3 ⟨dv, H3, I3, rz, qn, qs⟩
  obtain ⟨t, rfl⟩ := ry
  have mp := PySem.W.mapOf_K (prog := X.prog) (w := X.w) I3.kIn D.at_ D.lit
  refine Calls.spliced_nil (call_meetsIn PySem.F.slot_dict_get (Heap.MapOf.typeIs mp) PySem.F.entry_dict_get (PySem.F.args_dict_get_3 _ _ _) (meets_dict_get_default (strKind X.prog X.w) d (strKind_is X.prog X.w z t) D.low fv) ⟨_, mp, ?_⟩)
  rw [PySem.W.find_K D.at_ hz]
  cases r with
  | none => exact ⟨dv, H3, I3.tok _, rz, qn rfl⟩
  | some u =>
    obtain ⟨v, rv, qv⟩ := qs u rfl
    exact ⟨v, H3, I3.tok _, rv, qv⟩
theorem kget2_of {K : PySem.W.Frag} {d : Addr} {td ty tx : TE} {σ : L2.St} {H : Hp} {Q : VK} (h : td σ H fun x H1 => x = .ref d ∧ ty σ H1 fun y H2 => ∃ (z : Str) (r : Option Value), y = .str z ∧ PySem.W.nsIn K d z = some r ∧ tx σ H2 fun dv H3 => (r = none → Q dv H3) ∧ ∀ u, r = some u → ∃ v, RelV v u ∧ Q v H3) : tKGet2 K d td ty tx σ H Q := h
abbrev sStat : Stmt := topS 35
abbrev nStat : List Str := ["words", "form"]
theorem scStat : FnScope nStat ["words"] (defScope sStat) := ⟨rfl, rfl, rfl, by decide +kernel, rfl, by decide +kernel, by decide +kernel⟩
/-- the table of forms -/
structure Tb4 (P : Program) (w : World) (K : PySem.W.Frag) (mg : Str → Option Value) (base : Heap) (dF fO : Addr) : Prop where
  forms : mg "FORMS" = some (.ref dF)
  kd : ∃ es n, KDict K w dF es n
  store : mg "store_form" = some (.ref fO)
  ms : Fm P w K mg base 5 fO gStore
  at_ : ∀ z G, (z, G) ∈ ([("let", gLet), ("say", gSay), ("drop", gNm), ("hold", gNm), ("release", gNm), ("pin", gNm), ("unpin", gNm), ("if", gIf), ("else", gBare), ("end", gBare), ("repeat", gNum), ("proc", gProc), ("do", gDo), ("minor", gBare), ("rings", gNum), ("begin", gBare), ("slice", gNum), ("compact", gNum), ("finalize", gBare), ("settle", gBare)] : List (Str × (List Str → Prop))) → ∃ f, PySem.W.nsIn K dF z = some (some (.ref f)) ∧ Fm P w K mg base 5 f G
  no : (∀ z ∈ names12, PySem.W.nsIn K dF z = some none) ∧ ∀ o ∈ names12, ∀ m : Fin 6, PySem.W.nsIn K dF (o ++ ("." : Str) ++ Str.ofString (toString ((m.val : Nat) : Int))) = some none
theorem wo_nm {w : Str} (h : Nm w) : Wo w := .inl h
/-- which form a row has -/
theorem good_form {P : Program} {w : World} {K : PySem.W.Frag} {mg : Str → Option Value} {base : Heap} {dF fO : Addr} (T : Tb4 P w K mg base dF fO) {ws : List Str} (h : Good ws) : ∃ (z : Str) (us : List Str) (f : Addr) (G : List Str → Prop), ws = z :: us ∧ Fm P w K mg base 5 f G ∧ G ws ∧ ((PySem.W.nsIn K dF z = some none ∧ f = fO) ∨ PySem.W.nsIn K dF z = some (some (.ref f))) := by
  have use : ∀ (z : Str) (us : List Str) (G : List Str → Prop), (z, G) ∈ ([("let", gLet), ("say", gSay), ("drop", gNm), ("hold", gNm), ("release", gNm), ("pin", gNm), ("unpin", gNm), ("if", gIf), ("else", gBare), ("end", gBare), ("repeat", gNum), ("proc", gProc), ("do", gDo), ("minor", gBare), ("rings", gNum), ("begin", gBare), ("slice", gNum), ("compact", gNum), ("finalize", gBare), ("settle", gBare)] : List (Str × (List Str → Prop))) → G (z :: us) → ∃ (z' : Str) (us' : List Str) (f : Addr) (G : List Str → Prop), z :: us = z' :: us' ∧ Fm P w K mg base 5 f G ∧ G (z :: us) ∧ ((PySem.W.nsIn K dF z' = some none ∧ f = fO) ∨ PySem.W.nsIn K dF z' = some (some (.ref f))) := fun z us G m g => by
    obtain ⟨f, h1, h2⟩ := T.at_ z G m
    exact ⟨z, us, f, G, rfl, h2, g, .inr h1⟩
  cases h with
  | letR a b => exact use _ _ gLet (by simp) ⟨_, _, rfl, a, .inl b⟩
  | letM a b => exact use _ _ gLet (by simp) ⟨_, _, rfl, a, .inr b⟩
  | say b => exact use _ _ gSay (by simp) ⟨_, rfl, b⟩
  | @name v o a b =>
    simp only [List.mem_cons, List.not_mem_nil, or_false] at a
    rcases a with rfl | rfl | rfl | rfl | rfl <;> exact use _ _ gNm (by simp) ⟨_, _, rfl, b⟩
  | @store p a hp ha =>
    refine ⟨p, _, fO, gStore, rfl, T.ms, .inl ⟨_, _, rfl, hp, ha⟩, .inl ⟨?_, rfl⟩⟩
    obtain ⟨o, ho, m, rfl⟩ := hp
    exact T.no.2 o ho m
  | @enter o t a ho ht ha => exact ⟨o, _, fO, gStore, rfl, T.ms, .inr ⟨_, _, _, rfl, ho, ht, ha⟩, .inl ⟨T.no.1 o ho, rfl⟩⟩
  | if_ a b => exact use _ _ gIf (by simp) ⟨_, _, _, rfl, a, wo_nm b⟩
  | bare a =>
    simp only [List.mem_cons, List.not_mem_nil, or_false] at a
    rcases a with rfl | rfl | rfl | rfl | rfl | rfl <;> exact use _ _ gBare (by simp) ⟨_, rfl⟩
  | num a b =>
    simp only [List.mem_cons, List.not_mem_nil, or_false] at a
    rcases a with rfl | rfl | rfl | rfl <;> exact use _ _ gNum (by simp) ⟨_, _, rfl, b⟩
  | proc a => exact use _ _ gProc (by simp) ⟨_, a, .inl rfl⟩
  | procs a => exact use _ _ gProc (by simp) ⟨_, a, .inr rfl⟩
  | do_ a => exact use _ _ gDo (by simp) ⟨_, a, .inl rfl⟩
  | dos a b => exact use _ _ gDo (by simp) ⟨_, a, .inr ⟨_, b, rfl⟩⟩
section
variable {P : Program} {w : World} {K : PySem.W.Frag} {mg : Str → Option Value} {base : Heap} {dF fO : Addr}
theorem ok_stat {f : Addr} {fd : FuncData} (F : Fun K "statement_of" "statement_of" sStat f fd) (T : Tb4 P w K mg base dF fO) : FnOk P w K mg base CX0 6 f fd ["words"] (spF Good) := by
  obtain ⟨es, n, kd⟩ := T.kd
  refine F.ok scStat (fun vs H Q E h => ?_) (fun cdv A outer s H vs Q E hr h => ?_)
  · obtain ⟨l, ws, rfl, _⟩ := h
    rfl
  · obtain ⟨l, ws, rfl, hl, g, q⟩ := h
    obtain ⟨z, us, fX, G, rfl, ⟨fdX, GX, kX, bX⟩, gx, hz⟩ := good_form T g
    refine ⟨_, pss_cons (ps_set (i := 1) scStat.nd rfl (.inl rfl) (pe_kget2 kd (pe_glob (v := .ref dF) (by rfl) T.forms rfl) (pe_ix ix_list (pv 0) pe_int (fun _ _ => rfl)) (pe_glob (v := .ref fO) (by rfl) T.store rfl) ⟨rfl, rfl, rfl, rfl⟩)) <|
      pss_one (ps_ret (pe_callL (i := 1) GX hr rfl (.inl rfl) kX bX .nil pass0 (pa_cons (pv 0) pa_nil))), ?_⟩
    refine seq_of (asg_of (kget2_of (k_of ⟨rfl, ixk_of rfl hl (k := 0) rfl ?_⟩)))
    rcases hz with ⟨hz, rfl⟩ | hz
    · refine ⟨z, none, rfl, hz, k_of ⟨fun _ => ?_, fun u e => nomatch e⟩⟩
      dsimp only
      exact ret_of (callL_of rfl (c_of (v_of rfl (n_of ⟨l, _, rfl, hl, gx, fun H' v it => q H' v it⟩))))
    · refine ⟨z, _, rfl, hz, k_of ⟨(fun e => nomatch e), fun u e => ?_⟩⟩
      cases e
      refine ⟨.ref fX, rfl, ?_⟩
      dsimp only
      exact ret_of (callL_of rfl (c_of (v_of rfl (n_of ⟨l, _, rfl, hl, gx, fun H' v it => q H' v it⟩))))
end
end Pf
namespace Pf
open PySem PySem.Spec PyProof.Rows L2 Evl Gd Sn
theorem mem_joinL {S : List Nat} {x : Nat} : ∀ {L : List (List Nat)}, x ∈ TL.joinL S L → x ∈ S ∨ ∃ l ∈ L, x ∈ l
  | [], h => by
    rw [TL.joinL] at h
    exact absurd h List.not_mem_nil
  | [a], h => by
    rw [TL.joinL] at h
    exact .inr ⟨a, List.mem_cons_self, h⟩
  | a :: b :: r, h => by
    rw [TL.joinL] at h
    · simp only [List.mem_append] at h
      rcases h with h | h | h
      · exact .inr ⟨a, List.mem_cons_self, h⟩
      · exact .inl h
      · rcases mem_joinL (L := b :: r) h with h | ⟨l, m, h⟩
        · exact .inl h
        · exact .inr ⟨l, List.mem_cons_of_mem _ m, h⟩
    all_goals exact fun z => nomatch z
theorem joinL_len {S : List Nat} {k : Nat} : ∀ {L : List (List Nat)}, (∀ l ∈ L, l.length ≤ k) → (TL.joinL S L).length ≤ (k + S.length) * L.length
  | [], h => by
    rw [TL.joinL]
    exact Nat.zero_le _
  | [a], h => by
    rw [TL.joinL]
    have := h a List.mem_cons_self
    show a.length ≤ (k + S.length) * 1
    omega
  | a :: b :: r, h => by
    have ih := joinL_len (S := S) (L := b :: r) fun l m => h l (List.mem_cons_of_mem _ m)
    have := h a List.mem_cons_self
    rw [TL.joinL]
    · simp only [List.length_append]
      rw [List.length_cons, Nat.mul_succ]
      omega
    all_goals exact fun z => nomatch z
def lineOf (ws : List Str) : Str := Txt.join " " ws
def textOf (ps : List (List Str)) : Str := Txt.join "\n" (ps.map lineOf)
theorem tl_line (ws : List Str) : TL.tl (lineOf ws) = TL.joinL [32] (ws.map TL.tl) := by
  unfold lineOf
  rw [TL.join_eq, TL.tl_join, show TL.tl (" " : Str) = [32] from by decide +kernel]
theorem line_free {ws : List Str} (h : Good ws) : 10 ∉ TL.tl (lineOf ws) := fun m => by
  rw [tl_line] at m
  rcases mem_joinL m with m | ⟨l, hl, m⟩
  · exact absurd m (by decide)
  · obtain ⟨w, hw, rfl⟩ := List.mem_map.mp hl
    exact (h.clean w hw).2.1 m
theorem line_len {ws : List Str} (h : Good ws) : (lineOf ws).length ≤ 328 := by
  rw [TL.len_tl, tl_line]
  have := joinL_len (S := [32]) (k := 40) (L := ws.map TL.tl) fun l hl => by
    obtain ⟨w, hw, rfl⟩ := List.mem_map.mp hl
    rw [← TL.len_tl]
    exact (h.clean w hw).2.2.1
  rw [List.length_map] at this
  have f := h.few
  have e : (40 + ([32] : List Nat).length) = 41 := rfl
  rw [e] at this
  omega
structure Page (ps : List (List Str)) : Prop where
  good : ∀ ws ∈ ps, Good ws
  few : ps.length ≤ 100
theorem text_len {ps : List (List Str)} (h : Page ps) : (textOf ps).length ≤ 33000 := by
  unfold textOf
  rw [TL.join_eq, TL.len_tl, TL.tl_join, show TL.tl ("\n" : Str) = [10] from by decide +kernel]
  have := joinL_len (S := [10]) (k := 328) (L := (ps.map lineOf).map TL.tl) fun l hl => by
    obtain ⟨z, hz, rfl⟩ := List.mem_map.mp hl
    obtain ⟨ws, hw, rfl⟩ := List.mem_map.mp hz
    rw [← TL.len_tl]
    exact line_len (h.good ws hw)
  rw [List.length_map, List.length_map] at this
  have f := h.few
  have e : (328 + ([10] : List Nat).length) = 329 := rfl
  rw [e] at this
  omega
theorem text_split {ps : List (List Str)} (h : Page ps) (ne : ps ≠ []) : Txt.split (textOf ps) "\n" = ps.map lineOf :=
  TL.split_join (y := "\n") (s := 10) (S := []) (by decide +kernel) (by decide +kernel) (fun z => ne (List.map_eq_nil_iff.mp z)) fun p m => by
    obtain ⟨ws, hw, rfl⟩ := List.mem_map.mp m
    exact line_free (h.good ws hw)
theorem good_first {ws : List Str} (h : Good ws) : ∃ w us, ws = w :: us ∧ TL.tl w ≠ [] := by
  have nm : ∀ w ∈ names12, TL.tl w ≠ [] := by decide +kernel
  have sp : ∀ o ∈ names12, ∀ m : Fin 6, TL.tl (o ++ ("." : Str) ++ Str.ofString (toString ((m.val : Nat) : Int))) ≠ [] := by decide +kernel
  cases h with
  | letR a b => exact ⟨_, _, rfl, by decide +kernel⟩
  | letM a b => exact ⟨_, _, rfl, by decide +kernel⟩
  | say b => exact ⟨_, _, rfl, by decide +kernel⟩
  | name a b =>
    have all : ∀ w ∈ (["drop", "hold", "release", "pin", "unpin"] : List Str), TL.tl w ≠ [] := by decide +kernel
    exact ⟨_, _, rfl, all _ a⟩
  | store a b =>
    obtain ⟨o, ho, m, rfl⟩ := a
    exact ⟨_, _, rfl, sp o ho m⟩
  | enter a b c => exact ⟨_, _, rfl, nm _ a⟩
  | if_ a b => exact ⟨_, _, rfl, by decide +kernel⟩
  | bare a =>
    have all : ∀ w ∈ (["else", "end", "minor", "begin", "finalize", "settle"] : List Str), TL.tl w ≠ [] := by decide +kernel
    exact ⟨_, _, rfl, all _ a⟩
  | num a b =>
    have all : ∀ w ∈ (["repeat", "rings", "slice", "compact"] : List Str), TL.tl w ≠ [] := by decide +kernel
    exact ⟨_, _, rfl, all _ a⟩
  | proc a => exact ⟨_, _, rfl, by decide +kernel⟩
  | procs a => exact ⟨_, _, rfl, by decide +kernel⟩
  | do_ a => exact ⟨_, _, rfl, by decide +kernel⟩
  | dos a b => exact ⟨_, _, rfl, by decide +kernel⟩
theorem joinL_ne {S : List Nat} {a : List Nat} {r : List (List Nat)} (h : a ≠ []) : TL.joinL S (a :: r) ≠ [] := by
  cases r with
  | nil =>
    rw [TL.joinL]
    exact h
  | cons b r =>
    rw [TL.joinL]
    · intro z
      exact h (List.append_eq_nil_iff.mp z).1
    all_goals exact fun z => nomatch z
theorem text_nil {ps : List (List Str)} (h : Page ps) : decide (V.str (textOf ps) = V.str "") = decide (ps = []) := by
  cases ps with
  | nil => decide +kernel
  | cons ws r =>
    rw [show decide (ws :: r = []) = false from by simp]
    refine decide_eq_false fun e => ?_
    have e2 : TL.tl (textOf (ws :: r)) = TL.tl ("" : Str) := congrArg TL.tl (V.str.inj e)
    rw [show TL.tl ("" : Str) = [] from by decide +kernel] at e2
    unfold textOf at e2
    rw [TL.join_eq, TL.tl_join, List.map_cons, List.map_cons] at e2
    refine joinL_ne ?_ e2
    rw [tl_line]
    obtain ⟨w, us, rfl, hw⟩ := good_first (h.good ws List.mem_cons_self)
    rw [List.map_cons]
    exact joinL_ne hw
theorem text_codes {ps : List (List Str)} (h : Page ps) : ∀ c ∈ (textOf ps).cps.toList, c < 16 ^ 8 := fun c m => by
  have m : c ∈ TL.tl (textOf ps) := m
  unfold textOf at m
  rw [TL.join_eq, TL.tl_join, show TL.tl ("\n" : Str) = [10] from by decide +kernel] at m
  rcases mem_joinL m with m | ⟨l, hl, m⟩
  · rw [List.mem_singleton.mp m]
    decide
  · obtain ⟨z, hz, rfl⟩ := List.mem_map.mp hl
    obtain ⟨ws, hw, rfl⟩ := List.mem_map.mp hz
    rw [tl_line] at m
    rcases mem_joinL m with m | ⟨l, hl, m⟩
    · rw [List.mem_singleton.mp m]
      decide
    · obtain ⟨w, hw', rfl⟩ := List.mem_map.mp hl
      exact ((h.good ws hw).clean w hw').2.2.2 c m
end Pf
namespace Pf
open PySem PySem.Spec PyProof.Rows L2 Evl Gd Sn
abbrev sStats : Stmt := topS 38
abbrev sRead : Stmt := topS 37
abbrev sShow : Stmt := topS 39
abbrev nStats : List Str := ["text", "found", "at", "line", "statement"]
abbrev nRead : List Str := ["text", "line"]
abbrev nShow : List Str := ["rows", "words"]
theorem scStats : FnScope nStats ["text"] (defScope sStats) := ⟨rfl, rfl, rfl, by decide +kernel, rfl, by decide +kernel, by decide +kernel⟩
theorem scRead : FnScope nRead ["text"] (defScope sRead) := ⟨rfl, rfl, rfl, by decide +kernel, rfl, by decide +kernel, by decide +kernel⟩
theorem scShow : FnScope nShow ["rows"] (defScope sShow) := ⟨rfl, rfl, rfl, by decide +kernel, rfl, by decide +kernel, by decide +kernel⟩
abbrev rTupOf (K : PySem.W.Frag) : List V → Hp → VK → Prop := fun xs H Q => ∃ p ys, xs = [.ref p] ∧ ((SqL K H p ys ∧ ∀ l, H l = none → Q (.ref l) (upd H l (.tup ys))) ∨ (SqT K H p ys ∧ Q (.ref p) H))
def dRow (ws : List Str) : PyData := .tuple (ws.map .str)
def spStats : L2.Sp := fun vs H Q _ => ∃ ps : List (List Str), vs = [.str (textOf ps)] ∧ Page ps ∧ ∀ H' v, Ex H H' → Q v H'
def spRead (K : PySem.W.Frag) : L2.Sp := fun vs H Q _ => ∃ ps : List (List Str), vs = [.str (textOf ps)] ∧ Page ps ∧ ∀ (H' : Hp) (t : Addr), Ex H H' → Td K H' (.ref t) (.tuple (ps.map dRow)) → Q (.ref t) H'
def spShow (K : PySem.W.Frag) : L2.Sp := fun vs H Q _ => ∃ (x : V) (ps : List (List Str)), vs = [x] ∧ Page ps ∧ Td K H x (.tuple (ps.map dRow)) ∧ ∀ H', Ex H H' → Q (.str (textOf ps)) H'
theorem td_strs {K : PySem.W.Frag} {H : Hp} : ∀ ws : List Str, TdAll K H (ws.map V.str) (ws.map .str)
  | [] => .nil
  | w :: r => .cons (.str w) (td_strs r)
theorem td_strs_inv {K : PySem.W.Frag} {H : Hp} : ∀ {xs : List V} (ws : List Str), TdAll K H xs (ws.map .str) → xs = ws.map V.str
  | _, [], h => h.inv_nil
  | _, w :: r, h => by
    obtain ⟨y, ys, rfl, h1, h2⟩ := TdAll.inv_cons h
    rw [h1.inv_str, td_strs_inv r h2]
    rfl
section
variable {P : Program} {w : World} {K : PySem.W.Frag} {mg : Str → Option Value} {base : Heap}
theorem ok_stats {f fT : Addr} {fd fdT : FuncData} (F : Fun K "statements_of" "statements_of" sStats f fd) (FT : Fun K "statement_of" "statement_of" sStat fT fdT) (bT : Binds K fdT ["words"] []) (gT : mg "statement_of" = some (.ref fT)) (mI : mg "isinstance" = none) (mS : mg "str" = none) (mE : mg "enumerate" = none)
    (GT : FnOk P w K mg base CX0 6 fT fdT ["words"] (spF Good)) : FnOk P w K mg base CX0 7 f fd ["text"] spStats := by
  refine F.ok scStats (fun vs H Q E h => ?_) (fun cdv A outer s H vs Q E hr h => ?_)
  · obtain ⟨ps, rfl, _⟩ := h
    rfl
  · obtain ⟨ps, rfl, pg, q⟩ := h
    have tl := text_len pg
    refine ⟨_, pss_cons (ps_if (pt_not (pt_val (pe_callB call_isi (by rfl) mI (by decide +kernel) (pa_cons (pv 0) (pa_cons (pe_bltn (v := .ty "str") (by rfl) mS (by decide +kernel) rfl) pa_nil))))) pss_never pss_nil) <|
      pss_cons (ps_set (i := 1) scStats.nd rfl (.inl rfl) (pe_lst pa_nil)) <|
      pss_cons (ps_if (pt_cmpR op_eq (pv 0) pe_str (nomark _)) (pss_one (ps_ret (pv 1))) pss_nil) <|
      pss_cons (ps_for PassesOwn.never rfl (pi_enum (by rfl) mE (pa_cons (pe_split (pv 0) pe_str) pa_nil)) (pg_tup (n := 2) rfl (pgs_cons (pg_name (i := 2) scStats.nd rfl (.inl rfl)) <| pgs_cons (pg_name (i := 3) scStats.nd rfl (.inl rfl)) pgs_nil))
        (pss_cons (ps_set (i := 4) scStats.nd rfl (.inl rfl) (pe_call GT hr (by rfl) gT FT.kp bT .nil pass0 (pa_cons (pe_split (pv 3) pe_str) pa_nil))) <|
         pss_cons (ps_if (pt_cmpR op_isN (pv 4) pe_non (nomark _)) pss_never pss_nil) <|
         pss_one (ps_expr (pe_bm PySem.F.plainAttrs_list PySem.F.slot_list_append PySem.F.type_list_append mt_append (pv 1) (pa_cons (pv 4) pa_nil))))) <|
      pss_one (ps_ret (pv 1)), ?_⟩
    refine seq_of (ifS_of (not_of (test_of (cb_of (c_of (v_of rfl (c_of (k_of (n_of ⟨_, .ty "str", _, _, true, rfl, .ty "str", .base (.str _), kit_ty (by decide +kernel), true, rfl, ?_⟩)))))))))
    rw [if_neg (show ¬ (!true) = true from Bool.false_ne_true)]
    dsimp only [tNext]
    refine seq_of (asg_of (lst_of (n_of ⟨Nat.zero_le _, fun D hD => ?_⟩)))
    have e1 : Ex H (upd H D (.lst [])) := Ex.new hD
    have h1 : (upd H D (.lst [])) D = some (.lst []) := upd_same
    generalize upd H D (.lst []) = H1 at e1 h1 ⊢
    dsimp only
    refine seq_of (ifS_of (test_of (op_of (v_of rfl (k_of ⟨rfl, _, rfl, ?_⟩)))))
    rw [text_nil pg]
    by_cases z : ps = []
    · rw [decide_eq_true z, if_pos rfl]
      exact ret_of (v_of rfl (q H1 _ e1))
    · rw [decide_eq_false z, if_neg Bool.false_ne_true]
      dsimp only [tNext]
      refine seq_of (for_of ?_)
      refine c_of (m1_of (v_of rfl ⟨⟨_, rfl⟩, k_of ⟨_, _, rfl, rfl, by decide +kernel, by rw [sizeLine_eq]; omega, fun p hp => n_of ?_⟩⟩))
      rw [text_split pg z]
      have e2 : Ex H1 (upd H1 p (.lst ((ps.map lineOf).map V.str))) := Ex.new hp
      have h2 : (upd H1 p (.lst ((ps.map lineOf).map V.str))) p = some (.lst ((ps.map lineOf).map V.str)) := upd_same
      have hD2 := e2 _ _ h1
      generalize upd H1 p (.lst ((ps.map lineOf).map V.str)) = H2 at e2 h2 hD2 ⊢
      have nDp : p ≠ D := fun e => by rw [e, h1] at hp; cases hp
      refine ⟨p, _, rfl, sq_of h2, for_it (walk_enum (K := K) (a := p) (xs := (ps.map lineOf).map V.str)) (fun i σ' H' => ∃ y2 y3 y4 us, σ' = [some (.str (textOf ps)), some (.ref D), y2, y3, y4] ∧ Ex H H' ∧ H' p = some (.lst ((ps.map lineOf).map V.str)) ∧ H' D = some (.lst us) ∧ us.length = i) ⟨none, none, none, [], rfl, e1.trans e2, h2, hD2, rfl⟩ (fun i σ' H' _ ⟨_, _, _, _, _, _, h, _⟩ => sq_of h) ?_ ?_⟩
      · rintro i x σ' Hc Hd hi ⟨y2, y3, y4, us, rfl, e, hp', hD', ul⟩ hy
        obtain ⟨T, u, v, rfl, hT, rfl, hu, hv⟩ := hy
        cases hu
        have hv : ((ps.map lineOf).map V.str)[i]? = some v := hv
        rw [List.getElem?_map, List.getElem?_map] at hv
        obtain ⟨ln, hl1, rfl⟩ := Option.map_eq_some_iff.mp hv
        obtain ⟨ws, hw, rfl⟩ := Option.map_eq_some_iff.mp hl1
        have gd := pg.good ws (List.mem_of_getElem? hw)
        have ll := line_len gd
        have il : i < ps.length := (List.getElem?_eq_some_iff.mp hw).1
        have fw := pg.few
        have e3 : Ex Hc (upd Hc T (.tup [.int i, .str (lineOf ws)])) := Ex.new hT
        refine ⟨T, _, rfl, st_of upd_same, rfl, .int i, _, rfl, .str (lineOf ws), _, rfl, rfl, ?_⟩
        dsimp only [gName]
        generalize upd Hc T (.tup [.int i, .str (lineOf ws)]) = Ha at e3 ⊢
        refine seq_of (asg_of (call_of (c_of (m1_of (v_of rfl ⟨⟨_, rfl⟩, k_of ⟨_, _, rfl, rfl, by decide +kernel, by rw [sizeLine_eq]; omega, fun p2 hp2 => ?_⟩⟩)))))
        have sp : Txt.split (lineOf ws) " " = ws := gd.split
        rw [sp]
        have e4 : Ex Ha (upd Ha p2 (.lst (ws.map V.str))) := Ex.new hp2
        refine n_of ⟨p2, ws, rfl, upd_same, gd, fun Hb v ⟨e5, t, xs, ev, ht⟩ => ?_⟩
        subst ev
        have ecb := (e3.trans e4).trans e5
        dsimp only
        refine seq_of (ifS_of (test_of (op_of (v_of rfl (k_of ⟨rfl, _, rfl, ?_⟩)))))
        rw [show decide (V.ref t = V.non) = false from by simp, if_neg Bool.false_ne_true]
        dsimp only [tNext]
        refine drop_of (v_of rfl ⟨.inl ⟨rfl, _, sq_of (ecb _ _ hD')⟩, c_of (v_of rfl (n_of ⟨D, us, .ref t, rfl, rfl, ecb _ _ hD', sz_lt (by omega), ?_⟩))⟩)
        refine ⟨_, _, _, us ++ [.ref t], rfl, Ex.mut (e.trans ecb) hD, ?_, upd_same, by rw [List.length_append, ul]; rfl⟩
        rw [upd_ne nDp]
        exact ecb _ _ hp'
      · rintro σ' Hc ⟨y2, y3, y4, us, rfl, e, _⟩
        dsimp only
        exact ret_of (v_of rfl (q Hc _ e))
theorem ok_read {f fS : Addr} {fd fdS : FuncData} (F : Fun K "read_script" "read_script" sRead f fd) (FS : Fun K "statements_of" "statements_of" sStats fS fdS) (bS : Binds K fdS ["text"] []) (gS : mg "statements_of" = some (.ref fS)) (mT : mg "tuple" = none)
    (GS : FnOk P w K mg base CX0 7 fS fdS ["text"] spStats) : FnOk P w K mg base CX0 8 f fd ["text"] (spRead K) := by
  refine F.ok scRead (fun vs H Q E h => ?_) (fun cdv A outer s H vs Q E hr h => ?_)
  · obtain ⟨ps, rfl, _⟩ := h
    rfl
  · obtain ⟨ps, rfl, pg, q⟩ := h
    have tl := text_len pg
    refine ⟨_, pss_cons (ps_expr (pe_call GS hr (by rfl) gS FS.kp bS .nil pass0 (pa_cons (pv 0) pa_nil))) <|
      pss_cons (ps_if (pt_cmpR op_eq (pv 0) pe_str (nomark _)) (pss_one (ps_ret (pe_tup pa_nil))) pss_nil) <|
      pss_one (ps_ret (pe_callTy call_tuple_of (by rfl) mT (by decide +kernel) (pa_cons (pe_lc (own := [("line", 1)]) (g := gName 1) (tt := tYes) (te := tCB (rTupOf K) (tCons (tM1 (fun x xs H Q => ∃ a b, x = .str a ∧ xs = [.str b] ∧ (b.length == 0) = false ∧ a.length + 2 ≤ sizeLine ∧ rNewStrs (Txt.split a b) H Q) (tVar 1) (tC (.str " "))) tNil)) rfl scRead.nd (pi_list (pe_split (pv 0) pe_str)) (blkOk_by (N := nRead) (sc := defScope sRead) (by decide +kernel))
        (fun _ _ _ _ _ => pg_name (i := 1) scRead.nd rfl (.inl rfl)) (fun _ _ _ _ _ => pts_nil) (fun _ _ _ _ _ => pe_callTy call_tuple_of (by rfl) mT (by decide +kernel) (pa_cons (pe_split (pv 1) pe_str) pa_nil))) pa_nil))), ?_⟩
    refine seq_of (drop_of (call_of (c_of (v_of rfl (n_of ⟨ps, rfl, pg, fun H1 v e1 => ?_⟩)))))
    refine seq_of (ifS_of (test_of (op_of (v_of rfl (k_of ⟨rfl, _, rfl, ?_⟩)))))
    rw [text_nil pg]
    by_cases z : ps = []
    · rw [decide_eq_true z, if_pos rfl]
      refine ret_of (tup_of (n_of ⟨Nat.zero_le _, fun p hp => ?_⟩))
      subst z
      exact q _ p (e1.trans (Ex.new hp)) (.tup (st_of upd_same) .nil)
    · rw [decide_eq_false z, if_neg Bool.false_ne_true]
      dsimp only [tNext]
      refine ret_of (cb_of (c_of (lc_of (iL_of (m1_of (v_of rfl ⟨⟨_, rfl⟩, k_of ⟨_, _, rfl, rfl, by decide +kernel, by rw [sizeLine_eq]; omega, fun p hp => ⟨p, rfl, ⟨_, sq_of upd_same⟩, fun D hD => ?_⟩⟩⟩))))))
      rw [text_split pg z] at hD ⊢
      have e2 : Ex H1 (upd H1 p (.lst ((ps.map lineOf).map V.str))) := Ex.new hp
      have h2 : (upd H1 p (.lst ((ps.map lineOf).map V.str))) p = some (.lst ((ps.map lineOf).map V.str)) := upd_same
      generalize upd H1 p (.lst ((ps.map lineOf).map V.str)) = H2 at e2 h2 hD ⊢
      refine lc_list (xs := (ps.map lineOf).map V.str) (fun i H' => Ex H2 H' ∧ ∃ us, H' D = some (.lst us) ∧ us.length = i ∧ TdAll K H' us ((ps.take i).map dRow)) ⟨Ex.new hD, [], upd_same, rfl, .nil⟩ (fun i H' _ h => sq_of (h.1 _ _ h2)) ?_ ?_
      · rintro i x' H' hx ⟨e, us, hd, ul, td⟩
        rw [List.getElem?_map, List.getElem?_map] at hx
        obtain ⟨ln, hl1, rfl⟩ := Option.map_eq_some_iff.mp hx
        obtain ⟨ws, hw, rfl⟩ := Option.map_eq_some_iff.mp hl1
        have gd := pg.good ws (List.mem_of_getElem? hw)
        have ll := line_len gd
        have il : i < ps.length := (List.getElem?_eq_some_iff.mp hw).1
        have fw := pg.few
        refine ⟨rfl, ?_⟩
        dsimp only [tYes]
        rw [if_pos rfl]
        refine cb_of (c_of (m1_of (v_of rfl ⟨⟨_, rfl⟩, k_of ⟨_, _, rfl, rfl, by decide +kernel, by rw [sizeLine_eq]; omega, fun p2 hp2 => n_of ⟨p2, _, rfl, .inl ⟨sq_of upd_same, fun t ht => ?_⟩⟩⟩⟩)))
        have sp : Txt.split (lineOf ws) " " = ws := gd.split
        rw [sp] at ht ⊢
        have x1 : Ex H' (upd H' p2 (.lst (ws.map V.str))) := Ex.new hp2
        generalize upd H' p2 (.lst (ws.map V.str)) = Ha at x1 ht ⊢
        have x2 : Ex Ha (upd Ha t (.tup (ws.map V.str))) := Ex.new ht
        have y2 : (upd Ha t (.tup (ws.map V.str))) t = some (.tup (ws.map V.str)) := upd_same
        generalize upd Ha t (.tup (ws.map V.str)) = Hb at x2 y2 ⊢
        have hdb := (x1.trans x2) _ _ hd
        refine ⟨us, hdb, sz_lt (by omega), Ex.mut (e.trans (x1.trans x2)) hD, us ++ [.ref t], upd_same, by rw [List.length_append, ul]; rfl, ?_⟩
        have kt : KeepT K Hb (upd Hb D (.lst (us ++ [.ref t]))) := .lst hdb fun a o n h => by
          rw [upd_ne n]
          exact h
        rw [take_one hw, List.map_append]
        have tr : Td K Hb (.ref t) (dRow ws) := .tup (st_of y2) (td_strs ws)
        exact ((td.ex (x1.trans x2)).snoc tr).keep kt
      · rintro H3 ⟨e3, us, hd, ul, td⟩
        rw [List.length_map, List.length_map, List.take_length] at td
        refine n_of ⟨D, us, rfl, .inl ⟨sq_of hd, fun t ht => ?_⟩⟩
        exact q _ t (((e1.trans e2).trans e3).trans (Ex.new ht)) (.tup (st_of upd_same) (td.ex (Ex.new ht)))
theorem sum_len : ∀ {ws : List Str}, (∀ w ∈ ws, w.length ≤ 400) → (ws.map (·.length)).sum ≤ 400 * ws.length
  | [], _ => Nat.zero_le _
  | w :: r, h => by
    have := h w List.mem_cons_self
    have := sum_len (ws := r) fun u m => h u (List.mem_cons_of_mem _ m)
    rw [List.map_cons, List.sum_cons, List.length_cons, Nat.mul_succ]
    omega
theorem ok_show {f : Addr} {fd : FuncData} (F : Fun K "show_script" "show_script" sShow f fd) : FnOk P w K mg base CX0 1 f fd ["rows"] (spShow K) := by
  refine F.ok scShow (fun vs H Q E h => ?_) (fun cdv A outer s H vs Q E hr h => ?_)
  · obtain ⟨x, ps, rfl, _⟩ := h
    rfl
  · obtain ⟨x, ps, rfl, pg, td, q⟩ := h
    refine ⟨_, pss_one (ps_ret (pe_join pe_str (pe_lc (own := [("words", 1)]) (g := gName 1) (tt := tYes) (te := tM1 (fun x xs H Q => ∃ a p, ∃ ys : List Str, x = .str a ∧ xs = [.ref p] ∧ (SqL K H p (ys.map V.str) ∨ SqT K H p (ys.map V.str)) ∧ (ys.map (·.length)).sum + ys.length * a.length ≤ 16777216 ∧ Q (.str (Txt.join a ys)) H) (tC (.str " ")) (tVar 1)) rfl scShow.nd (pi_tup (pv 0)) (blkOk_by (N := nShow) (sc := defScope sShow) (by decide +kernel))
        (fun _ _ _ _ _ => pg_name (i := 1) scShow.nd rfl (.inl rfl)) (fun _ _ _ _ _ => pts_nil) (fun _ _ _ _ _ => pe_join pe_str (pv 1))))), ?_⟩
    obtain ⟨p, xs, rfl, sp, ta⟩ := td.inv_tup
    have xl := ta.len
    rw [List.length_map] at xl
    have fw := pg.few
    refine ret_of (m1_of (k_of ⟨⟨_, rfl⟩, lc_of (iT_of (v_of rfl ⟨p, rfl, ⟨_, sp⟩, fun D hD => lc_tup (xs := xs) (fun i H' => Ex H H' ∧ H' D = some (.lst (((ps.take i).map lineOf).map V.str))) ⟨Ex.new hD, upd_same⟩ (fun i H' _ h => ex_t h.1 sp) ?_ ?_⟩))⟩))
    · rintro i x' H' hx ⟨e, hd⟩
      obtain ⟨δ, hδ, hT⟩ := ta.get hx
      obtain ⟨ws, hw, rfl⟩ := map_at hδ
      have gd := pg.good ws (List.mem_of_getElem? hw)
      obtain ⟨t, ys, rfl, st, tw⟩ := hT.inv_tup
      rw [td_strs_inv ws tw] at st
      have il : i < ps.length := (List.getElem?_eq_some_iff.mp hw).1
      refine ⟨rfl, ?_⟩
      dsimp only [tYes]
      rw [if_pos rfl]
      have sl := sum_len (ws := ws) fun w hw => Nat.le_trans (gd.clean w hw).2.2.1 (by decide)
      have few := gd.few
      refine m1_of (k_of ⟨⟨_, rfl⟩, v_of rfl ⟨_, t, ws, rfl, rfl, .inr (ex_t e st), ?_, ?_⟩⟩)
      · rw [show (" " : Str).length = 1 from by decide +kernel]
        omega
      refine ⟨_, hd, sz_lt (by rw [List.length_map, List.length_map, List.length_take]; omega), Ex.mut e hD, ?_⟩
      rw [upd_same, take_one hw, List.map_append, List.map_append]
      rfl
    · rintro H' ⟨e, hd⟩
      rw [xl, List.take_length] at hd
      have sl := sum_len (ws := ps.map lineOf) fun w hw => by
        obtain ⟨ws, hm, rfl⟩ := List.mem_map.mp hw
        exact Nat.le_trans (line_len (pg.good ws hm)) (by decide)
      rw [List.length_map] at sl
      refine ⟨_, D, ps.map lineOf, rfl, rfl, .inl (sq_of hd), ?_, q H' e⟩
      rw [show ("\n" : Str).length = 1 from by decide +kernel, List.length_map]
      omega
end
end Pf
namespace Pf
open PySem PySem.Spec PyProof.Rows L2 Evl Gd
abbrev sRow : Stmt := topS 44
abbrev nRow : List Str := ["_law_pot_here", "_law_name", "_law_other", "_law_third", "_law_worth", "_law_number", "_law_home", "_law_spot", "_law_call", "_law_reads", "_law_made", "_law_lines", "_law_turn"]
theorem scRow : FnScope nRow ["_law_pot_here"] (defScope sRow) := ⟨rfl, rfl, rfl, by decide +kernel, rfl, by decide +kernel, by decide +kernel⟩
def spRow : Sp := fun vs H Q _ => ∃ (d : Addr) (n : Int), vs = [.ref d] ∧ Pot H d n ∧ n ≤ 900000 ∧ ∀ H' r, RowT r → Off d H H' → Pot H' d (n + 20) → Q (.str r) H'
section
variable {P : Program} {w : World} {K : PySem.W.Frag} {mg : Str → Option Value} {base : Heap}
theorem ok_row {f fT fO : Addr} {fd fdT fdO : FuncData} (F : Fun K "_law_form_row" "_law_form_row" sRow f fd) (FT : Fun K "_law_take" "_law_take" sTake fT fdT) (FO : Fun K "_law_of" "_law_of" sOf fO fdO) (bT : Binds K fdT ["_law_pot_here", "_law_many"] []) (bO : Binds K fdO ["_law_pot_here", "_law_some"] [])
    (gT : mg "_law_take" = some (.ref fT)) (gO : mg "_law_of" = some (.ref fO)) (mL : mg "len" = none) (mS : mg "str" = none) (mR : mg "range" = none) : FnOk P w K mg base CX0 3 f fd ["_law_pot_here"] spRow := by
  have GT : FnOk P w K mg base CX0 2 fT fdT ["_law_pot_here", "_law_many"] spTake := (ok_take FT).mono (by decide)
  have GO : FnOk P w K mg base CX0 2 fO fdO ["_law_pot_here", "_law_some"] spOf := ok_of FO FT bT gT mL
  refine F.ok scRow (fun vs H Q E h => ?_) (fun cdv A outer s H vs Q E hr h => ?_)
  · obtain ⟨d, n, rfl, _⟩ := h
    rfl
  · obtain ⟨d, n, rfl, hP, hn, q⟩ := h
    refine ⟨_, (pss_cons (ps_asg (pe_lc (own := [("_law_turn", 12)]) (g := gName 12) (tt := tYes) (te := tCall spOf [] E0 (tCons (tVar 0) (tCons (tLst (tCons (tC (.str "a")) (tCons (tC (.str "b")) (tCons (tC (.str "x")) (tCons (tC (.str "G")) (tCons (tC (.str "Hello")) (tCons (tC (.str "abcdefgh")) (tCons (tC (.str "k")) tNil)))))))) tNil))) rfl scRow.nd (pi_range1 (by rfl) mR (pa_cons pe_int pa_nil)) (blkOk_by (N := nRow) (sc := defScope sRow) (by decide +kernel)) (fun _ _ _ _ _ => pg_name (i := 12) scRow.nd rfl (.inl rfl)) (fun _ _ _ _ _ => pts_nil) (fun _ _ _ _ _ => (pe_call GO hr (by rfl) gO FO.kp bO .nil pass0 (pa_cons (pv 0) (pa_cons (pe_lst (pa_cons pe_str (pa_cons pe_str (pa_cons pe_str (pa_cons pe_str (pa_cons pe_str (pa_cons pe_str (pa_cons pe_str pa_nil)))))))) pa_nil))))) (pg_lst (n := 3) rfl (pgs_cons (pg_name (i := 1) scRow.nd rfl (.inl rfl)) (pgs_cons (pg_name (i := 2) scRow.nd rfl (.inl rfl)) (pgs_cons (pg_name (i := 3) scRow.nd rfl (.inl rfl)) pgs_nil)))))
      (pss_cons (ps_set (i := 4) scRow.nd rfl (.inl rfl) (pe_call GO hr (by rfl) gO FO.kp bO .nil pass0 (pa_cons (pv 0) (pa_cons (pe_lst (pa_cons (pv 1) (pa_cons pe_str (pa_cons pe_str (pa_cons pe_str (pa_cons pe_str (pa_cons pe_str (pa_cons (pe_callTy call_str_int (by rfl) mS (by decide +kernel) (pa_cons (pe_call GT hr (by rfl) gT FT.kp bT .nil pass0 (pa_cons (pv 0) (pa_cons (pe_op op_pow pe_int pe_int) pa_nil))) pa_nil)) pa_nil)))))))) pa_nil))))
      (pss_cons (ps_par (i := 5) (j := 6) rfl scRow.nd rfl rfl (by decide) rfl rfl (pa_cons (pe_callTy call_str_int (by rfl) mS (by decide +kernel) (pa_cons (pe_call GO hr (by rfl) gO FO.kp bO .nil pass0 (pa_cons (pv 0) (pa_cons (pe_lst (pa_cons pe_int (pa_cons pe_int (pa_cons pe_int (pa_cons (pe_call GT hr (by rfl) gT FT.kp bT .nil pass0 (pa_cons (pv 0) (pa_cons pe_int pa_nil))) pa_nil))))) pa_nil))) pa_nil)) (pa_cons (pe_call GO hr (by rfl) gO FO.kp bO .nil pass0 (pa_cons (pv 0) (pa_cons (pe_lst (pa_cons pe_str (pa_cons pe_str pa_nil))) pa_nil))) pa_nil)) (by rfl))
      (pss_cons (ps_par (i := 7) (j := 8) rfl scRow.nd rfl rfl (by decide) rfl rfl (pa_cons (pe_op op_add_str (pe_op op_add_str (pv 2) pe_str) (pe_callTy call_str_int (by rfl) mS (by decide +kernel) (pa_cons (pe_call GT hr (by rfl) gT FT.kp bT .nil pass0 (pa_cons (pv 0) (pa_cons pe_int pa_nil))) pa_nil))) (pa_cons (pe_call GO hr (by rfl) gO FO.kp bO .nil pass0 (pa_cons (pv 0) (pa_cons (pe_lst (pa_cons pe_str (pa_cons pe_str (pa_cons pe_str pa_nil)))) pa_nil))) pa_nil)) (by rfl))
      (pss_cons (ps_set (i := 9) scRow.nd rfl (.inl rfl) (pe_lst (pa_cons (pv 4) (pa_cons (pv 7) (pa_cons (pe_op op_add_str pe_str (pv 2)) (pa_cons (pe_op op_add_str (pe_op op_add_str (pv 2) pe_str) (pv 3)) pa_nil))))))
      (pss_cons (ps_set (i := 10) scRow.nd rfl (.inl rfl) (pe_lst (pa_cons (pe_op op_add_str (pe_op op_add_str (pe_op op_add_str pe_str (pv 6)) pe_str) (pe_callTy call_str_int (by rfl) mS (by decide +kernel) (pa_cons (pe_call GT hr (by rfl) gT FT.kp bT .nil pass0 (pa_cons (pv 0) (pa_cons pe_int pa_nil))) pa_nil))) (pa_cons (pe_op op_add_str (pe_op op_add_str (pe_op op_add_str pe_str (pv 6)) pe_str) (pv 2)) (pa_cons (pe_op op_add_str pe_str (pv 6)) pa_nil)))))
      (pss_cons (ps_expr (pe_bm PySem.F.plainAttrs_list PySem.F.slot_list_append PySem.F.type_list_append mt_append (pv 10) (pa_cons (pe_op op_add_str (pe_op op_add_str (pe_ix ix_list (pv 10) pe_int (fun _ _ => rfl)) pe_str) (pv 8)) pa_nil)))
      (pss_cons (ps_set (i := 11) scRow.nd rfl (.inl rfl) (pe_lst (pa_cons (pe_op op_add_str (pe_op op_add_str (pe_op op_add_str pe_str (pv 1)) pe_str) (pe_call GO hr (by rfl) gO FO.kp bO .nil pass0 (pa_cons (pv 0) (pa_cons (pe_op op_cat (pv 9) (pv 10)) pa_nil)))) (pa_cons (pe_op op_add_str pe_str (pe_call GO hr (by rfl) gO FO.kp bO .nil pass0 (pa_cons (pv 0) (pa_cons (pv 9) pa_nil)))) (pa_cons (pe_op op_add_str pe_str (pv 1)) pa_nil)))))
      (pss_cons (ps_set (i := 11) scRow.nd rfl (.inl rfl) (pe_op op_cat (pv 11) (pe_lst (pa_cons (pe_op op_add_str pe_str (pv 1)) (pa_cons (pe_op op_add_str pe_str (pv 1)) (pa_cons (pe_op op_add_str pe_str (pv 1)) (pa_cons (pe_op op_add_str pe_str (pv 1)) (pa_cons (pe_op op_add_str (pe_op op_add_str (pv 7) pe_str) (pv 4)) pa_nil))))))))
      (pss_cons (ps_set (i := 11) scRow.nd rfl (.inl rfl) (pe_op op_cat (pv 11) (pe_lst (pa_cons (pe_op op_add_str (pe_op op_add_str (pe_op op_add_str (pe_op op_add_str (pv 2) pe_str) (pv 3)) pe_str) (pv 4)) (pa_cons (pe_op op_add_str (pe_op op_add_str (pe_op op_add_str pe_str (pv 4)) pe_str) (pv 3)) (pa_cons pe_str (pa_cons pe_str pa_nil)))))))
      (pss_cons (ps_set (i := 11) scRow.nd rfl (.inl rfl) (pe_op op_cat (pv 11) (pe_lst (pa_cons (pe_op op_add_str pe_str (pv 5)) (pa_cons (pe_op op_add_str pe_str (pv 8)) (pa_cons (pe_op op_add_str (pe_op op_add_str pe_str (pv 8)) pe_str) (pa_cons (pe_op op_add_str pe_str (pv 8)) pa_nil)))))))
      (pss_cons (ps_expr (pe_bm PySem.F.plainAttrs_list PySem.F.slot_list_append PySem.F.type_list_append mt_append (pv 11) (pa_cons (pe_op op_add_str (pe_op op_add_str (pe_op op_add_str pe_str (pv 8)) pe_str) (pv 4)) pa_nil)))
      (pss_cons (ps_set (i := 11) scRow.nd rfl (.inl rfl) (pe_op op_cat (pv 11) (pe_lst (pa_cons pe_str (pa_cons (pe_op op_add_str pe_str (pv 5)) (pa_cons pe_str (pa_cons (pe_op op_add_str pe_str (pv 5)) (pa_cons (pe_op op_add_str pe_str (pv 5)) (pa_cons pe_str (pa_cons pe_str pa_nil))))))))))
      (pss_one (ps_ret (pe_call GO hr (by rfl) gO FO.kp bO .nil pass0 (pa_cons (pv 0) (pa_cons (pe_op op_cat (pv 11) (pe_slice sl_list (pv 11) po_none (po_some pe_int))) pa_nil)))))))))))))))))), ?_⟩
    refine seq_of (asgG_of (rd_names (n := n) (d := d) (j := 12) (m := 3) (by decide) hn (fun x => ev_var rfl) (fun x H1 => el_lst (ea_cons ev_c (ea_cons ev_c (ea_cons ev_c (ea_cons ev_c (ea_cons ev_c (ea_cons ev_c (ea_cons ev_c ea_nil))))))) (by show 7 ≤ 100000; decide)) (fun x => rfl) hP (fun x H1 => ev_var rfl) fun p H1 ws o1 p1 h1 l1 mem => ?_))
    obtain ⟨nm, ot, th, rfl⟩ : ∃ a b c, ws = [a, b, c] := by
      match ws, l1 with
      | [a, b, c], _ => exact ⟨a, b, c, rfl⟩
    have mn := mem nm (by simp)
    have mo := mem ot (by simp)
    have mt := mem th (by simp)
    refine ⟨p, _, rfl, sq_of h1, rfl, .str nm, _, rfl, .str ot, _, rfl, .str th, [], rfl, rfl, ?_⟩
    -- the value's word
    refine seq_of (asg_of (call_of (c_of (v_of rfl (c_of (lst_of ?_))))))
    refine c_of (v_of rfl (c_of (k_of ?_)))
    refine c_of (k_of (c_of (k_of (c_of (k_of (c_of (k_of ?_)))))))
    refine c_of (cb_of (c_of (call_of (c_of (v_of rfl (c_of (op_of (k_of (k_of ⟨10, 9, rfl, rfl, ⟨by decide, by decide, by decide⟩, n_of ?_⟩)))))))))
    refine ⟨d, n + 3, _, rfl, p1, by omega, by decide, by decide, fun H2 r2 o2 p2 l2 u2 => n_of ⟨r2, rfl, ?_, n_of ⟨by show 7 ≤ sizeLine; decide, fun q2 m2 => n_of ?_⟩⟩⟩
    · have e9 : (10 : Int) ^ (9 : Int).toNat = 1000000000 := by decide
      rw [e9] at u2
      exact log_small (by omega)
    have off2 := o1.trans o2
    refine ⟨d, q2, n + 3 + 1, _, rfl, p2.ex (Ex.new m2), by omega, p2.ne m2, upd_same, by show 0 < 7; decide, by show 7 ≤ 1000; decide, fun H3 x hx o3 p3 => ?_⟩
    have off3 := off2.trans ((Off.of (Ex.new m2)).trans o3)
    obtain ⟨wo, rfl, hw⟩ : ∃ wo : Str, x = .str wo ∧ isWo nm wo := by
      have e9 : (10 : Int) ^ (9 : Int).toNat = 1000000000 := by decide
      rw [e9] at u2
      simp only [List.mem_cons, List.not_mem_nil, or_false] at hx
      rcases hx with rfl | rfl | rfl | rfl | rfl | rfl | rfl
      · exact ⟨_, rfl, .inl rfl⟩
      · exact ⟨_, rfl, .inr (.inl (by simp))⟩
      · exact ⟨_, rfl, .inr (.inl (by simp))⟩
      · exact ⟨_, rfl, .inr (.inl (by simp))⟩
      · exact ⟨_, rfl, .inr (.inl (by simp))⟩
      · exact ⟨_, rfl, .inr (.inl (by simp))⟩
      · exact ⟨_, rfl, .inr (.inr ⟨r2, l2, u2, rfl⟩)⟩
    -- the number's word, the home
    try dsimp only
    refine seq_of (par_of (c_of (cb_of (c_of (call_of (c_of (v_of rfl (c_of (lst_of ?_)))))))))
    refine c_of (k_of (c_of (k_of (c_of (k_of (c_of (call_of (c_of (v_of rfl (c_of (k_of (n_of ?_))))))))))))
    refine ⟨d, n + 3 + 1 + 1, 10001, rfl, p3, by omega, by decide, by decide, fun H4 r4 o4 p4 l4 u4 => n_of ⟨by show 4 ≤ sizeLine; decide, fun q4 m4 => n_of ?_⟩⟩
    refine ⟨d, q4, n + 3 + 1 + 1 + 1, _, rfl, p4.ex (Ex.new m4), by omega, p4.ne m4, upd_same, by show 0 < 4; decide, by show 4 ≤ 1000; decide, fun H5 x hx o5 p5 => ?_⟩
    have off5 := (off3.trans o4).trans ((Off.of (Ex.new m4)).trans o5)
    obtain ⟨v5, rfl, l5, u5⟩ : ∃ m : Int, x = .int m ∧ 0 ≤ m ∧ m ≤ 10000 := by
      simp only [List.mem_cons, List.not_mem_nil, or_false] at hx
      rcases hx with rfl | rfl | rfl | rfl
      · exact ⟨_, rfl, by decide, by decide⟩
      · exact ⟨_, rfl, by decide, by decide⟩
      · exact ⟨_, rfl, by decide, by decide⟩
      · exact ⟨_, rfl, l4, by omega⟩
    refine n_of ⟨v5, rfl, log_small (by omega), ?_⟩
    refine c_of (rd_of (d := d) (ev_var rfl) p5 (by omega) (el_lst (vs := homes2.map V.str) (ea_cons ev_c (ea_cons ev_c ea_nil)) (by show 2 ≤ 100000; decide)) (by decide) (by decide) fun H6 x hx o6 p6 => n_of ⟨_, _, rfl, ?_⟩)
    obtain ⟨ho, hh, rfl⟩ := List.mem_map.mp hx
    have off6 := off5.trans o6
    have hnu : isNu 10000 (toString v5 : String) := ⟨v5, l5, u5, rfl⟩
    generalize ((toString v5 : String) : Str) = nu at hnu ⊢
    try dsimp only
    -- the place, the call's name
    refine seq_of (par_of (c_of (op_of (op_of (v_of rfl (k_of ⟨_, _, rfl, rfl, sz2 (name_len mo) (show (("." : Str)).length ≤ 1 by decide), ?_⟩))))))
    refine cb_of (c_of (call_of (c_of (v_of rfl (c_of (k_of (n_of ⟨d, _, 6, rfl, p6, by omega, by decide, by decide, fun H7 r7 o7 p7 l7 u7 => ?_⟩)))))))
    have hsp : isSp ot (ot ++ ("." : Str) ++ ((toString r7 : String) : Str)) := ⟨r7, l7, u7, rfl⟩
    refine n_of ⟨r7, rfl, log_small (by omega), _, _, rfl, rfl, sz2 (n := 9) (m := 11) (by rw [strLen_append]; have := name_len mo; show _ + 1 ≤ 9; omega) (int_len r7 (by omega)), ?_⟩
    have off7 := off6.trans o7
    generalize ot ++ ("." : Str) ++ ((toString r7 : String) : Str) = sp at hsp ⊢
    refine c_of (rd_of (d := d) (ev_var rfl) p7 (by omega) (el_lst (vs := calls3.map V.str) (ea_cons ev_c (ea_cons ev_c (ea_cons ev_c ea_nil))) (by show 3 ≤ 100000; decide)) (by decide) (by decide) fun H8 x hx o8 p8 => n_of ⟨_, _, rfl, ?_⟩)
    obtain ⟨ca, hc, rfl⟩ := List.mem_map.mp hx
    have off8 := off7.trans o8
    try dsimp only
    -- what is read
    have lwo := wo_len mn hw
    have lsp := sp_len mo hsp
    have lot := name_len mo
    have lth := name_len mt
    have lnm := name_len mn
    have lho := home_len hh
    have lca := call_len hc
    have lnu := nu_len (by decide) hnu
    refine seq_of (asg_of (el_lst (vs := (readsOf wo sp ot th).map V.str) (ea_cons (ev_var rfl) (ea_cons (ev_var rfl) (ea_cons (es_cat (es_c 4) (es_v rfl lot)).1 (ea_cons (es_cat (es_cat (es_v rfl lot) (es_c 4)) (es_v rfl lth)).1 ea_nil)))) (by show 4 ≤ 100000; decide) H8 (Ex.refl H8) _ fun pr H9 n9 e9 h9 => ?_))
    have off9 := off8.trans (Off.of e9)
    have p9 := p8.ex e9
    try dsimp only
    -- what is made
    refine seq_of (asg_of (lst_of (c_of (op_of ((es_cat (es_cat (es_c 7) (es_v rfl lho)) (es_c 1)).at fun H10 e10 => cb_of (c_of (call_of (c_of (v_of rfl (c_of (k_of (n_of ⟨d, _, 7, rfl, p9.ex e10, by omega, by decide, by decide, fun H11 k11 o11 p11 l11 u11 => ?_⟩))))))))))))
    have lrec : (("record " : Str) ++ ho ++ (" " : Str)).length ≤ 7 + 7 + 1 := le_app (le_app (by decide) lho) (by decide)
    refine n_of ⟨k11, rfl, log_small (by omega), _, _, rfl, rfl, sz2 lrec (int_len k11 (by omega)), ?_⟩
    have hk : isNu 6 (toString k11 : String) := ⟨k11, l11, by omega, rfl⟩
    have lm0 : (("record " : Str) ++ ho ++ (" " : Str) ++ ((toString k11 : String) : Str)).length ≤ 7 + 7 + 1 + 11 := le_app lrec (int_len k11 (by omega))
    generalize ((toString k11 : String) : Str) = kw at hk lm0 ⊢
    have off11 := (off9.trans (Off.of e10)).trans o11
    refine (ea_cons (es_cat (es_cat (es_cat (es_c 5) (es_v rfl lho)) (es_c 1)) (es_v rfl lot)).1 (ea_cons (es_cat (es_c 4) (es_v rfl lho)).1 ea_nil)) H11 (Ex.refl H11) _ fun H12 e12 => ⟨by show 3 ≤ sizeLine; decide, fun pm nm12 => ?_⟩
    have p12 := p11.ex e12
    have dm := p12.ne nm12
    have lkw := nu_len (by decide) hk
    have offm := off11.trans (Off.of e12)
    have hpm : H pm = none := by
      cases z : H pm with
      | none => rfl
      | some o =>
        have dd : pm ≠ d := dm
        rw [offm pm o dd z] at nm12
        cases nm12
    have hr12 : H12 pr = some (.lst ((readsOf wo sp ot th).map V.str)) := e12 _ _ (o11 _ _ (p8.ne n9) (e10 _ _ h9))
    have rm : pr ≠ pm := ne_of_none hr12 nm12
    have hm : (upd H12 pm (.lst ((madeOf ho kw ot).map V.str))) pm = some (.lst ((madeOf ho kw ot).map V.str)) := upd_same
    have hr13 := (Ex.new (o := .lst ((madeOf ho kw ot).map V.str)) nm12) _ _ hr12
    have p13 := p12.ex (Ex.new (o := .lst ((madeOf ho kw ot).map V.str)) nm12)
    have off13 : Off d H (upd H12 pm (.lst ((madeOf ho kw ot).map V.str))) := off_mut offm hpm
    change tSeq _ _ _ _ (upd H12 pm (.lst ((madeOf ho kw ot).map V.str)))
    generalize upd H12 pm (.lst ((madeOf ho kw ot).map V.str)) = G at hm hr13 p13 off13 ⊢
    refine q_app hm (ev_var rfl) (es_cat (es_cat ⟨ev_op (ev_var rfl) ev_c (rv_ixL (sq_of hm) (atI_nat (j := 0) rfl)), lm0⟩ (es_c 6)) (es_v rfl lca)).1 (by show 3 < 100000; decide) fun H14 e14 => ?_
    have hm14 : (upd H14 pm (.lst ((made4 ho kw ot ca).map V.str))) pm = some (.lst ((made4 ho kw ot ca).map V.str)) := upd_same
    have hr14 : (upd H14 pm (.lst ((made4 ho kw ot ca).map V.str))) pr = some (.lst ((readsOf wo sp ot th).map V.str)) := by
      rw [upd_ne rm]
      exact e14 _ _ hr13
    have p14 : Pot (upd H14 pm (.lst ((made4 ho kw ot ca).map V.str))) d (n + 3 + 1 + 1 + 1 + 1 + 1 + 1 + 1 + 1) := by
      obtain ⟨g, b, c, h0, h⟩ := p13
      refine ⟨g, b, c, ?_, h.1, h.2.1, h.2.2.1, h.2.2.2.1, h.2.2.2.2.1, by have := h.2.2.2.2.2; omega⟩
      rw [upd_ne (Ne.symm dm)]
      exact e14 _ _ h0
    have off14 : Off d H (upd H14 pm (.lst ((made4 ho kw ot ca).map V.str))) := off_mut (off13.trans (Off.of e14)) hpm
    change tSeq _ _ _ _ (upd H14 pm (.lst ((made4 ho kw ot ca).map V.str)))
    generalize upd H14 pm (.lst ((made4 ho kw ot ca).map V.str)) = G2 at hm14 hr14 p14 off14 ⊢
    have dr : pr ≠ d := p8.ne n9
    refine seq_of (asg_of (lst_of (c_of (op_of ((es_cat (es_cat (es_c 4) (es_v rfl lnm)) (es_c 3)).at fun H15 e15 => rd_of (d := d) (ev_var rfl) (p14.ex e15) (by omega) (el_cat (ev_var rfl) (ev_var rfl) (e15 _ _ hr14) (e15 _ _ hm14) (by show 4 + 4 ≤ 10000; decide)) (by show 0 < 8; decide) (by show 8 ≤ 1000; decide) fun H16 x hx o16 p16 => ?_)))))
    obtain ⟨l, hl, rfl⟩ : ∃ l, l ∈ readsOf wo sp ot th ++ made4 ho kw ot ca ∧ x = .str l := by
      rcases List.mem_append.mp hx with h | h
      · obtain ⟨y, hy, rfl⟩ := List.mem_map.mp h
        exact ⟨y, List.mem_append_left _ hy, rfl⟩
      · obtain ⟨y, hy, rfl⟩ := List.mem_map.mp h
        exact ⟨y, List.mem_append_right _ hy, rfl⟩
    have ll : l.length ≤ 50 := by
      rcases List.mem_append.mp hl with h | h
      · exact reads_len lwo lsp lot lth h
      · exact made_len lho lkw lot lca h
    refine ⟨_, _, rfl, rfl, sz2 (le_app (le_app (show (("let " : Str)).length ≤ 4 by decide) lnm) (show ((" = " : Str)).length ≤ 3 by decide)) ll, ?_⟩
    have off16 := off14.trans ((Off.of e15).trans o16)
    refine c_of (op_of (k_of (rd_ofV (d := d) rfl rfl p16 (by omega) dr (o16 _ _ dr (e15 _ _ hr14)) (by show 0 < 4; decide) (by show 4 ≤ 1000; decide) fun H17 y hy o17 p17 => ?_)))
    obtain ⟨sx, hs, rfl⟩ := List.mem_map.mp hy
    have ls : sx.length ≤ 50 := reads_len lwo lsp lot lth hs
    refine ⟨_, _, rfl, rfl, sz2 (show (("say " : Str)).length ≤ 4 by decide) ls, ?_⟩
    have off17 := off16.trans o17
    refine (ea_cons (es_cat (es_c 5) (es_v rfl lnm)).1 ea_nil) H17 (Ex.refl H17) _ fun H18 e18 => ⟨by show 3 ≤ sizeLine; decide, fun q18 n18 => ?_⟩
    have p18 := p17.ex e18
    have d18 := p18.ne n18
    have off19 := (off17.trans (Off.of e18)).trans (Off.of (Ex.new (o := .lst ((rowsA nm l sx).map V.str)) n18))
    have p19 := p18.ex (Ex.new (o := .lst ((rowsA nm l sx).map V.str)) n18)
    have h19 : (upd H18 q18 (.lst ((rowsA nm l sx).map V.str))) q18 = some (.lst ((rowsA nm l sx).map V.str)) := upd_same
    try dsimp only
    change tSeq _ _ _ _ (upd H18 q18 (.lst ((rowsA nm l sx).map V.str)))
    generalize upd H18 q18 (.lst ((rowsA nm l sx).map V.str)) = G3 at off19 p19 h19 ⊢
    -- the further rows
    refine seq_of (asg_of (el_catL (ys := (rowsB nm sp wo).map V.str) (ev_var rfl) (el_lst (ea_cons (es_cat (es_c 5) (es_v rfl lnm)).1 (ea_cons (es_cat (es_c 8) (es_v rfl lnm)).1 (ea_cons (es_cat (es_c 4) (es_v rfl lnm)).1 (ea_cons (es_cat (es_c 6) (es_v rfl lnm)).1 (ea_cons (es_cat (es_cat (es_v rfl lsp) (es_c 3)) (es_v rfl lwo)).1 ea_nil))))) (by show 5 ≤ 100000; decide)) h19 (by show 3 + 5 ≤ 10000; decide) G3 (Ex.refl G3) _ fun q20 H20 n20 e20 h20 => ?_))
    try dsimp only
    refine seq_of (asg_of (el_catL (ys := (rowsC ot th wo).map V.str) (ev_var rfl) (el_lst (ea_cons (es_cat (es_cat (es_cat (es_cat (es_v rfl lot) (es_c 4)) (es_v rfl lth)) (es_c 3)) (es_v rfl lwo)).1 (ea_cons (es_cat (es_cat (es_cat (es_c 3) (es_v rfl lwo)) (es_c 4)) (es_v rfl lth)).1 (ea_cons ev_c (ea_cons ev_c ea_nil)))) (by show 4 ≤ 100000; decide)) h20 (by show 8 + 4 ≤ 10000; decide) H20 (Ex.refl H20) _ fun q21 H21 n21 e21 h21 => ?_))
    try dsimp only
    refine seq_of (asg_of (el_catL (ys := (rowsD nu ca).map V.str) (ev_var rfl) (el_lst (ea_cons (es_cat (es_c 7) (es_v rfl lnu)).1 (ea_cons (es_cat (es_c 5) (es_v rfl lca)).1 (ea_cons (es_cat (es_cat (es_c 5) (es_v rfl lca)) (es_c 4)).1 (ea_cons (es_cat (es_c 3) (es_v rfl lca)).1 ea_nil)))) (by show 4 ≤ 100000; decide)) h21 (by show 12 + 4 ≤ 10000; decide) H21 (Ex.refl H21) _ fun q22 H22 n22 e22 h22 => ?_))
    try dsimp only
    have e1922 := (e20.trans e21).trans e22
    have off22 := off19.trans (Off.of e1922)
    have p22 := p19.ex e1922
    have d22 : q22 ≠ d := (p19.ex (e20.trans e21)).ne n22
    have hq22 : H q22 = none := by
      cases z : H q22 with
      | none => rfl
      | some o =>
        rw [(off19.trans (Off.of (e20.trans e21))) q22 o d22 z] at n22
        cases n22
    refine q_app h22 (ev_var rfl) (es_cat (es_cat (es_cat (es_c 3) (es_v rfl lca)) (es_c 1)) (es_v rfl lwo)).1 (by show 16 < 100000; decide) fun H23 e23 => ?_
    have off24 := off_mut (o := .lst ((rowsA nm l sx ++ rowsB nm sp wo ++ rowsC ot th wo ++ rowsD nu ca ++ [("do " : Str) ++ ca ++ (" " : Str) ++ wo]).map V.str)) (off22.trans (Off.of e23)) hq22
    have h24 : (upd H23 q22 (.lst ((rowsA nm l sx ++ rowsB nm sp wo ++ rowsC ot th wo ++ rowsD nu ca ++ [("do " : Str) ++ ca ++ (" " : Str) ++ wo]).map V.str))) q22 = some (.lst ((rowsA nm l sx ++ rowsB nm sp wo ++ rowsC ot th wo ++ rowsD nu ca ++ [("do " : Str) ++ ca ++ (" " : Str) ++ wo]).map V.str)) := upd_same
    have p24 : Pot (upd H23 q22 (.lst ((rowsA nm l sx ++ rowsB nm sp wo ++ rowsC ot th wo ++ rowsD nu ca ++ [("do " : Str) ++ ca ++ (" " : Str) ++ wo]).map V.str))) d (n + 3 + 1 + 1 + 1 + 1 + 1 + 1 + 1 + 1 + 1 + 1) := by
      obtain ⟨g, b, c, h0, h⟩ := p22
      refine ⟨g, b, c, ?_, h.1, h.2.1, h.2.2.1, h.2.2.2.1, h.2.2.2.2.1, by have := h.2.2.2.2.2; omega⟩
      rw [upd_ne (Ne.symm d22)]
      exact e23 _ _ h0
    change tSeq _ _ _ _ (upd H23 q22 (.lst ((rowsA nm l sx ++ rowsB nm sp wo ++ rowsC ot th wo ++ rowsD nu ca ++ [("do " : Str) ++ ca ++ (" " : Str) ++ wo]).map V.str)))
    generalize upd H23 q22 (.lst ((rowsA nm l sx ++ rowsB nm sp wo ++ rowsC ot th wo ++ rowsD nu ca ++ [("do " : Str) ++ ca ++ (" " : Str) ++ wo]).map V.str)) = G4 at off24 h24 p24 ⊢
    refine seq_of (asg_of (el_catL (ys := (rowsE nu).map V.str) (ev_var rfl) (el_lst (ea_cons ev_c (ea_cons (es_cat (es_c 6) (es_v rfl lnu)).1 (ea_cons ev_c (ea_cons (es_cat (es_c 6) (es_v rfl lnu)).1 (ea_cons (es_cat (es_c 8) (es_v rfl lnu)).1 (ea_cons ev_c (ea_cons ev_c ea_nil))))))) (by show 7 ≤ 100000; decide)) h24 (by show 17 + 7 ≤ 10000; decide) G4 (Ex.refl G4) _ fun q25 H25 n25 e25 h25 => ?_))
    try dsimp only
    rw [← List.map_append] at h25
    have off25 := off24.trans (Off.of e25)
    have p25 := p24.ex e25
    refine ret_of (rd_of (d := d) (ev_var rfl) p25 (by omega) (el_catL (ev_var rfl) (el_sl (ev_var rfl) eo_none (eo_some ev_c) (sq_of h25)) h25 ?_) ?_ ?_ fun H26 x hx o26 p26 => ?_)
    · have a := cutV_length ((rowsOf nm ot th wo nu ho sp ca l sx).map V.str) none (some 2)
      have b : ((rowsOf nm ot th wo nu ho sp ca l sx).map V.str).length = 24 := by rw [List.length_map, rows_len]
      show ((rowsOf nm ot th wo nu ho sp ca l sx).map V.str).length + (cutV ((rowsOf nm ot th wo nu ho sp ca l sx).map V.str) none (some 2)).length ≤ 10000
      omega
    · show 0 < (((rowsOf nm ot th wo nu ho sp ca l sx).map V.str) ++ _).length
      rw [List.length_append, List.length_map, rows_len]
      omega
    · exact Nat.le_trans (two_len (xs := (rowsOf nm ot th wo nu ho sp ca l sx).map V.str) (n := 24) (by rw [List.length_map, rows_len]) _ _) (by decide)
    obtain ⟨r, hr, rfl⟩ : ∃ r, r ∈ rowsOf nm ot th wo nu ho sp ca l sx ∧ x = .str r := by
      rcases List.mem_append.mp hx with h | h
      · obtain ⟨y, hy, rfl⟩ := List.mem_map.mp h
        exact ⟨y, hy, rfl⟩
      · obtain ⟨y, hy, rfl⟩ := List.mem_map.mp (mem_cut h)
        exact ⟨y, hy, rfl⟩
    exact q H26 r ⟨nm, ot, th, wo, nu, ho, sp, ca, kw, l, sx, mn, mo, mt, hw, hnu, hh, hsp, hc, hk, hl, hs, hr⟩ (off25.trans o26) (p26.up (by omega))
end
end Pf
/-! what repr may show (as in SkFit, without what is drawn), and ints of many digits -/
namespace Sn
open PySem PySem.Spec PyProof.Rows L2 Evl Gd
/-- may be shown by repr: depth at most k, at most L signs -/
structure Fit (d : PyData) (k L : Nat) : Prop where
  sh : d.showable = true
  nd : d.hasDict = false
  dp : d.depth ≤ k
  ln : d.shown.length ≤ L
structure FitAll (ds : List PyData) (k L : Nat) : Prop where
  sh : PyData.showableAll ds = true
  nd : PyData.hasDictAll ds = false
  dp : PyData.depthAll ds ≤ k
  ln : piled (PyData.shownAll ds) ≤ L
theorem Fit.up {d : PyData} {k L k' L' : Nat} (h : Fit d k L) (a : k ≤ k') (b : L ≤ L') : Fit d k' L' := ⟨h.sh, h.nd, Nat.le_trans h.dp a, Nat.le_trans h.ln b⟩
theorem FitAll.nil {k L : Nat} : FitAll [] k L := ⟨rfl, rfl, Nat.zero_le _, Nat.zero_le _⟩
theorem FitAll.cons {d : PyData} {ds : List PyData} {k a b L : Nat} (h : Fit d k a) (g : FitAll ds k b) (e : a + 2 + b ≤ L) : FitAll (d :: ds) k L := by
  refine ⟨?_, ?_, ?_, ?_⟩
  · rw [PyData.showableAll, h.sh, g.sh]
    rfl
  · rw [PyData.hasDictAll, h.nd, g.nd]
    rfl
  · rw [PyData.depthAll]
    have := h.dp
    have := g.dp
    omega
  · rw [PyData.shownAll, piled_cons]
    have := h.ln
    have := g.ln
    omega
theorem FitAll.map {α : Type} {f : α → PyData} {k a : Nat} : ∀ {l : List α}, (∀ x ∈ l, Fit (f x) k a) → FitAll (l.map f) k ((a + 2) * l.length)
  | [], _ => .nil
  | x :: l, h => by
    refine FitAll.cons (h x List.mem_cons_self) (FitAll.map fun y hy => h y (List.mem_cons_of_mem _ hy)) ?_
    rw [List.length_cons, Nat.mul_succ]
    omega
theorem FitAll.up {ds : List PyData} {k L k' L' : Nat} (h : FitAll ds k L) (a : k ≤ k') (b : L ≤ L') : FitAll ds k' L' := ⟨h.sh, h.nd, Nat.le_trans h.dp a, Nat.le_trans h.ln b⟩
theorem FitAll.tup {ds : List PyData} {k L : Nat} (h : FitAll ds k L) : Fit (.tuple ds) (k + 1) (L + 2) := by
  refine ⟨?_, ?_, ?_, ?_⟩
  · rw [PyData.showable]
    exact h.sh
  · rw [PyData.hasDict]
    exact h.nd
  · rw [PyData.depth]
    have := h.dp
    omega
  · rw [PyData.shown]
    have := fmt_text (PyData.shownAll ds)
    have := h.ln
    omega
theorem FitAll.lst {ds : List PyData} {k L : Nat} (h : FitAll ds k L) : Fit (.list ds) (k + 1) (L + 3) := by
  refine ⟨?_, ?_, ?_, ?_⟩
  · rw [PyData.showable]
    exact h.sh
  · rw [PyData.hasDict]
    exact h.nd
  · rw [PyData.depth]
    have := h.dp
    omega
  · rw [PyData.shown]
    have h1 := listText_len_le (PyData.shownAll ds)
    have h2 := h.ln
    have h3 : ∀ ts : List Str, (ts.map (·.length)).sum + 2 * ts.length = piled ts := by
      intro ts
      induction ts with
      | nil => rfl
      | cons t ts ih =>
        rw [piled_cons, List.map_cons, List.sum_cons, List.length_cons, ← ih]
        omega
    rw [h3] at h1
    omega
theorem fit_int {i : Int} (h : 0 ≤ i ∧ i ≤ 1000) : Fit (.int i) 0 10 := by
  have hb : i.natAbs < 10 ^ 9 := by omega
  refine ⟨?_, rfl, Nat.le_refl _, int_len hb⟩
  have := ints_show [i] (fun m hm => by rw [List.mem_singleton.mp hm]; exact hb)
  rw [List.map_cons, List.map_nil, PyData.showableAll, PyData.showableAll, Bool.and_true] at this
  exact this
theorem fit_none : Fit .none 0 10 := ⟨rfl, rfl, Nat.le_refl _, by decide +kernel⟩
theorem fit_str {z : Str} {L : Nat} (h : (PyData.shown (.str z)).length ≤ L) : Fit (.str z) 0 L := ⟨rfl, rfl, Nat.le_refl _, h⟩
/-- an int below 10 ^ 120 -/
theorem fit_wide {i : Int} (h : i.natAbs < 10 ^ 120) : Fit (.int i) 0 121 := by
  refine ⟨?_, rfl, Nat.le_refl _, ?_⟩
  · rw [PyData.showable]
    refine decide_eq_true ?_
    by_cases z : i.natAbs = 0
    · rw [z]
      decide
    · exact Nat.lt_of_lt_of_le ((Nat.log2_lt z).mpr (Nat.lt_of_lt_of_le h (by decide : (10 : Nat) ^ 120 ≤ 2 ^ 400))) (by decide)
  · have e := int_text_length_le10 (a := i) (k := 120) (by decide) h
    rw [PyData.shown, PySem.ofString_length]
    exact e
/-- an int of at most three digits -/
theorem fit_small {i : Int} (h : -1000 ≤ i ∧ i ≤ 1000) : Fit (.int i) 0 10 := by
  have hb : i.natAbs < 10 ^ 9 := by omega
  refine ⟨?_, rfl, Nat.le_refl _, int_len hb⟩
  have := ints_show [i] (fun m hm => by rw [List.mem_singleton.mp hm]; exact hb)
  rw [List.map_cons, List.map_nil, PyData.showableAll, PyData.showableAll, Bool.and_true] at this
  exact this
theorem fit_ints {ns : List Int} (h : ∀ n ∈ ns, 0 ≤ n ∧ n ≤ 1000) (l : ns.length ≤ 1000) : Fit (.tuple (ns.map .int)) 1 12002 := (FitAll.map fun n hn => fit_int (h n hn)).tup.up (by decide) (by omega)
theorem rep_of {K : PySem.W.Frag} {x : V} {e : PyData} {H : Hp} {Q : VK} {k L : Nat} (h : Dp K H x e) (f : Fit e k L) (k1 : k ≤ 40) (l1 : L ≤ 90000) (q : Q (.str e.shown) H) : rReprD K [x] H Q :=
  ⟨x, e, rfl, h, f.sh, f.nd, Nat.le_trans f.dp k1, Nat.le_trans (Nat.le_trans f.ln l1) (by rw [sizeLine_eq]; decide), q⟩
end Sn
namespace Pf
open PySem PySem.Spec PyProof.Rows L2 Evl Gd Sn
abbrev sRight : Stmt := topS 45
abbrev nRight : List Str := ["_law_pot_here", "_law_turn", "_law_lines", "_law_due", "_law_page", "_law_again", "_law_row"]
theorem scRight : FnScope nRight ["_law_pot_here"] (defScope sRight) := ⟨rfl, rfl, rfl, by decide +kernel, rfl, by decide +kernel, by decide +kernel⟩
def spRight : L2.Sp := fun vs H Q _ => ∃ (d : Addr) (n : Int), vs = [.ref d] ∧ Pot H d n ∧ n ≤ 100000 ∧ ∀ H', Off d H H' → Pot H' d (n + 20000) → Q (.bl true) H'
theorem fit_text {ps : List (List Str)} (h : Page ps) : Fit (.str (textOf ps)) 0 400000 := fit_str (by
  rw [PyData.shown_str]
  have := StrLaws.reprText_len (textOf ps) (text_codes h)
  have := text_len h
  omega)
theorem fit_due {ps : List (List Str)} (h : Page ps) : Fit (.tuple (ps.map dRow)) 2 400000 := by
  refine (FitAll.map (k := 1) (a := 3300) fun ws hw => ?_).tup.up (by decide) (by have := h.few; omega)
  have g := h.good ws hw
  refine (FitAll.map (k := 0) (a := 402) fun w m => fit_str ?_).tup.up (by decide) (by have := g.few; omega)
  rw [PyData.shown_str]
  have := StrLaws.reprText_len w (g.clean w m).2.2.2
  have := (g.clean w m).2.2.1
  omega
theorem rep2_of {K : PySem.W.Frag} {x : V} {e : PyData} {H : Hp} {Q : VK} {k : Nat} (h : Dp K H x e) (f : Fit e k 400000) (k1 : k ≤ 40) (q : Q (.str e.shown) H) : rReprD K [x] H Q :=
  ⟨x, e, rfl, h, f.sh, f.nd, Nat.le_trans f.dp k1, Nat.le_trans f.ln (by rw [sizeLine_eq]; decide), q⟩
theorem same2 {x y : Str} (e : x = y) : (!decide (V.str x = V.str y)) = false := by rw [e, decide_eq_true rfl]; rfl
section
variable {P : Program} {w : World} {K : PySem.W.Frag} {mg : Str → Option Value} {base : Heap}
theorem ok_right {f fT fO fR fS fD : Addr} {fd fdT fdO fdR fdS fdD : FuncData} (F : Fun K "_law_right" "_law_right" sRight f fd) (FT : Fun K "_law_take" "_law_take" sTake fT fdT) (FO : Fun K "_law_of" "_law_of" sOf fO fdO) (FR : Fun K "_law_form_row" "_law_form_row" sRow fR fdR) (FS : Fun K "show_script" "show_script" sShow fS fdS) (FD : Fun K "read_script" "read_script" sRead fD fdD)
    (bT : Binds K fdT ["_law_pot_here", "_law_many"] []) (bO : Binds K fdO ["_law_pot_here", "_law_some"] []) (bR : Binds K fdR ["_law_pot_here"] []) (bS : Binds K fdS ["rows"] []) (bD : Binds K fdD ["text"] []) (kS : KBinds K fdS ["rows"] ["rows"] (· ++ ·) (· ++ ·)) (kD : KBinds K fdD ["text"] ["text"] (· ++ ·) (· ++ ·))
    (gT : mg "_law_take" = some (.ref fT)) (gO : mg "_law_of" = some (.ref fO)) (gR : mg "_law_form_row" = some (.ref fR)) (gS : mg "show_script" = some (.ref fS)) (gD : mg "read_script" = some (.ref fD)) (mP : mg "repr" = none) (mT : mg "tuple" = none) (mR : mg "range" = none) (mL : mg "len" = none)
    (GR' : FnOk P w K mg base CX0 3 fR fdR ["_law_pot_here"] spRow) (GS' : FnOk P w K mg base CX0 1 fS fdS ["rows"] (spShow K)) (GD : FnOk P w K mg base CX0 8 fD fdD ["text"] (spRead K)) : FnG P w K mg base CX0 9 f fd ["_law_pot_here"] spRight := by
  have GT : FnOk P w K mg base CX0 8 fT fdT ["_law_pot_here", "_law_many"] spTake := (ok_take FT).mono (by decide)
  have GO : FnOk P w K mg base CX0 8 fO fdO ["_law_pot_here", "_law_some"] spOf := (ok_of FO FT bT gT mL).mono (by decide)
  have GR : FnOk P w K mg base CX0 8 fR fdR ["_law_pot_here"] spRow := GR'.mono (by decide)
  have GS : FnOk P w K mg base CX0 8 fS fdS ["rows"] (spShow K) := GS'.mono (by decide)
  refine fng0_of F scRight (fun vs H Q E h => ?_) (fun cdv A outer s H vs Q E hr gd h => ?_)
  · obtain ⟨d, n, rfl, _⟩ := h
    rfl
  · obtain ⟨d, n, rfl, pot, hn, q⟩ := h
    refine ⟨_, pss_cons (ps_for PassesOwn.never rfl (pi_range1 (by rfl) mR (pa_cons pe_int pa_nil)) (pg_name (i := 1) scRight.nd rfl (.inl rfl))
        (pss_cons (ps_setLc (i := 2) (own := [("_law_again", 5)]) (g := gName 5) (tt := tYes) (te := tCall spRow [] E0 (tCons (tVar 0) tNil)) rfl scRight.nd rfl rfl (sw_true rfl rfl rfl (by decide +kernel)) (pi_range1 (by rfl) mR (pa_cons (pe_call GO hr (by rfl) gO FO.kp bO .nil pass0 (pa_cons (pv 0) <| pa_cons (pe_lst (pa_cons pe_int <| pa_cons pe_int <| pa_cons pe_int <| pa_cons (pe_call GT hr (by rfl) gT FT.kp bT .nil pass0 (pa_cons (pv 0) <| pa_cons pe_int pa_nil)) pa_nil)) pa_nil)) pa_nil)) (blkOk_by (N := nRight) (sc := defScope sRight) (by decide +kernel))
            (fun _ _ _ _ _ => pg_name (i := 5) scRight.nd rfl (.inl rfl)) (fun _ _ _ _ _ => pts_nil) (fun _ _ _ _ _ => pe_call GR hr (by rfl) gR FR.kp bR .nil pass0 (pa_cons (pv 0) pa_nil))) <|
        pss_cons (ps_set (i := 3) scRight.nd rfl (.inl rfl) (pe_callTy call_tuple_of (by rfl) mT (by decide +kernel) (pa_cons (pe_lc (own := [("_law_row", 6)]) (g := gName 6) (tt := tYes) (te := tCB (rTupOf K) (tCons (tM1 (fun x xs H Q => ∃ a b, x = .str a ∧ xs = [.str b] ∧ (b.length == 0) = false ∧ a.length + 2 ≤ sizeLine ∧ rNewStrs (Txt.split a b) H Q) (tVar 6) (tC (.str " "))) tNil)) rfl scRight.nd (pi_list (pv 2)) (blkOk_by (N := nRight) (sc := defScope sRight) (by decide +kernel))
            (fun _ _ _ _ _ => pg_name (i := 6) scRight.nd rfl (.inl rfl)) (fun _ _ _ _ _ => pts_nil) (fun _ _ _ _ _ => pe_callTy call_tuple_of (by rfl) mT (by decide +kernel) (pa_cons (pe_split (pv 6) pe_str) pa_nil))) pa_nil))) <|
        pss_cons (ps_set (i := 4) scRight.nd rfl (.inl rfl) (pe_join pe_str (pv 2))) <|
        pss_cons (ps_if (pw_or (pt_cmpR op_ne (pe_callB (call_reprD gd hr.units) (by rfl) mP boot_repr (pa_cons (pe_call GS hr (by rfl) gS FS.kp bS .nil pass0 (pa_cons (pv 3) pa_nil)) pa_nil)) (pe_callB (call_reprD gd hr.units) (by rfl) mP boot_repr (pa_cons (pv 4) pa_nil)) (nomark _)) (pw_or1 (pt_cmpR op_ne (pe_callB (call_reprD gd hr.units) (by rfl) mP boot_repr (pa_cons (pe_call GD hr (by rfl) gD FD.kp bD .nil pass0 (pa_cons (pv 4) pa_nil)) pa_nil)) (pe_callB (call_reprD gd hr.units) (by rfl) mP boot_repr (pa_cons (pv 3) pa_nil)) (nomark _)))).pt (pss_one (ps_ret pe_bl)) pss_nil) <|
        pss_cons (ps_if (pw_or (pt_cmpR op_ne (pe_call GS hr (by rfl) gS FS.kp bS .nil pass0 (pa_cons (pe_call GD hr (by rfl) gD FD.kp bD .nil pass0 (pa_cons (pv 4) pa_nil)) pa_nil)) (pv 4) (nomark _)) (pw_or1 (pt_cmpR op_ne (pe_callB (call_reprD gd hr.units) (by rfl) mP boot_repr (pa_cons (pe_kwOnly GD hr (by rfl) gD FD.kp kD pass0 (pk_cons (pv 4) pk_nil)) pa_nil)) (pe_callB (call_reprD gd hr.units) (by rfl) mP boot_repr (pa_cons (pv 3) pa_nil)) (nomark _)))).pt (pss_one (ps_ret pe_bl)) pss_nil) <|
        pss_one (ps_if (pt_cmpR op_ne (pe_kwOnly GS hr (by rfl) gS FS.kp kS pass0 (pk_cons (pv 3) pk_nil)) (pv 4) (nomark _)) (pss_one (ps_ret pe_bl)) pss_nil))) <|
      pss_one (ps_ret pe_bl), ?_⟩
    refine seq_of (for_of (r1_of (c_of (k_of (n_of ⟨12, rfl, by decide, by decide, for_range (lo := 0) (n := 12) (fun i σ' H' => ∃ y1 y2 y3 y4, σ' = [some (.ref d), y1, y2, y3, y4, none, none] ∧ Off d H H' ∧ Pot H' d (n + 1300 * (i : Int))) ⟨none, none, none, none, rfl, Off.refl d H, pot.up (by omega)⟩ ?_ ?_⟩)))))
    · rintro i σ' H1 hi ⟨y1, y2, y3, y4, rfl, o1, p1⟩
      dsimp only [gName]
      refine seq_of (asg_of (lc_of (r1_of (c_of (call_of (c_of (v_of rfl (c_of (lst_of (c_of (k_of (c_of (k_of (c_of (k_of (c_of (call_of (c_of (v_of rfl (c_of (k_of (n_of ⟨d, _, 61, rfl, p1, by omega, by decide, by decide, fun H2 r o2 p2 r0 r1 => n_of ⟨by show 4 ≤ sizeLine; decide, fun l hl => n_of ?_⟩⟩))))))))))))))))))))))
      have e2 : Ex H2 (upd H2 l (.lst [.int 0, .int 1, .int 6, .int r])) := Ex.new hl
      have nld : l ≠ d := fun e => by
        obtain ⟨g, b, m, h0, _⟩ := p2
        rw [e, h0] at hl
        cases hl
      refine ⟨d, l, _, _, rfl, p2.ex e2, by omega, nld, upd_same, by show 0 < 4; decide, by show 4 ≤ 1000; decide, fun H3 x hx o3 p3 => ?_⟩
      obtain ⟨m, rfl, m0, m1⟩ : ∃ m : Int, x = .int m ∧ 0 ≤ m ∧ m ≤ 60 := by
        simp only [List.mem_cons, List.not_mem_nil, or_false] at hx
        rcases hx with rfl | rfl | rfl | rfl
        · exact ⟨_, rfl, by decide, by decide⟩
        · exact ⟨_, rfl, by decide, by decide⟩
        · exact ⟨_, rfl, by decide, by decide⟩
        · exact ⟨_, rfl, r0, by omega⟩
      have o13 := ((o1.trans o2).trans (Off.of e2)).trans o3
      refine n_of ⟨m, rfl, by omega, by omega, fun D hD => ?_⟩
      have nDd : D ≠ d := fun e => by
        obtain ⟨g, b, m, h0, _⟩ := p3
        rw [e, h0] at hD
        cases hD
      refine lc_range (lo := 0) (n := m.toNat) (fun j H' => Off d H3 H' ∧ Pot H' d (n + 1300 * (i : Int) + 2 + 20 * (j : Int)) ∧ ∃ ps : List (List Str), H' D = some (.lst ((ps.map lineOf).map V.str)) ∧ ps.length = j ∧ ∀ ws ∈ ps, Good ws) ⟨Off.of (Ex.new hD), (p3.ex (Ex.new hD)).up (by omega), [], upd_same, rfl, fun ws h => absurd h List.not_mem_nil⟩ ?_ ?_
      · rintro j H' hj ⟨o, p, ps, hd, pl, g⟩
        refine ⟨rfl, ?_⟩
        dsimp only [tYes]
        rw [if_pos rfl]
        refine call_of (c_of (v_of rfl (n_of ⟨d, _, rfl, p, by omega, fun H4 r rt o4 p4 => ?_⟩)))
        obtain ⟨ws, gd, rfl⟩ := row_words rt
        have hd4 := o4 D _ nDd hd
        refine ⟨_, hd4, sz_lt (by rw [List.length_map, List.length_map]; omega), off_mut (o.trans o4) hD, ?_, ps ++ [ws], ?_, by rw [List.length_append, pl]; rfl, fun u hu => ?_⟩
        · obtain ⟨g', b, c, h0, h⟩ := p4
          refine ⟨g', b, c, ?_, h.1, h.2.1, h.2.2.1, h.2.2.2.1, h.2.2.2.2.1, by have := h.2.2.2.2.2; push_cast; omega⟩
          rw [upd_ne (Ne.symm nDd)]
          exact h0
        · rw [upd_same, List.map_append, List.map_append]
          rfl
        · rcases List.mem_append.mp hu with h | h
          · exact g u h
          · rw [List.mem_singleton.mp h]
            exact gd
      rintro H5 ⟨o5, p5, ps, hd, pl, g⟩
      have pg : Page ps := ⟨g, by omega⟩
      have o15 := o13.trans o5
      clear o5 o13 p3 o3 e2 p2 o2 p1 o1
      dsimp only
      -- what is due
      refine seq_of (asg_of (cb_of (c_of (lc_of (iL_of (v_of rfl ⟨D, rfl, ⟨_, sq_of hd⟩, fun D2 hD2 => lc_list (xs := (ps.map lineOf).map V.str) (fun i H' => Ex H5 H' ∧ ∃ us, H' D2 = some (.lst us) ∧ us.length = i ∧ TdAll K H' us ((ps.take i).map dRow)) ⟨Ex.new hD2, [], upd_same, rfl, .nil⟩ (fun i H' _ h => sq_of (h.1 _ _ hd)) ?_ ?_⟩))))))
      · rintro j x' H' hx ⟨e, us, hdu, ul, td⟩
        rw [List.getElem?_map, List.getElem?_map] at hx
        obtain ⟨ln, hl1, rfl⟩ := Option.map_eq_some_iff.mp hx
        obtain ⟨ws, hw, rfl⟩ := Option.map_eq_some_iff.mp hl1
        have gd' := pg.good ws (List.mem_of_getElem? hw)
        have ll := line_len gd'
        have il : j < ps.length := (List.getElem?_eq_some_iff.mp hw).1
        have fw := pg.few
        refine ⟨rfl, ?_⟩
        dsimp only [tYes]
        rw [if_pos rfl]
        refine cb_of (c_of (m1_of (v_of rfl ⟨⟨_, rfl⟩, k_of ⟨_, _, rfl, rfl, by decide +kernel, by rw [sizeLine_eq]; omega, fun p2 hp2 => n_of ⟨p2, _, rfl, .inl ⟨sq_of upd_same, fun t ht => ?_⟩⟩⟩⟩)))
        have sp : Txt.split (lineOf ws) " " = ws := gd'.split
        rw [sp] at ht ⊢
        have x1 : Ex H' (upd H' p2 (.lst (ws.map V.str))) := Ex.new hp2
        generalize upd H' p2 (.lst (ws.map V.str)) = Ha at x1 ht ⊢
        have x2 : Ex Ha (upd Ha t (.tup (ws.map V.str))) := Ex.new ht
        have y2 : (upd Ha t (.tup (ws.map V.str))) t = some (.tup (ws.map V.str)) := upd_same
        generalize upd Ha t (.tup (ws.map V.str)) = Hb at x2 y2 ⊢
        have hdb := (x1.trans x2) _ _ hdu
        refine ⟨us, hdb, sz_lt (by omega), Ex.mut (e.trans (x1.trans x2)) hD2, us ++ [.ref t], upd_same, by rw [List.length_append, ul]; rfl, ?_⟩
        have kt : KeepT K Hb (upd Hb D2 (.lst (us ++ [.ref t]))) := .lst hdb fun a o n h => by
          rw [upd_ne n]
          exact h
        rw [take_one hw, List.map_append]
        have tr : Td K Hb (.ref t) (dRow ws) := .tup (st_of y2) (td_strs ws)
        exact ((td.ex (x1.trans x2)).snoc tr).keep kt
      rintro H6 ⟨e6, us, hdu, ul, td0⟩
      rw [List.length_map, List.length_map, List.take_length] at td0
      refine n_of ⟨D2, us, rfl, .inl ⟨sq_of hdu, fun t ht => ?_⟩⟩
      have x7 : Ex H6 (upd H6 t (.tup us)) := Ex.new ht
      have td : Td K (upd H6 t (.tup us)) (.ref t) (.tuple (ps.map dRow)) := .tup (st_of upd_same) (td0.ex x7)
      generalize upd H6 t (.tup us) = H7 at x7 td ⊢
      have hd7 := (e6.trans x7) _ _ hd
      have p7 := p5.ex (e6.trans x7)
      have o7 := o15.trans (Off.of (e6.trans x7))
      clear x7 ht td0 hdu e6 p5 o15 hd hD2
      dsimp only
      have sl := sum_len (ws := ps.map lineOf) fun w hw => by
        obtain ⟨ws, hm, rfl⟩ := List.mem_map.mp hw
        exact Nat.le_trans (line_len (pg.good ws hm)) (by decide)
      rw [List.length_map] at sl
      have fw := pg.few
      refine seq_of (asg_of (m1_of (k_of ⟨⟨_, rfl⟩, v_of rfl ⟨_, D, ps.map lineOf, rfl, rfl, .inl (sq_of hd7), by rw [show ("\n" : Str).length = 1 from by decide +kernel, List.length_map]; omega, ?_⟩⟩)))
      rw [show Txt.join "\n" (ps.map lineOf) = textOf ps from rfl]
      dsimp only
      refine seq_of (ifS_of (or_of (test_of (op_of (cb_of (c_of (call_of (c_of (v_of rfl (n_of ⟨_, ps, rfl, pg, td, fun H8 e8 => n_of (rep2_of (.str _) (fit_text pg) (by decide) (cb_of (c_of (v_of rfl (n_of (rep2_of (.str (textOf ps)) (fit_text pg) (by decide) ⟨rfl, _, rfl, ?_⟩))))))⟩))))))))))
      rw [same2 rfl, if_neg Bool.false_ne_true]
      refine test_of (op_of (cb_of (c_of (call_of (c_of (v_of rfl (n_of ⟨ps, rfl, pg, fun H9 t9 e9 td9 => n_of (rep2_of td9.dp (fit_due pg) (by decide) (cb_of (c_of (v_of rfl (n_of (rep2_of (td.ex (e8.trans e9)).dp (fit_due pg) (by decide) ⟨rfl, _, rfl, ?_⟩))))))⟩)))))))
      rw [same2 rfl, if_neg Bool.false_ne_true]
      dsimp only [tNext]
      have tdA := td.ex (e8.trans e9)
      refine seq_of (ifS_of (or_of (test_of (op_of (call_of (c_of (call_of (c_of (v_of rfl (n_of ⟨ps, rfl, pg, fun HA tA eA td' => n_of ⟨_, ps, rfl, pg, td', fun HB eB => v_of rfl ⟨rfl, _, rfl, ?_⟩⟩⟩))))))))))
      rw [same2 rfl, if_neg Bool.false_ne_true]
      refine test_of (op_of (cb_of (c_of (callK_of (n_of (c_of (v_of rfl (n_of ⟨ps, rfl, pg, fun HC tC eC tdC => n_of (rep2_of tdC.dp (fit_due pg) (by decide) (cb_of (c_of (v_of rfl (n_of (rep2_of (tdA.ex ((eA.trans eB).trans eC)).dp (fit_due pg) (by decide) ⟨rfl, _, rfl, ?_⟩))))))⟩))))))))
      rw [same2 rfl, if_neg Bool.false_ne_true]
      dsimp only [tNext]
      have tdD := tdA.ex ((eA.trans eB).trans eC)
      refine ifS_of (test_of (op_of (callK_of (n_of (c_of (v_of rfl (n_of ⟨_, ps, rfl, pg, tdD, fun HE eE => v_of rfl ⟨rfl, _, rfl, ?_⟩⟩))))))) 
      rw [same2 rfl, if_neg Bool.false_ne_true]
      have e7E := ((((e8.trans e9).trans eA).trans eB).trans eC).trans eE
      exact ⟨_, _, _, _, rfl, o7.trans (Off.of e7E), (p7.ex e7E).up (by push_cast; omega)⟩
    · rintro σ' H' ⟨y1, y2, y3, y4, rfl, o1, p1⟩
      dsimp only
      exact ret_of (k_of (q H' o1 (p1.up (by omega))))
end
end Pf
namespace Pf
open PySem PySem.Spec PyProof.Rows L2 Evl Gd Sn
abbrev sLaw : Stmt := topS 46
abbrev nLaw : List Str := ["_law_script", "_law_k", "_law_pot_here"]
theorem scLaw : FnScope nLaw ["_law_script"] (defScope sLaw) := ⟨rfl, rfl, rfl, by decide +kernel, rfl, by decide +kernel, by decide +kernel⟩
def spLaw (K : PySem.W.Frag) : L2.Sp := fun vs H Q _ => ∃ (a : Addr) (ns : List Int), vs = [.ref a] ∧ SqL K H a (ns.map V.int) ∧ ns.length ≤ 63 ∧ ∀ H', Q (.bl true) H'
theorem Off.ex {d : Addr} {H H' : Hp} (o : Off d H H') (h : H d = none) : Ex H H' := fun a u ha => o a u (ne_of_none ha h) ha
section
variable {P : Program} {w : World} {K : PySem.W.Frag} {mg : Str → Option Value} {base : Heap}
theorem ok_law {f fJ fR : Addr} {fd fdJ fdR : FuncData} (F : Fun K "law" "law" sLaw f fd) (FJ : Fun K "_law_pot" "_law_pot" sSource fJ fdJ) (FR : Fun K "_law_right" "_law_right" sRight fR fdR)
    (bJ : Binds K fdJ ["_law_script", "_law_k"] []) (bR : Binds K fdR ["_law_pot_here"] [])
    (gJ : mg "_law_pot" = some (.ref fJ)) (gR : mg "_law_right" = some (.ref fR))
    (mL : mg "len" = none) (mR : mg "range" = none) (mX : mg "max" = none) (mN : mg "min" = none) (mB : mg "abs" = none) (mI : mg "int" = none)
    (GR : FnG P w K mg base CX0 9 fR fdR ["_law_pot_here"] spRight) : FnG P w K mg base CX0 10 f fd ["_law_script"] (spLaw K) := by
  have GJ : FnOk P w K mg base CX0 9 fJ fdJ ["_law_script", "_law_k"] (spSource K) := (ok_source FJ mL mB mI).mono (by decide)
  refine fng0_of F scLaw (fun vs H Q E h => ?_) (fun cdv A outer s H vs Q E hr gd h => ?_)
  · obtain ⟨a, ns, rfl, _⟩ := h
    rfl
  · obtain ⟨a, ns, rfl, hS, hlen, q⟩ := h
    refine ⟨_, pss_cons (ps_for PassesOwn.never rfl (pi_range1 (by rfl) mR (pa_cons (pe_callB (call_max2 rfl) (by rfl) mX boot_max (pa_cons pe_int (pa_cons (pe_callB (call_min2 rfl) (by rfl) mN boot_min (pa_cons pe_int (pa_cons (pe_callB call_len_seq (by rfl) mL PySem.boot_len (pa_cons (pv 0) pa_nil)) pa_nil))) pa_nil))) pa_nil)) (pg_name (i := 1) scLaw.nd rfl (.inl rfl))
        (pss_cons (ps_set (i := 2) scLaw.nd rfl (.inl rfl) (pe_call GJ hr (by rfl) gJ FJ.kp bJ .nil pass0 (pa_cons (pv 0) <| pa_cons (pv 1) pa_nil))) <|
        pss_one (ps_if (pt_not (pt_val (pe_callG GR hr gd (by rfl) gR FR.kp bR .nil pass0 (pa_cons (pv 2) pa_nil)))) (pss_one (ps_ret pe_bl)) pss_nil))) <|
      pss_one (ps_ret pe_bl), ?_⟩
    refine ⟨.ref a, rfl, a, _, rfl, .inl hS, 3, _, rfl, 1, _, rfl, _, rfl, ?_, ?_, ?_⟩
    · split <;> (try split) <;> omega
    · split <;> (try split) <;> omega
    have hn : (if (if ((ns.map V.int).length : Int) < 3 then ((ns.map V.int).length : Int) else 3) > 1 then (if ((ns.map V.int).length : Int) < 3 then ((ns.map V.int).length : Int) else 3) else 1).toNat ≤ 3 := by
      split <;> (try split) <;> omega
    refine for_range (lo := 0) (fun i σ' H' => ∃ y1 y2, σ' = [some (.ref a), y1, y2] ∧ Ex H H') ⟨_, _, rfl, Ex.refl H⟩ ?_ ?_
    · rintro i σ' H1' hi ⟨y1, y2, rfl, e1'⟩
      dsimp only [gName]
      refine seq_of (asg_of (call_of (c_of (v_of rfl (c_of (v_of rfl (n_of ⟨a, ns, 0 + (i : Int), rfl, ex_l e1' hS, hlen, by omega, by omega, fun H2' d e2' hd pot => ?_⟩)))))))
      have hdN : H d = none := fresh_back e1' hd
      dsimp only
      refine ifS_of (not_of (test_of (call_of (c_of (v_of rfl (n_of ⟨d, _, rfl, pot, by decide, fun H3 o3 p3 => ⟨true, rfl, ?_⟩⟩))))))
      rw [if_neg (show ¬ (!true) = true from Bool.false_ne_true)]
      exact ⟨_, _, rfl, ((Off.of (e1'.trans e2')).trans o3).ex hdN⟩
    · rintro σ' H' _
      exact q H'
end
end Pf
namespace Pf
open PySem PySem.Spec PyProof.Rows L2 Evl Gd Sn
/-- a def of the top, as the head finds it -/
structure At (K : PySem.W.Frag) (x : Str) (st : Stmt) (f : Addr) : Prop where
  nm : PySem.W.nsIn K mainGlobals x = some (some (.ref f))
  ex : ∃ (oc kV doc pm cdv ct : Value) (od an : Option Addr) (sl : Array (Option Value)), K.lookup f = some ⟨oc, od, .func (PySem.W.fnOf x x (defArgs st) (defBody st) (defScope st) .none kV doc pm an cdv ct), sl⟩ ∧ PySem.W.codeIn K cdv x = true
  kp : PySem.W.keepIn K (.ref f) = true
theorem At.of {K : PySem.W.Frag} {x : Str} {st : Stmt} {f : Addr} {oc kV doc pm cdv ct : Value} {od an : Option Addr} {sl : Array (Option Value)} (n : PySem.W.nsIn K mainGlobals x = some (some (.ref f))) (l : K.lookup f = some ⟨oc, od, .func (PySem.W.fnOf x x (defArgs st) (defBody st) (defScope st) .none kV doc pm an cdv ct), sl⟩)
    (c : PySem.W.codeIn K cdv x = true) (k : PySem.W.keepIn K (.ref f) = true) : At K x st f := ⟨n, ⟨oc, kV, doc, pm, cdv, ct, od, an, sl, l, c⟩, k⟩
theorem At.fn {K : PySem.W.Frag} {x : Str} {st : Stmt} {f : Addr} (a : At K x st f) : ∃ fd, Fun K x x st f fd := by
  obtain ⟨oc, kV, doc, pm, cdv, ct, od, an, sl, l, c⟩ := a.ex
  exact ⟨_, fun_mk l c a.kp⟩
/-- a method -/
structure AtM (K : PySem.W.Frag) (C : Addr) (x qual : Str) (st : Stmt) (f : Addr) : Prop where
  fi : PySem.W.findIn K (.ref C) x = some (some (.ref f))
  isf : PySem.W.isFn K (.ref f) = true
  ex : ∃ (oc kV doc pm cdv ct : Value) (od an : Option Addr) (sl : Array (Option Value)), K.lookup f = some ⟨oc, od, .func (PySem.W.fnOf x qual (defArgs st) (defBody st) (defScope st) .none kV doc pm an cdv ct), sl⟩ ∧ PySem.W.codeIn K cdv qual = true
  kp : PySem.W.keepIn K (.ref f) = true
theorem AtM.of {K : PySem.W.Frag} {C : Addr} {x qual : Str} {st : Stmt} {f : Addr} {oc kV doc pm cdv ct : Value} {od an : Option Addr} {sl : Array (Option Value)} (n : PySem.W.findIn K (.ref C) x = some (some (.ref f))) (i : PySem.W.isFn K (.ref f) = true) (l : K.lookup f = some ⟨oc, od, .func (PySem.W.fnOf x qual (defArgs st) (defBody st) (defScope st) .none kV doc pm an cdv ct), sl⟩)
    (c : PySem.W.codeIn K cdv qual = true) (k : PySem.W.keepIn K (.ref f) = true) : AtM K C x qual st f := ⟨n, i, ⟨oc, kV, doc, pm, cdv, ct, od, an, sl, l, c⟩, k⟩
theorem AtM.fn {K : PySem.W.Frag} {C : Addr} {x qual : Str} {st : Stmt} {f : Addr} (a : AtM K C x qual st f) : ∃ fd, Fun K x qual st f fd := by
  obtain ⟨oc, kV, doc, pm, cdv, ct, od, an, sl, l, c⟩ := a.ex
  exact ⟨_, fun_mk l c a.kp⟩
/-- the words about a class -/
structure ClsA (K : PySem.W.Frag) (x : Str) (C : Addr) : Prop where
  nm : PySem.W.nsIn K mainGlobals x = some (some (.ref C))
  pg : PySem.W.plainGet K C Str.empty = true
  hd : PySem.W.hasDictIn K C = true
  po : PySem.W.plainOver K C = true
  sa : PySem.W.findIn K (.ref C) "__setattr__" = some (some (.builtin "object.__setattr__"))
  mks : PySem.W.makesIn K C = true
  kc : PySem.W.keepIn K (.ref C) = true
theorem ClsA.cl {K : PySem.W.Frag} {x : Str} {C : Addr} (c : ClsA K x C) : Cls K C := ⟨c.pg, c.hd, c.po, c.sa⟩
theorem kb_one {K : PySem.W.Frag} {f : Addr} {fd : FuncData} {st : Stmt} {x p : Str} (F : Fun K x x st f fd) (h : ∀ (oc kV doc pm cdv ct : Value) (an : Option Addr) (s : Shared) (us ws : List Value), (us ++ ws).length = 1 → BindsTo s (PySem.W.fnOf x x (defArgs st) (defBody st) (defScope st) .none kV doc pm an cdv ct) ⟨us, ([p] : List Str).zip ws⟩ (([p] : List Str).zip (us ++ ws))) :
    KBinds K fd [p] [p] (· ++ ·) (· ++ ·) := by
  obtain ⟨⟨oc, od, kV, doc, pm, an, cdv, ct, osl, rfl, look, code⟩, _⟩ := F
  exact ⟨fun s us ws _ hl => h oc kV doc pm cdv ct an s us ws hl, fun r rz => r.append rz⟩
theorem str_is {a b : Str} (h : (a.cps == b.cps) = true) : a = b := Gd.str_ext (by rw [eq_of_beq h])
theorem top_ok {l : PySem.W.OpenLaw} {w : World} {K : PySem.W.Frag} {h : Heap} {mg : Str → Option Value} {fa f_law f__law_pot f__law_take f__law_of f__law_form_row f__law_right f_is_name f_is_local f_whole_of f_number_of f_value_of f_slot_of f_word_form f_asked_form f_record_form f_weak_form f_map_form f_let_form f_say_form f_name_form f_number_form f_bare_form f_if_form f_proc_form f_do_form f_store_form f_statement_of f_statements_of f_read_script f_show_script  : Addr} {dT dS dH dZ dM dF u1 u2 nn t8 t10 tmv tmn tmp s0 s1 s2 s3 s4 s5 z0 z1 z2 z3 z4 z5 z6 : Nat} (X : K.In h) (G : h.Ns mainGlobals mg) (hfa : mg "law" = some (.ref fa))
    (a_law : At K "law" sLaw f_law)
    (a__law_pot : At K "_law_pot" sSource f__law_pot)
    (a__law_take : At K "_law_take" sTake f__law_take)
    (a__law_of : At K "_law_of" sOf f__law_of)
    (a__law_form_row : At K "_law_form_row" sRow f__law_form_row)
    (a__law_right : At K "_law_right" sRight f__law_right)
    (a_is_name : At K "is_name" sIsName f_is_name)
    (a_is_local : At K "is_local" sIsLocal f_is_local)
    (a_whole_of : At K "whole_of" sWhole f_whole_of)
    (a_number_of : At K "number_of" sNumber f_number_of)
    (a_value_of : At K "value_of" sValue f_value_of)
    (a_slot_of : At K "slot_of" sSlot f_slot_of)
    (a_word_form : At K "word_form" sWord f_word_form)
    (a_asked_form : At K "asked_form" sAsked f_asked_form)
    (a_record_form : At K "record_form" sRec f_record_form)
    (a_weak_form : At K "weak_form" sWeak f_weak_form)
    (a_map_form : At K "map_form" sMap f_map_form)
    (a_let_form : At K "let_form" sLet f_let_form)
    (a_say_form : At K "say_form" sSay f_say_form)
    (a_name_form : At K "name_form" sName f_name_form)
    (a_number_form : At K "number_form" sNumF f_number_form)
    (a_bare_form : At K "bare_form" sBare f_bare_form)
    (a_if_form : At K "if_form" sIf f_if_form)
    (a_proc_form : At K "proc_form" sProc f_proc_form)
    (a_do_form : At K "do_form" sDo f_do_form)
    (a_store_form : At K "store_form" sStore f_store_form)
    (a_statement_of : At K "statement_of" sStat f_statement_of)
    (a_statements_of : At K "statements_of" sStats f_statements_of)
    (a_read_script : At K "read_script" sRead f_read_script)
    (a_show_script : At K "show_script" sShow f_show_script)
    (z_len : PySem.W.nsIn K mainGlobals "len" = some none)
    (z_abs : PySem.W.nsIn K mainGlobals "abs" = some none)
    (z_int : PySem.W.nsIn K mainGlobals "int" = some none)
    (z_range : PySem.W.nsIn K mainGlobals "range" = some none)
    (z_max : PySem.W.nsIn K mainGlobals "max" = some none)
    (z_min : PySem.W.nsIn K mainGlobals "min" = some none)
    (z_repr : PySem.W.nsIn K mainGlobals "repr" = some none)
    (z_tuple : PySem.W.nsIn K mainGlobals "tuple" = some none)
    (z_str : PySem.W.nsIn K mainGlobals "str" = some none)
    (z_all : PySem.W.nsIn K mainGlobals "all" = some none)
    (z_any : PySem.W.nsIn K mainGlobals "any" = some none)
    (z_isinstance : PySem.W.nsIn K mainGlobals "isinstance" = some none)
    (z_enumerate : PySem.W.nsIn K mainGlobals "enumerate" = some none)
    (gl_l : PySem.W.nsIn K mainGlobals "MOST_LETTERS" = some (some (.int 8 t8)))
    (gl_d : PySem.W.nsIn K mainGlobals "MOST_DIGITS" = some (some (.int 10 t10)))
    (gl_v : PySem.W.nsIn K mainGlobals "MOST_VALUE" = some (some (.int 1000000000 tmv)))
    (gl_n : PySem.W.nsIn K mainGlobals "MOST_NUMBER" = some (some (.int 10000 tmn)))
    (gl_p : PySem.W.nsIn K mainGlobals "MOST_PARAMETERS" = some (some (.int 4 tmp)))
    (gl_dT : PySem.W.nsIn K mainGlobals "TAKEN" = some (some (.ref dT)))
    (gl_dS : PySem.W.nsIn K mainGlobals "SLOTS" = some (some (.ref dS)))
    (gl_dH : PySem.W.nsIn K mainGlobals "HOMES" = some (some (.ref dH)))
    (gl_dZ : PySem.W.nsIn K mainGlobals "SIZES" = some (some (.ref dZ)))
    (gl_dM : PySem.W.nsIn K mainGlobals "MADE_FORMS" = some (some (.ref dM)))
    (gl_dF : PySem.W.nsIn K mainGlobals "FORMS" = some (some (.ref dF)))
    (dc_dT : He.dicW K dT = some (He.keysIn w.params ["none", "get", "at", "is", "then", "record", "weak", "map", "counted", "traced", "let", "drop", "hold", "release", "pin", "unpin", "say", "if", "else", "end", "repeat", "proc", "do", "minor", "rings", "begin", "slice", "compact", "finalize", "settle"]))
    (dc_dS : He.dicW K dS = some (He.keysIn w.params ["0", "1", "2", "3", "4", "5"]))
    (dc_dZ : He.dicW K dZ = some (He.keysIn w.params ["0", "1", "2", "3", "4", "5", "6"]))
    (dc_dM : He.dicW K dM = some (He.keysIn w.params ["record", "weak", "map"]))
    (dc_dF : He.dicW K dF = some (He.keysIn w.params ["let", "say", "drop", "hold", "release", "pin", "unpin", "if", "else", "end", "repeat", "proc", "do", "minor", "rings", "begin", "slice", "compact", "finalize", "settle"]))
    (tu_h : List.lookup dH K = some { cls := .type "tuple", data := .seq #[.str "counted" u1, .str "traced" u2] nn })
    (nt0 : PySem.W.nsIn K dT "a" = some none)
    (nt1 : PySem.W.nsIn K dT "b" = some none)
    (nt2 : PySem.W.nsIn K dT "x" = some none)
    (nt3 : PySem.W.nsIn K dT "G" = some none)
    (nt4 : PySem.W.nsIn K dT "Hello" = some none)
    (nt5 : PySem.W.nsIn K dT "abcdefgh" = some none)
    (nt6 : PySem.W.nsIn K dT "k" = some none)
    (nt7 : PySem.W.nsIn K dT "p" = some none)
    (nt8 : PySem.W.nsIn K dT "bye" = some none)
    (nt9 : PySem.W.nsIn K dT "y" = some none)
    (nt10 : PySem.W.nsIn K dT "z" = some none)
    (ns0 : PySem.W.nsIn K dS "0" = some (some (.int 0 s0)))
    (ns1 : PySem.W.nsIn K dS "1" = some (some (.int 1 s1)))
    (ns2 : PySem.W.nsIn K dS "2" = some (some (.int 2 s2)))
    (ns3 : PySem.W.nsIn K dS "3" = some (some (.int 3 s3)))
    (ns4 : PySem.W.nsIn K dS "4" = some (some (.int 4 s4)))
    (ns5 : PySem.W.nsIn K dS "5" = some (some (.int 5 s5)))
    (nz0 : PySem.W.nsIn K dZ "0" = some (some (.int 0 z0)))
    (nz1 : PySem.W.nsIn K dZ "1" = some (some (.int 1 z1)))
    (nz2 : PySem.W.nsIn K dZ "2" = some (some (.int 2 z2)))
    (nz3 : PySem.W.nsIn K dZ "3" = some (some (.int 3 z3)))
    (nz4 : PySem.W.nsIn K dZ "4" = some (some (.int 4 z4)))
    (nz5 : PySem.W.nsIn K dZ "5" = some (some (.int 5 z5)))
    (nz6 : PySem.W.nsIn K dZ "6" = some (some (.int 6 z6)))
    (nm0 : PySem.W.nsIn K dM "record" = some (some (.ref f_record_form)))
    (nm1 : PySem.W.nsIn K dM "weak" = some (some (.ref f_weak_form)))
    (nm2 : PySem.W.nsIn K dM "map" = some (some (.ref f_map_form)))
    (no0 : PySem.W.nsIn K dM "get" = some none)
    (no1 : PySem.W.nsIn K dM "a" = some none)
    (no2 : PySem.W.nsIn K dM "b" = some none)
    (no3 : PySem.W.nsIn K dM "x" = some none)
    (no4 : PySem.W.nsIn K dM "G" = some none)
    (no5 : PySem.W.nsIn K dM "Hello" = some none)
    (no6 : PySem.W.nsIn K dM "abcdefgh" = some none)
    (no7 : PySem.W.nsIn K dM "k" = some none)
    (no8 : PySem.W.nsIn K dM "p" = some none)
    (no9 : PySem.W.nsIn K dM "bye" = some none)
    (no10 : PySem.W.nsIn K dM "y" = some none)
    (no11 : PySem.W.nsIn K dM "z" = some none)
    (nf0 : PySem.W.nsIn K dF "let" = some (some (.ref f_let_form)))
    (nf1 : PySem.W.nsIn K dF "say" = some (some (.ref f_say_form)))
    (nf2 : PySem.W.nsIn K dF "drop" = some (some (.ref f_name_form)))
    (nf3 : PySem.W.nsIn K dF "hold" = some (some (.ref f_name_form)))
    (nf4 : PySem.W.nsIn K dF "release" = some (some (.ref f_name_form)))
    (nf5 : PySem.W.nsIn K dF "pin" = some (some (.ref f_name_form)))
    (nf6 : PySem.W.nsIn K dF "unpin" = some (some (.ref f_name_form)))
    (nf7 : PySem.W.nsIn K dF "if" = some (some (.ref f_if_form)))
    (nf8 : PySem.W.nsIn K dF "else" = some (some (.ref f_bare_form)))
    (nf9 : PySem.W.nsIn K dF "end" = some (some (.ref f_bare_form)))
    (nf10 : PySem.W.nsIn K dF "repeat" = some (some (.ref f_number_form)))
    (nf11 : PySem.W.nsIn K dF "proc" = some (some (.ref f_proc_form)))
    (nf12 : PySem.W.nsIn K dF "do" = some (some (.ref f_do_form)))
    (nf13 : PySem.W.nsIn K dF "minor" = some (some (.ref f_bare_form)))
    (nf14 : PySem.W.nsIn K dF "rings" = some (some (.ref f_number_form)))
    (nf15 : PySem.W.nsIn K dF "begin" = some (some (.ref f_bare_form)))
    (nf16 : PySem.W.nsIn K dF "slice" = some (some (.ref f_number_form)))
    (nf17 : PySem.W.nsIn K dF "compact" = some (some (.ref f_number_form)))
    (nf18 : PySem.W.nsIn K dF "finalize" = some (some (.ref f_bare_form)))
    (nf19 : PySem.W.nsIn K dF "settle" = some (some (.ref f_bare_form)))
    (nn0 : PySem.W.nsIn K dF "a" = some none)
    (nn1 : PySem.W.nsIn K dF "b" = some none)
    (nn2 : PySem.W.nsIn K dF "x" = some none)
    (nn3 : PySem.W.nsIn K dF "G" = some none)
    (nn4 : PySem.W.nsIn K dF "Hello" = some none)
    (nn5 : PySem.W.nsIn K dF "abcdefgh" = some none)
    (nn6 : PySem.W.nsIn K dF "k" = some none)
    (nn7 : PySem.W.nsIn K dF "p" = some none)
    (nn8 : PySem.W.nsIn K dF "bye" = some none)
    (nn9 : PySem.W.nsIn K dF "y" = some none)
    (nn10 : PySem.W.nsIn K dF "z" = some none)
    (np0_0 : PySem.W.nsIn K dF "a.0" = some none)
    (np0_1 : PySem.W.nsIn K dF "a.1" = some none)
    (np0_2 : PySem.W.nsIn K dF "a.2" = some none)
    (np0_3 : PySem.W.nsIn K dF "a.3" = some none)
    (np0_4 : PySem.W.nsIn K dF "a.4" = some none)
    (np0_5 : PySem.W.nsIn K dF "a.5" = some none)
    (np1_0 : PySem.W.nsIn K dF "b.0" = some none)
    (np1_1 : PySem.W.nsIn K dF "b.1" = some none)
    (np1_2 : PySem.W.nsIn K dF "b.2" = some none)
    (np1_3 : PySem.W.nsIn K dF "b.3" = some none)
    (np1_4 : PySem.W.nsIn K dF "b.4" = some none)
    (np1_5 : PySem.W.nsIn K dF "b.5" = some none)
    (np2_0 : PySem.W.nsIn K dF "x.0" = some none)
    (np2_1 : PySem.W.nsIn K dF "x.1" = some none)
    (np2_2 : PySem.W.nsIn K dF "x.2" = some none)
    (np2_3 : PySem.W.nsIn K dF "x.3" = some none)
    (np2_4 : PySem.W.nsIn K dF "x.4" = some none)
    (np2_5 : PySem.W.nsIn K dF "x.5" = some none)
    (np3_0 : PySem.W.nsIn K dF "G.0" = some none)
    (np3_1 : PySem.W.nsIn K dF "G.1" = some none)
    (np3_2 : PySem.W.nsIn K dF "G.2" = some none)
    (np3_3 : PySem.W.nsIn K dF "G.3" = some none)
    (np3_4 : PySem.W.nsIn K dF "G.4" = some none)
    (np3_5 : PySem.W.nsIn K dF "G.5" = some none)
    (np4_0 : PySem.W.nsIn K dF "Hello.0" = some none)
    (np4_1 : PySem.W.nsIn K dF "Hello.1" = some none)
    (np4_2 : PySem.W.nsIn K dF "Hello.2" = some none)
    (np4_3 : PySem.W.nsIn K dF "Hello.3" = some none)
    (np4_4 : PySem.W.nsIn K dF "Hello.4" = some none)
    (np4_5 : PySem.W.nsIn K dF "Hello.5" = some none)
    (np5_0 : PySem.W.nsIn K dF "abcdefgh.0" = some none)
    (np5_1 : PySem.W.nsIn K dF "abcdefgh.1" = some none)
    (np5_2 : PySem.W.nsIn K dF "abcdefgh.2" = some none)
    (np5_3 : PySem.W.nsIn K dF "abcdefgh.3" = some none)
    (np5_4 : PySem.W.nsIn K dF "abcdefgh.4" = some none)
    (np5_5 : PySem.W.nsIn K dF "abcdefgh.5" = some none)
    (np6_0 : PySem.W.nsIn K dF "k.0" = some none)
    (np6_1 : PySem.W.nsIn K dF "k.1" = some none)
    (np6_2 : PySem.W.nsIn K dF "k.2" = some none)
    (np6_3 : PySem.W.nsIn K dF "k.3" = some none)
    (np6_4 : PySem.W.nsIn K dF "k.4" = some none)
    (np6_5 : PySem.W.nsIn K dF "k.5" = some none)
    (np7_0 : PySem.W.nsIn K dF "p.0" = some none)
    (np7_1 : PySem.W.nsIn K dF "p.1" = some none)
    (np7_2 : PySem.W.nsIn K dF "p.2" = some none)
    (np7_3 : PySem.W.nsIn K dF "p.3" = some none)
    (np7_4 : PySem.W.nsIn K dF "p.4" = some none)
    (np7_5 : PySem.W.nsIn K dF "p.5" = some none)
    (np8_0 : PySem.W.nsIn K dF "bye.0" = some none)
    (np8_1 : PySem.W.nsIn K dF "bye.1" = some none)
    (np8_2 : PySem.W.nsIn K dF "bye.2" = some none)
    (np8_3 : PySem.W.nsIn K dF "bye.3" = some none)
    (np8_4 : PySem.W.nsIn K dF "bye.4" = some none)
    (np8_5 : PySem.W.nsIn K dF "bye.5" = some none)
    (np9_0 : PySem.W.nsIn K dF "y.0" = some none)
    (np9_1 : PySem.W.nsIn K dF "y.1" = some none)
    (np9_2 : PySem.W.nsIn K dF "y.2" = some none)
    (np9_3 : PySem.W.nsIn K dF "y.3" = some none)
    (np9_4 : PySem.W.nsIn K dF "y.4" = some none)
    (np9_5 : PySem.W.nsIn K dF "y.5" = some none)
    (np10_0 : PySem.W.nsIn K dF "z.0" = some none)
    (np10_1 : PySem.W.nsIn K dF "z.1" = some none)
    (np10_2 : PySem.W.nsIn K dF "z.2" = some none)
    (np10_3 : PySem.W.nsIn K dF "z.3" = some none)
    (np10_4 : PySem.W.nsIn K dF "z.4" = some none)
    (np10_5 : PySem.W.nsIn K dF "z.5" = some none) :
    ∃ fd : FuncData, (∀ (s : Shared) (v : Value), BindsTo s fd ⟨[v], []⟩ [("_law_script", v)]) ∧ ∀ base : Heap, K.In base → base.Ns mainGlobals mg → FnG l.prog w K mg base CX0 10 fa fd ["_law_script"] (spLaw K) := by
  have e := hfa.symm.trans (PySem.W.mg_of X G a_law.nm)
  cases e
  obtain ⟨fd_law, F_law⟩ := a_law.fn
  have g_law := PySem.W.mg_of X G a_law.nm
  obtain ⟨fd__law_pot, F__law_pot⟩ := a__law_pot.fn
  have g__law_pot := PySem.W.mg_of X G a__law_pot.nm
  have b__law_pot := F__law_pot.binds (ps := ["_law_script", "_law_k"]) fun _ _ _ _ _ _ us hl => match us, hl with | [_, _], _ => rfl
  obtain ⟨fd__law_take, F__law_take⟩ := a__law_take.fn
  have g__law_take := PySem.W.mg_of X G a__law_take.nm
  have b__law_take := F__law_take.binds (ps := ["_law_pot_here", "_law_many"]) fun _ _ _ _ _ _ us hl => match us, hl with | [_, _], _ => rfl
  obtain ⟨fd__law_of, F__law_of⟩ := a__law_of.fn
  have g__law_of := PySem.W.mg_of X G a__law_of.nm
  have b__law_of := F__law_of.binds (ps := ["_law_pot_here", "_law_some"]) fun _ _ _ _ _ _ us hl => match us, hl with | [_, _], _ => rfl
  obtain ⟨fd__law_form_row, F__law_form_row⟩ := a__law_form_row.fn
  have g__law_form_row := PySem.W.mg_of X G a__law_form_row.nm
  have b__law_form_row := F__law_form_row.binds (ps := ["_law_pot_here"]) fun _ _ _ _ _ _ us hl => match us, hl with | [_], _ => rfl
  obtain ⟨fd__law_right, F__law_right⟩ := a__law_right.fn
  have g__law_right := PySem.W.mg_of X G a__law_right.nm
  have b__law_right := F__law_right.binds (ps := ["_law_pot_here"]) fun _ _ _ _ _ _ us hl => match us, hl with | [_], _ => rfl
  obtain ⟨fd_is_name, F_is_name⟩ := a_is_name.fn
  have g_is_name := PySem.W.mg_of X G a_is_name.nm
  have b_is_name := F_is_name.binds (ps := ["word"]) fun _ _ _ _ _ _ us hl => match us, hl with | [_], _ => rfl
  obtain ⟨fd_is_local, F_is_local⟩ := a_is_local.fn
  have g_is_local := PySem.W.mg_of X G a_is_local.nm
  have b_is_local := F_is_local.binds (ps := ["word"]) fun _ _ _ _ _ _ us hl => match us, hl with | [_], _ => rfl
  obtain ⟨fd_whole_of, F_whole_of⟩ := a_whole_of.fn
  have g_whole_of := PySem.W.mg_of X G a_whole_of.nm
  have b_whole_of := F_whole_of.binds (ps := ["word", "digits"]) fun _ _ _ _ _ _ us hl => match us, hl with | [_, _], _ => rfl
  obtain ⟨fd_number_of, F_number_of⟩ := a_number_of.fn
  have g_number_of := PySem.W.mg_of X G a_number_of.nm
  have b_number_of := F_number_of.binds (ps := ["word", "most"]) fun _ _ _ _ _ _ us hl => match us, hl with | [_, _], _ => rfl
  obtain ⟨fd_value_of, F_value_of⟩ := a_value_of.fn
  have g_value_of := PySem.W.mg_of X G a_value_of.nm
  have b_value_of := F_value_of.binds (ps := ["word"]) fun _ _ _ _ _ _ us hl => match us, hl with | [_], _ => rfl
  obtain ⟨fd_slot_of, F_slot_of⟩ := a_slot_of.fn
  have g_slot_of := PySem.W.mg_of X G a_slot_of.nm
  have b_slot_of := F_slot_of.binds (ps := ["word"]) fun _ _ _ _ _ _ us hl => match us, hl with | [_], _ => rfl
  obtain ⟨fd_word_form, F_word_form⟩ := a_word_form.fn
  have g_word_form := PySem.W.mg_of X G a_word_form.nm
  have b_word_form := F_word_form.binds (ps := ["verb", "name", "word"]) fun _ _ _ _ _ _ us hl => match us, hl with | [_, _, _], _ => rfl
  obtain ⟨fd_asked_form, F_asked_form⟩ := a_asked_form.fn
  have g_asked_form := PySem.W.mg_of X G a_asked_form.nm
  have b_asked_form := F_asked_form.binds (ps := ["verb", "name", "words"]) fun _ _ _ _ _ _ us hl => match us, hl with | [_, _, _], _ => rfl
  obtain ⟨fd_record_form, F_record_form⟩ := a_record_form.fn
  have g_record_form := PySem.W.mg_of X G a_record_form.nm
  have b_record_form := F_record_form.binds (ps := ["words"]) fun _ _ _ _ _ _ us hl => match us, hl with | [_], _ => rfl
  obtain ⟨fd_weak_form, F_weak_form⟩ := a_weak_form.fn
  have g_weak_form := PySem.W.mg_of X G a_weak_form.nm
  have b_weak_form := F_weak_form.binds (ps := ["words"]) fun _ _ _ _ _ _ us hl => match us, hl with | [_], _ => rfl
  obtain ⟨fd_map_form, F_map_form⟩ := a_map_form.fn
  have g_map_form := PySem.W.mg_of X G a_map_form.nm
  have b_map_form := F_map_form.binds (ps := ["words"]) fun _ _ _ _ _ _ us hl => match us, hl with | [_], _ => rfl
  obtain ⟨fd_let_form, F_let_form⟩ := a_let_form.fn
  have g_let_form := PySem.W.mg_of X G a_let_form.nm
  have b_let_form := F_let_form.binds (ps := ["words"]) fun _ _ _ _ _ _ us hl => match us, hl with | [_], _ => rfl
  obtain ⟨fd_say_form, F_say_form⟩ := a_say_form.fn
  have g_say_form := PySem.W.mg_of X G a_say_form.nm
  have b_say_form := F_say_form.binds (ps := ["words"]) fun _ _ _ _ _ _ us hl => match us, hl with | [_], _ => rfl
  obtain ⟨fd_name_form, F_name_form⟩ := a_name_form.fn
  have g_name_form := PySem.W.mg_of X G a_name_form.nm
  have b_name_form := F_name_form.binds (ps := ["words"]) fun _ _ _ _ _ _ us hl => match us, hl with | [_], _ => rfl
  obtain ⟨fd_number_form, F_number_form⟩ := a_number_form.fn
  have g_number_form := PySem.W.mg_of X G a_number_form.nm
  have b_number_form := F_number_form.binds (ps := ["words"]) fun _ _ _ _ _ _ us hl => match us, hl with | [_], _ => rfl
  obtain ⟨fd_bare_form, F_bare_form⟩ := a_bare_form.fn
  have g_bare_form := PySem.W.mg_of X G a_bare_form.nm
  have b_bare_form := F_bare_form.binds (ps := ["words"]) fun _ _ _ _ _ _ us hl => match us, hl with | [_], _ => rfl
  obtain ⟨fd_if_form, F_if_form⟩ := a_if_form.fn
  have g_if_form := PySem.W.mg_of X G a_if_form.nm
  have b_if_form := F_if_form.binds (ps := ["words"]) fun _ _ _ _ _ _ us hl => match us, hl with | [_], _ => rfl
  obtain ⟨fd_proc_form, F_proc_form⟩ := a_proc_form.fn
  have g_proc_form := PySem.W.mg_of X G a_proc_form.nm
  have b_proc_form := F_proc_form.binds (ps := ["words"]) fun _ _ _ _ _ _ us hl => match us, hl with | [_], _ => rfl
  obtain ⟨fd_do_form, F_do_form⟩ := a_do_form.fn
  have g_do_form := PySem.W.mg_of X G a_do_form.nm
  have b_do_form := F_do_form.binds (ps := ["words"]) fun _ _ _ _ _ _ us hl => match us, hl with | [_], _ => rfl
  obtain ⟨fd_store_form, F_store_form⟩ := a_store_form.fn
  have g_store_form := PySem.W.mg_of X G a_store_form.nm
  have b_store_form := F_store_form.binds (ps := ["words"]) fun _ _ _ _ _ _ us hl => match us, hl with | [_], _ => rfl
  obtain ⟨fd_statement_of, F_statement_of⟩ := a_statement_of.fn
  have g_statement_of := PySem.W.mg_of X G a_statement_of.nm
  have b_statement_of := F_statement_of.binds (ps := ["words"]) fun _ _ _ _ _ _ us hl => match us, hl with | [_], _ => rfl
  obtain ⟨fd_statements_of, F_statements_of⟩ := a_statements_of.fn
  have g_statements_of := PySem.W.mg_of X G a_statements_of.nm
  have b_statements_of := F_statements_of.binds (ps := ["text"]) fun _ _ _ _ _ _ us hl => match us, hl with | [_], _ => rfl
  obtain ⟨fd_read_script, F_read_script⟩ := a_read_script.fn
  have g_read_script := PySem.W.mg_of X G a_read_script.nm
  have b_read_script := F_read_script.binds (ps := ["text"]) fun _ _ _ _ _ _ us hl => match us, hl with | [_], _ => rfl
  have k_read_script : KBinds K fd_read_script ["text"] ["text"] (· ++ ·) (· ++ ·) := kb_one F_read_script fun oc kV doc pm cdv ct an s us ws hl => by
    match us, ws, hl with
    | [u], [], _ => exact .of_eq rfl
    | [], [u], _ => exact .of_eq rfl
  obtain ⟨fd_show_script, F_show_script⟩ := a_show_script.fn
  have g_show_script := PySem.W.mg_of X G a_show_script.nm
  have b_show_script := F_show_script.binds (ps := ["rows"]) fun _ _ _ _ _ _ us hl => match us, hl with | [_], _ => rfl
  have k_show_script : KBinds K fd_show_script ["rows"] ["rows"] (· ++ ·) (· ++ ·) := kb_one F_show_script fun oc kV doc pm cdv ct an s us ws hl => by
    match us, ws, hl with
    | [u], [], _ => exact .of_eq rfl
    | [], [u], _ => exact .of_eq rfl
  have m_len := PySem.W.mg_none_of X G z_len
  have m_abs := PySem.W.mg_none_of X G z_abs
  have m_int := PySem.W.mg_none_of X G z_int
  have m_range := PySem.W.mg_none_of X G z_range
  have m_max := PySem.W.mg_none_of X G z_max
  have m_min := PySem.W.mg_none_of X G z_min
  have m_repr := PySem.W.mg_none_of X G z_repr
  have m_tuple := PySem.W.mg_none_of X G z_tuple
  have m_str := PySem.W.mg_none_of X G z_str
  have m_all := PySem.W.mg_none_of X G z_all
  have m_any := PySem.W.mg_none_of X G z_any
  have m_isinstance := PySem.W.mg_none_of X G z_isinstance
  have m_enumerate := PySem.W.mg_none_of X G z_enumerate
  refine ⟨fd_law, fun s v => ?_, fun base _ _ => ?_⟩
  · obtain ⟨oc, od, kV, doc, pm, an, cdv, ct, osl, rfl, _⟩ := F_law.ex
    exact .of_eq rfl
  · have kdOf : ∀ {d : Addr} {ks : List Str}, He.dicW K d = some (He.keysIn w.params ks) → ∃ es n, KDict K w d es n := fun h => by
      obtain ⟨es, n, D⟩ := He.dicW_ok h
      exact ⟨es, n, D⟩
    have free : ∀ z ∈ names12, PySem.W.nsIn K dT z = some none := by
      simp only [names12, List.mem_cons, List.not_mem_nil, or_false]
      rintro z (rfl | rfl | rfl | rfl | rfl | rfl | rfl | rfl | rfl | rfl | rfl)
      · exact nt0
      · exact nt1
      · exact nt2
      · exact nt3
      · exact nt4
      · exact nt5
      · exact nt6
      · exact nt7
      · exact nt8
      · exact nt9
      · exact nt10
    have freeM : ∀ z ∈ ("get" : Str) :: names12, PySem.W.nsIn K dM z = some none := by
      simp only [names12, List.mem_cons, List.not_mem_nil, or_false]
      rintro z (rfl | rfl | rfl | rfl | rfl | rfl | rfl | rfl | rfl | rfl | rfl | rfl)
      · exact no0
      · exact no1
      · exact no2
      · exact no3
      · exact no4
      · exact no5
      · exact no6
      · exact no7
      · exact no8
      · exact no9
      · exact no10
      · exact no11
    have freeF : ∀ z ∈ names12, PySem.W.nsIn K dF z = some none := by
      simp only [names12, List.mem_cons, List.not_mem_nil, or_false]
      rintro z (rfl | rfl | rfl | rfl | rfl | rfl | rfl | rfl | rfl | rfl | rfl)
      · exact nn0
      · exact nn1
      · exact nn2
      · exact nn3
      · exact nn4
      · exact nn5
      · exact nn6
      · exact nn7
      · exact nn8
      · exact nn9
      · exact nn10
    have freeP : ∀ o ∈ names12, ∀ m : Fin 6, PySem.W.nsIn K dF (o ++ ("." : Str) ++ Str.ofString (toString ((m.val : Nat) : Int))) = some none := by
      simp only [names12, List.mem_cons, List.not_mem_nil, or_false]
      rintro z (rfl | rfl | rfl | rfl | rfl | rfl | rfl | rfl | rfl | rfl | rfl) m
      · match m with
        | ⟨0, _⟩ => exact (show (("a" : Str) ++ ("." : Str) ++ Str.ofString (toString ((0 : Nat) : Int))) = "a.0" from by decide +kernel) ▸ np0_0
        | ⟨1, _⟩ => exact (show (("a" : Str) ++ ("." : Str) ++ Str.ofString (toString ((1 : Nat) : Int))) = "a.1" from by decide +kernel) ▸ np0_1
        | ⟨2, _⟩ => exact (show (("a" : Str) ++ ("." : Str) ++ Str.ofString (toString ((2 : Nat) : Int))) = "a.2" from by decide +kernel) ▸ np0_2
        | ⟨3, _⟩ => exact (show (("a" : Str) ++ ("." : Str) ++ Str.ofString (toString ((3 : Nat) : Int))) = "a.3" from by decide +kernel) ▸ np0_3
        | ⟨4, _⟩ => exact (show (("a" : Str) ++ ("." : Str) ++ Str.ofString (toString ((4 : Nat) : Int))) = "a.4" from by decide +kernel) ▸ np0_4
        | ⟨5, _⟩ => exact (show (("a" : Str) ++ ("." : Str) ++ Str.ofString (toString ((5 : Nat) : Int))) = "a.5" from by decide +kernel) ▸ np0_5
      · match m with
        | ⟨0, _⟩ => exact (show (("b" : Str) ++ ("." : Str) ++ Str.ofString (toString ((0 : Nat) : Int))) = "b.0" from by decide +kernel) ▸ np1_0
        | ⟨1, _⟩ => exact (show (("b" : Str) ++ ("." : Str) ++ Str.ofString (toString ((1 : Nat) : Int))) = "b.1" from by decide +kernel) ▸ np1_1
        | ⟨2, _⟩ => exact (show (("b" : Str) ++ ("." : Str) ++ Str.ofString (toString ((2 : Nat) : Int))) = "b.2" from by decide +kernel) ▸ np1_2
        | ⟨3, _⟩ => exact (show (("b" : Str) ++ ("." : Str) ++ Str.ofString (toString ((3 : Nat) : Int))) = "b.3" from by decide +kernel) ▸ np1_3
        | ⟨4, _⟩ => exact (show (("b" : Str) ++ ("." : Str) ++ Str.ofString (toString ((4 : Nat) : Int))) = "b.4" from by decide +kernel) ▸ np1_4
        | ⟨5, _⟩ => exact (show (("b" : Str) ++ ("." : Str) ++ Str.ofString (toString ((5 : Nat) : Int))) = "b.5" from by decide +kernel) ▸ np1_5
      · match m with
        | ⟨0, _⟩ => exact (show (("x" : Str) ++ ("." : Str) ++ Str.ofString (toString ((0 : Nat) : Int))) = "x.0" from by decide +kernel) ▸ np2_0
        | ⟨1, _⟩ => exact (show (("x" : Str) ++ ("." : Str) ++ Str.ofString (toString ((1 : Nat) : Int))) = "x.1" from by decide +kernel) ▸ np2_1
        | ⟨2, _⟩ => exact (show (("x" : Str) ++ ("." : Str) ++ Str.ofString (toString ((2 : Nat) : Int))) = "x.2" from by decide +kernel) ▸ np2_2
        | ⟨3, _⟩ => exact (show (("x" : Str) ++ ("." : Str) ++ Str.ofString (toString ((3 : Nat) : Int))) = "x.3" from by decide +kernel) ▸ np2_3
        | ⟨4, _⟩ => exact (show (("x" : Str) ++ ("." : Str) ++ Str.ofString (toString ((4 : Nat) : Int))) = "x.4" from by decide +kernel) ▸ np2_4
        | ⟨5, _⟩ => exact (show (("x" : Str) ++ ("." : Str) ++ Str.ofString (toString ((5 : Nat) : Int))) = "x.5" from by decide +kernel) ▸ np2_5
      · match m with
        | ⟨0, _⟩ => exact (show (("G" : Str) ++ ("." : Str) ++ Str.ofString (toString ((0 : Nat) : Int))) = "G.0" from by decide +kernel) ▸ np3_0
        | ⟨1, _⟩ => exact (show (("G" : Str) ++ ("." : Str) ++ Str.ofString (toString ((1 : Nat) : Int))) = "G.1" from by decide +kernel) ▸ np3_1
        | ⟨2, _⟩ => exact (show (("G" : Str) ++ ("." : Str) ++ Str.ofString (toString ((2 : Nat) : Int))) = "G.2" from by decide +kernel) ▸ np3_2
        | ⟨3, _⟩ => exact (show (("G" : Str) ++ ("." : Str) ++ Str.ofString (toString ((3 : Nat) : Int))) = "G.3" from by decide +kernel) ▸ np3_3
        | ⟨4, _⟩ => exact (show (("G" : Str) ++ ("." : Str) ++ Str.ofString (toString ((4 : Nat) : Int))) = "G.4" from by decide +kernel) ▸ np3_4
        | ⟨5, _⟩ => exact (show (("G" : Str) ++ ("." : Str) ++ Str.ofString (toString ((5 : Nat) : Int))) = "G.5" from by decide +kernel) ▸ np3_5
      · match m with
        | ⟨0, _⟩ => exact (show (("Hello" : Str) ++ ("." : Str) ++ Str.ofString (toString ((0 : Nat) : Int))) = "Hello.0" from by decide +kernel) ▸ np4_0
        | ⟨1, _⟩ => exact (show (("Hello" : Str) ++ ("." : Str) ++ Str.ofString (toString ((1 : Nat) : Int))) = "Hello.1" from by decide +kernel) ▸ np4_1
        | ⟨2, _⟩ => exact (show (("Hello" : Str) ++ ("." : Str) ++ Str.ofString (toString ((2 : Nat) : Int))) = "Hello.2" from by decide +kernel) ▸ np4_2
        | ⟨3, _⟩ => exact (show (("Hello" : Str) ++ ("." : Str) ++ Str.ofString (toString ((3 : Nat) : Int))) = "Hello.3" from by decide +kernel) ▸ np4_3
        | ⟨4, _⟩ => exact (show (("Hello" : Str) ++ ("." : Str) ++ Str.ofString (toString ((4 : Nat) : Int))) = "Hello.4" from by decide +kernel) ▸ np4_4
        | ⟨5, _⟩ => exact (show (("Hello" : Str) ++ ("." : Str) ++ Str.ofString (toString ((5 : Nat) : Int))) = "Hello.5" from by decide +kernel) ▸ np4_5
      · match m with
        | ⟨0, _⟩ => exact (show (("abcdefgh" : Str) ++ ("." : Str) ++ Str.ofString (toString ((0 : Nat) : Int))) = "abcdefgh.0" from by decide +kernel) ▸ np5_0
        | ⟨1, _⟩ => exact (show (("abcdefgh" : Str) ++ ("." : Str) ++ Str.ofString (toString ((1 : Nat) : Int))) = "abcdefgh.1" from by decide +kernel) ▸ np5_1
        | ⟨2, _⟩ => exact (show (("abcdefgh" : Str) ++ ("." : Str) ++ Str.ofString (toString ((2 : Nat) : Int))) = "abcdefgh.2" from by decide +kernel) ▸ np5_2
        | ⟨3, _⟩ => exact (show (("abcdefgh" : Str) ++ ("." : Str) ++ Str.ofString (toString ((3 : Nat) : Int))) = "abcdefgh.3" from by decide +kernel) ▸ np5_3
        | ⟨4, _⟩ => exact (show (("abcdefgh" : Str) ++ ("." : Str) ++ Str.ofString (toString ((4 : Nat) : Int))) = "abcdefgh.4" from by decide +kernel) ▸ np5_4
        | ⟨5, _⟩ => exact (show (("abcdefgh" : Str) ++ ("." : Str) ++ Str.ofString (toString ((5 : Nat) : Int))) = "abcdefgh.5" from by decide +kernel) ▸ np5_5
      · match m with
        | ⟨0, _⟩ => exact (show (("k" : Str) ++ ("." : Str) ++ Str.ofString (toString ((0 : Nat) : Int))) = "k.0" from by decide +kernel) ▸ np6_0
        | ⟨1, _⟩ => exact (show (("k" : Str) ++ ("." : Str) ++ Str.ofString (toString ((1 : Nat) : Int))) = "k.1" from by decide +kernel) ▸ np6_1
        | ⟨2, _⟩ => exact (show (("k" : Str) ++ ("." : Str) ++ Str.ofString (toString ((2 : Nat) : Int))) = "k.2" from by decide +kernel) ▸ np6_2
        | ⟨3, _⟩ => exact (show (("k" : Str) ++ ("." : Str) ++ Str.ofString (toString ((3 : Nat) : Int))) = "k.3" from by decide +kernel) ▸ np6_3
        | ⟨4, _⟩ => exact (show (("k" : Str) ++ ("." : Str) ++ Str.ofString (toString ((4 : Nat) : Int))) = "k.4" from by decide +kernel) ▸ np6_4
        | ⟨5, _⟩ => exact (show (("k" : Str) ++ ("." : Str) ++ Str.ofString (toString ((5 : Nat) : Int))) = "k.5" from by decide +kernel) ▸ np6_5
      · match m with
        | ⟨0, _⟩ => exact (show (("p" : Str) ++ ("." : Str) ++ Str.ofString (toString ((0 : Nat) : Int))) = "p.0" from by decide +kernel) ▸ np7_0
        | ⟨1, _⟩ => exact (show (("p" : Str) ++ ("." : Str) ++ Str.ofString (toString ((1 : Nat) : Int))) = "p.1" from by decide +kernel) ▸ np7_1
        | ⟨2, _⟩ => exact (show (("p" : Str) ++ ("." : Str) ++ Str.ofString (toString ((2 : Nat) : Int))) = "p.2" from by decide +kernel) ▸ np7_2
        | ⟨3, _⟩ => exact (show (("p" : Str) ++ ("." : Str) ++ Str.ofString (toString ((3 : Nat) : Int))) = "p.3" from by decide +kernel) ▸ np7_3
        | ⟨4, _⟩ => exact (show (("p" : Str) ++ ("." : Str) ++ Str.ofString (toString ((4 : Nat) : Int))) = "p.4" from by decide +kernel) ▸ np7_4
        | ⟨5, _⟩ => exact (show (("p" : Str) ++ ("." : Str) ++ Str.ofString (toString ((5 : Nat) : Int))) = "p.5" from by decide +kernel) ▸ np7_5
      · match m with
        | ⟨0, _⟩ => exact (show (("bye" : Str) ++ ("." : Str) ++ Str.ofString (toString ((0 : Nat) : Int))) = "bye.0" from by decide +kernel) ▸ np8_0
        | ⟨1, _⟩ => exact (show (("bye" : Str) ++ ("." : Str) ++ Str.ofString (toString ((1 : Nat) : Int))) = "bye.1" from by decide +kernel) ▸ np8_1
        | ⟨2, _⟩ => exact (show (("bye" : Str) ++ ("." : Str) ++ Str.ofString (toString ((2 : Nat) : Int))) = "bye.2" from by decide +kernel) ▸ np8_2
        | ⟨3, _⟩ => exact (show (("bye" : Str) ++ ("." : Str) ++ Str.ofString (toString ((3 : Nat) : Int))) = "bye.3" from by decide +kernel) ▸ np8_3
        | ⟨4, _⟩ => exact (show (("bye" : Str) ++ ("." : Str) ++ Str.ofString (toString ((4 : Nat) : Int))) = "bye.4" from by decide +kernel) ▸ np8_4
        | ⟨5, _⟩ => exact (show (("bye" : Str) ++ ("." : Str) ++ Str.ofString (toString ((5 : Nat) : Int))) = "bye.5" from by decide +kernel) ▸ np8_5
      · match m with
        | ⟨0, _⟩ => exact (show (("y" : Str) ++ ("." : Str) ++ Str.ofString (toString ((0 : Nat) : Int))) = "y.0" from by decide +kernel) ▸ np9_0
        | ⟨1, _⟩ => exact (show (("y" : Str) ++ ("." : Str) ++ Str.ofString (toString ((1 : Nat) : Int))) = "y.1" from by decide +kernel) ▸ np9_1
        | ⟨2, _⟩ => exact (show (("y" : Str) ++ ("." : Str) ++ Str.ofString (toString ((2 : Nat) : Int))) = "y.2" from by decide +kernel) ▸ np9_2
        | ⟨3, _⟩ => exact (show (("y" : Str) ++ ("." : Str) ++ Str.ofString (toString ((3 : Nat) : Int))) = "y.3" from by decide +kernel) ▸ np9_3
        | ⟨4, _⟩ => exact (show (("y" : Str) ++ ("." : Str) ++ Str.ofString (toString ((4 : Nat) : Int))) = "y.4" from by decide +kernel) ▸ np9_4
        | ⟨5, _⟩ => exact (show (("y" : Str) ++ ("." : Str) ++ Str.ofString (toString ((5 : Nat) : Int))) = "y.5" from by decide +kernel) ▸ np9_5
      · match m with
        | ⟨0, _⟩ => exact (show (("z" : Str) ++ ("." : Str) ++ Str.ofString (toString ((0 : Nat) : Int))) = "z.0" from by decide +kernel) ▸ np10_0
        | ⟨1, _⟩ => exact (show (("z" : Str) ++ ("." : Str) ++ Str.ofString (toString ((1 : Nat) : Int))) = "z.1" from by decide +kernel) ▸ np10_1
        | ⟨2, _⟩ => exact (show (("z" : Str) ++ ("." : Str) ++ Str.ofString (toString ((2 : Nat) : Int))) = "z.2" from by decide +kernel) ▸ np10_2
        | ⟨3, _⟩ => exact (show (("z" : Str) ++ ("." : Str) ++ Str.ofString (toString ((3 : Nat) : Int))) = "z.3" from by decide +kernel) ▸ np10_3
        | ⟨4, _⟩ => exact (show (("z" : Str) ++ ("." : Str) ++ Str.ofString (toString ((4 : Nat) : Int))) = "z.4" from by decide +kernel) ▸ np10_4
        | ⟨5, _⟩ => exact (show (("z" : Str) ++ ("." : Str) ++ Str.ofString (toString ((5 : Nat) : Int))) = "z.5" from by decide +kernel) ▸ np10_5
    have T : Tb K w mg dT dS := ⟨⟨_, PySem.W.mg_of X G gl_l⟩, ⟨_, PySem.W.mg_of X G gl_d⟩, ⟨_, PySem.W.mg_of X G gl_v⟩, PySem.W.mg_of X G gl_dT, kdOf dc_dT, PySem.W.mg_of X G gl_dS, kdOf dc_dS, free, fun m => by
      match m with
      | ⟨0, _⟩ => exact ⟨s0, by show PySem.W.nsIn K dS (Str.ofString (toString ((0 : Nat) : Int))) = some (some (.int ((0 : Nat) : Int) s0)); rw [show Str.ofString (toString ((0 : Nat) : Int)) = "0" from by decide +kernel]; exact ns0⟩
      | ⟨1, _⟩ => exact ⟨s1, by show PySem.W.nsIn K dS (Str.ofString (toString ((1 : Nat) : Int))) = some (some (.int ((1 : Nat) : Int) s1)); rw [show Str.ofString (toString ((1 : Nat) : Int)) = "1" from by decide +kernel]; exact ns1⟩
      | ⟨2, _⟩ => exact ⟨s2, by show PySem.W.nsIn K dS (Str.ofString (toString ((2 : Nat) : Int))) = some (some (.int ((2 : Nat) : Int) s2)); rw [show Str.ofString (toString ((2 : Nat) : Int)) = "2" from by decide +kernel]; exact ns2⟩
      | ⟨3, _⟩ => exact ⟨s3, by show PySem.W.nsIn K dS (Str.ofString (toString ((3 : Nat) : Int))) = some (some (.int ((3 : Nat) : Int) s3)); rw [show Str.ofString (toString ((3 : Nat) : Int)) = "3" from by decide +kernel]; exact ns3⟩
      | ⟨4, _⟩ => exact ⟨s4, by show PySem.W.nsIn K dS (Str.ofString (toString ((4 : Nat) : Int))) = some (some (.int ((4 : Nat) : Int) s4)); rw [show Str.ofString (toString ((4 : Nat) : Int)) = "4" from by decide +kernel]; exact ns4⟩
      | ⟨5, _⟩ => exact ⟨s5, by show PySem.W.nsIn K dS (Str.ofString (toString ((5 : Nat) : Int))) = some (some (.int ((5 : Nat) : Int) s5)); rw [show Str.ofString (toString ((5 : Nat) : Int)) = "5" from by decide +kernel]; exact ns5⟩⟩
    have T2 : Tb2 K w mg dH dZ := ⟨PySem.W.mg_of X G gl_dH, fun H => .inr ⟨_, _, _, tu_h, rfl, rfl, by show 2 ≤ sizeLine; decide, .cons ⟨_, rfl⟩ (.cons ⟨_, rfl⟩ .nil)⟩, PySem.W.mg_of X G gl_dZ, kdOf dc_dZ, fun m => by
      match m with
      | ⟨0, _⟩ => exact ⟨z0, by show PySem.W.nsIn K dZ (Str.ofString (toString ((0 : Nat) : Int))) = some (some (.int ((0 : Nat) : Int) z0)); rw [show Str.ofString (toString ((0 : Nat) : Int)) = "0" from by decide +kernel]; exact nz0⟩
      | ⟨1, _⟩ => exact ⟨z1, by show PySem.W.nsIn K dZ (Str.ofString (toString ((1 : Nat) : Int))) = some (some (.int ((1 : Nat) : Int) z1)); rw [show Str.ofString (toString ((1 : Nat) : Int)) = "1" from by decide +kernel]; exact nz1⟩
      | ⟨2, _⟩ => exact ⟨z2, by show PySem.W.nsIn K dZ (Str.ofString (toString ((2 : Nat) : Int))) = some (some (.int ((2 : Nat) : Int) z2)); rw [show Str.ofString (toString ((2 : Nat) : Int)) = "2" from by decide +kernel]; exact nz2⟩
      | ⟨3, _⟩ => exact ⟨z3, by show PySem.W.nsIn K dZ (Str.ofString (toString ((3 : Nat) : Int))) = some (some (.int ((3 : Nat) : Int) z3)); rw [show Str.ofString (toString ((3 : Nat) : Int)) = "3" from by decide +kernel]; exact nz3⟩
      | ⟨4, _⟩ => exact ⟨z4, by show PySem.W.nsIn K dZ (Str.ofString (toString ((4 : Nat) : Int))) = some (some (.int ((4 : Nat) : Int) z4)); rw [show Str.ofString (toString ((4 : Nat) : Int)) = "4" from by decide +kernel]; exact nz4⟩
      | ⟨5, _⟩ => exact ⟨z5, by show PySem.W.nsIn K dZ (Str.ofString (toString ((5 : Nat) : Int))) = some (some (.int ((5 : Nat) : Int) z5)); rw [show Str.ofString (toString ((5 : Nat) : Int)) = "5" from by decide +kernel]; exact nz5⟩
      | ⟨6, _⟩ => exact ⟨z6, by show PySem.W.nsIn K dZ (Str.ofString (toString ((6 : Nat) : Int))) = some (some (.int ((6 : Nat) : Int) z6)); rw [show Str.ofString (toString ((6 : Nat) : Int)) = "6" from by decide +kernel]; exact nz6⟩⟩
    have GN := ok_isname (P := l.prog) (w := w) (base := base) F_is_name T m_len
    have GL := ok_islocal (P := l.prog) (w := w) (base := base) F_is_local F_is_name b_is_name g_is_name GN
    have GW := ok_whole (P := l.prog) (w := w) (base := base) F_whole_of m_len m_int
    have GU := ok_number (P := l.prog) (w := w) (base := base) F_number_of F_whole_of T b_whole_of g_whole_of GW
    have GV := ok_value (P := l.prog) (w := w) (base := base) F_value_of F_is_name F_number_of T b_is_name b_number_of g_is_name g_number_of GN GU
    have GSl := ok_slot (P := l.prog) (w := w) (base := base) F_slot_of F_is_name T b_is_name g_is_name GN
    have GWd := ok_word (P := l.prog) (w := w) (base := base) F_word_form F_value_of F_slot_of b_value_of b_slot_of g_value_of g_slot_of GV GSl
    have GAs := ok_asked (P := l.prog) (w := w) (base := base) F_asked_form F_is_name b_is_name g_is_name m_len GN
    have GRc := ok_rec (P := l.prog) (w := w) (base := base) F_record_form F_is_local T2 b_is_local g_is_local m_len GL
    have GWk := ok_weak (P := l.prog) (w := w) (base := base) F_weak_form F_is_name T2 b_is_name g_is_name m_len GN
    have GMp := ok_map (P := l.prog) (w := w) (base := base) F_map_form T2 m_len
    have GNf := ok_name (P := l.prog) (w := w) (base := base) F_name_form F_is_name b_is_name g_is_name m_len GN
    have GUf := ok_numf (P := l.prog) (w := w) (base := base) F_number_form F_number_of b_number_of g_number_of ⟨_, PySem.W.mg_of X G gl_n⟩ m_len GU
    have GBf := ok_bare (P := l.prog) (w := w) (base := base) F_bare_form m_len
    have GIf := ok_if (P := l.prog) (w := w) (base := base) F_if_form F_value_of b_value_of g_value_of m_len GV
    have GPf := ok_proc (P := l.prog) (w := w) (base := base) F_proc_form F_is_local b_is_local g_is_local ⟨_, PySem.W.mg_of X G gl_p⟩ m_len m_all m_any m_tuple GL
    have GDf := ok_do (P := l.prog) (w := w) (base := base) F_do_form F_is_local F_value_of b_is_local b_value_of g_is_local g_value_of m_len m_any m_tuple GL GV
    have GSf := ok_store (P := l.prog) (w := w) (base := base) F_store_form F_is_name F_value_of F_slot_of b_is_name b_value_of b_slot_of g_is_name g_value_of g_slot_of m_len GN GV GSl
    have T3 : Tb3 K w mg dM f_record_form f_weak_form f_map_form := ⟨PySem.W.mg_of X G gl_dM, kdOf dc_dM, nm0, nm1, nm2, freeM⟩
    have GSy := ok_say (P := l.prog) (w := w) (base := base) F_say_form F_asked_form F_word_form b_asked_form b_word_form g_asked_form g_word_form m_len m_isinstance m_str GAs GWd
    have GLt := ok_let (P := l.prog) (w := w) (base := base) F_let_form F_asked_form F_word_form F_is_name b_asked_form b_word_form b_is_name g_asked_form g_word_form g_is_name m_len T3 GAs GWd GN ⟨_, GRc.mono (by decide), F_record_form.kp, b_record_form⟩ ⟨_, GWk.mono (by decide), F_weak_form.kp, b_weak_form⟩ ⟨_, GMp.mono (by decide), F_map_form.kp, b_map_form⟩
    have X_let : Fm l.prog w K mg base 5 f_let_form gLet := ⟨_, GLt.mono (by decide), F_let_form.kp, b_let_form⟩
    have X_say : Fm l.prog w K mg base 5 f_say_form gSay := ⟨_, GSy.mono (by decide), F_say_form.kp, b_say_form⟩
    have X_name : Fm l.prog w K mg base 5 f_name_form gNm := ⟨_, GNf.mono (by decide), F_name_form.kp, b_name_form⟩
    have X_if : Fm l.prog w K mg base 5 f_if_form gIf := ⟨_, GIf.mono (by decide), F_if_form.kp, b_if_form⟩
    have X_bare : Fm l.prog w K mg base 5 f_bare_form gBare := ⟨_, GBf.mono (by decide), F_bare_form.kp, b_bare_form⟩
    have X_number : Fm l.prog w K mg base 5 f_number_form gNum := ⟨_, GUf.mono (by decide), F_number_form.kp, b_number_form⟩
    have X_proc : Fm l.prog w K mg base 5 f_proc_form gProc := ⟨_, GPf.mono (by decide), F_proc_form.kp, b_proc_form⟩
    have X_do : Fm l.prog w K mg base 5 f_do_form gDo := ⟨_, GDf.mono (by decide), F_do_form.kp, b_do_form⟩
    have X_store : Fm l.prog w K mg base 5 f_store_form gStore := ⟨_, GSf.mono (by decide), F_store_form.kp, b_store_form⟩
    have T4 : Tb4 l.prog w K mg base dF f_store_form := ⟨PySem.W.mg_of X G gl_dF, kdOf dc_dF, g_store_form, X_store, fun z G h => by
      simp only [List.mem_cons, List.not_mem_nil, or_false, Prod.mk.injEq] at h
      rcases h with ⟨rfl, rfl⟩ | ⟨rfl, rfl⟩ | ⟨rfl, rfl⟩ | ⟨rfl, rfl⟩ | ⟨rfl, rfl⟩ | ⟨rfl, rfl⟩ | ⟨rfl, rfl⟩ | ⟨rfl, rfl⟩ | ⟨rfl, rfl⟩ | ⟨rfl, rfl⟩ | ⟨rfl, rfl⟩ | ⟨rfl, rfl⟩ | ⟨rfl, rfl⟩ | ⟨rfl, rfl⟩ | ⟨rfl, rfl⟩ | ⟨rfl, rfl⟩ | ⟨rfl, rfl⟩ | ⟨rfl, rfl⟩ | ⟨rfl, rfl⟩ | ⟨rfl, rfl⟩
      · exact ⟨_, nf0, X_let⟩
      · exact ⟨_, nf1, X_say⟩
      · exact ⟨_, nf2, X_name⟩
      · exact ⟨_, nf3, X_name⟩
      · exact ⟨_, nf4, X_name⟩
      · exact ⟨_, nf5, X_name⟩
      · exact ⟨_, nf6, X_name⟩
      · exact ⟨_, nf7, X_if⟩
      · exact ⟨_, nf8, X_bare⟩
      · exact ⟨_, nf9, X_bare⟩
      · exact ⟨_, nf10, X_number⟩
      · exact ⟨_, nf11, X_proc⟩
      · exact ⟨_, nf12, X_do⟩
      · exact ⟨_, nf13, X_bare⟩
      · exact ⟨_, nf14, X_number⟩
      · exact ⟨_, nf15, X_bare⟩
      · exact ⟨_, nf16, X_number⟩
      · exact ⟨_, nf17, X_number⟩
      · exact ⟨_, nf18, X_bare⟩
      · exact ⟨_, nf19, X_bare⟩, freeF, freeP⟩
    have GSt := ok_stat (P := l.prog) (w := w) (base := base) F_statement_of T4
    have GSs := ok_stats (P := l.prog) (w := w) (base := base) F_statements_of F_statement_of b_statement_of g_statement_of m_isinstance m_str m_enumerate GSt
    have GRd := ok_read (P := l.prog) (w := w) (base := base) F_read_script F_statements_of b_statements_of g_statements_of m_tuple GSs
    have GSh := ok_show (P := l.prog) (w := w) (mg := mg) (base := base) F_show_script
    have GRow := ok_row (P := l.prog) (w := w) (base := base) F__law_form_row F__law_take F__law_of b__law_take b__law_of g__law_take g__law_of m_len m_str m_range
    have GR := ok_right (P := l.prog) (w := w) (base := base) F__law_right F__law_take F__law_of F__law_form_row F_show_script F_read_script b__law_take b__law_of b__law_form_row b_show_script b_read_script k_show_script k_read_script g__law_take g__law_of g__law_form_row g_show_script g_read_script m_repr m_tuple m_range m_len GRow GSh GRd
    exact ok_law F_law F__law_pot F__law_right b__law_pot b__law_right g__law_pot g__law_right m_len m_range m_max m_min m_abs m_int GR
end Pf
open PySem PySem.W PyProof.Rows
set_option maxHeartbeats 0 in
theorem PySem.Challenge.cw_crossheaps_k69_scripts_read_and_shown_holds : PySem.Challenge.rw_crossheaps_k69_scripts_read_and_shown.Holds := by
  w_on; o_law; k_head; (case hw => w_witness2)
  k_fill
  refine Gd.walkG (l := PySem.Challenge.rw_crossheaps_k69_scripts_read_and_shown) (n := 63) (k := 10) (x := "_law_script") (CX := fun _ => L2.CX0) (sp := fun w => Pf.spLaw _) rfl (by decide) rfl ⟨rfl, by decide, by decide⟩ (fun w h Y => PySem.W.kIn_of Y) ?F (fun _ _ a ns hl _ hS => ⟨a, ns, rfl, hS, hl, fun _ => rfl⟩) (fun _ _ _ _ _ h => h)
  case F =>
    intro w mg fa h KX G hmg
    refine' Pf.top_ok KX G hmg (.of ?n0 ?l0 ?c0 ?k0) (.of ?n1 ?l1 ?c1 ?k1) (.of ?n2 ?l2 ?c2 ?k2) (.of ?n3 ?l3 ?c3 ?k3) (.of ?n4 ?l4 ?c4 ?k4) (.of ?n5 ?l5 ?c5 ?k5) (.of ?n6 ?l6 ?c6 ?k6) (.of ?n7 ?l7 ?c7 ?k7) (.of ?n8 ?l8 ?c8 ?k8) (.of ?n9 ?l9 ?c9 ?k9) (.of ?n10 ?l10 ?c10 ?k10) (.of ?n11 ?l11 ?c11 ?k11) (.of ?n12 ?l12 ?c12 ?k12) (.of ?n13 ?l13 ?c13 ?k13) (.of ?n14 ?l14 ?c14 ?k14) (.of ?n15 ?l15 ?c15 ?k15) (.of ?n16 ?l16 ?c16 ?k16) (.of ?n17 ?l17 ?c17 ?k17) (.of ?n18 ?l18 ?c18 ?k18) (.of ?n19 ?l19 ?c19 ?k19) (.of ?n20 ?l20 ?c20 ?k20) (.of ?n21 ?l21 ?c21 ?k21) (.of ?n22 ?l22 ?c22 ?k22) (.of ?n23 ?l23 ?c23 ?k23) (.of ?n24 ?l24 ?c24 ?k24) (.of ?n25 ?l25 ?c25 ?k25) (.of ?n26 ?l26 ?c26 ?k26) (.of ?n27 ?l27 ?c27 ?k27) (.of ?n28 ?l28 ?c28 ?k28) (.of ?n29 ?l29 ?c29 ?k29) ?z0 ?z1 ?z2 ?z3 ?z4 ?z5 ?z6 ?z7 ?z8 ?z9 ?z10 ?z11 ?z12 ?h0 ?h1 ?h2 ?h3 ?h4 ?h5 ?h6 ?h7 ?h8 ?h9 ?h10 ?h11 ?h12 ?h13 ?h14 ?h15 ?h16 ?h17 ?h18 ?h19 ?h20 ?h21 ?h22 ?h23 ?h24 ?h25 ?h26 ?h27 ?h28 ?h29 ?h30 ?h31 ?h32 ?h33 ?h34 ?h35 ?h36 ?h37 ?h38 ?h39 ?h40 ?h41 ?h42 ?h43 ?h44 ?h45 ?h46 ?h47 ?h48 ?h49 ?h50 ?h51 ?h52 ?h53 ?h54 ?h55 ?h56 ?h57 ?h58 ?h59 ?h60 ?h61 ?h62 ?h63 ?h64 ?h65 ?h66 ?h67 ?h68 ?h69 ?h70 ?h71 ?h72 ?h73 ?h74 ?h75 ?h76 ?h77 ?h78 ?h79 ?h80 ?h81 ?h82 ?h83 ?h84 ?h85 ?h86 ?h87 ?h88 ?h89 ?h90 ?h91 ?h92 ?h93 ?h94 ?h95 ?h96 ?h97 ?h98 ?h99 ?h100 ?h101 ?h102 ?h103 ?h104 ?h105 ?h106 ?h107 ?h108 ?h109 ?h110 ?h111 ?h112 ?h113 ?h114 ?h115 ?h116 ?h117 ?h118 ?h119 ?h120 ?h121 ?h122 ?h123 ?h124 ?h125 ?h126 ?h127 ?h128 ?h129 ?h130 ?h131 ?h132 ?h133 ?h134 ?h135 ?h136 ?h137 ?h138 ?h139 ?h140 ?h141 ?h142 ?h143 ?h144 ?h145 ?h146 ?h147 ?h148 ?h149 ?h150 ?h151 ?h152
    (case n0 => k_is)
    (case l0 => k_is)
    (case c0 => k_is)
    (case k0 => k_is)
    (case n1 => k_is)
    (case l1 => k_is)
    (case c1 => k_is)
    (case k1 => k_is)
    (case n2 => k_is)
    (case l2 => k_is)
    (case c2 => k_is)
    (case k2 => k_is)
    (case n3 => k_is)
    (case l3 => k_is)
    (case c3 => k_is)
    (case k3 => k_is)
    (case n4 => k_is)
    (case l4 => k_is)
    (case c4 => k_is)
    (case k4 => k_is)
    (case n5 => k_is)
    (case l5 => k_is)
    (case c5 => k_is)
    (case k5 => k_is)
    (case n6 => k_is)
    (case l6 => k_is)
    (case c6 => k_is)
    (case k6 => k_is)
    (case n7 => k_is)
    (case l7 => k_is)
    (case c7 => k_is)
    (case k7 => k_is)
    (case n8 => k_is)
    (case l8 => k_is)
    (case c8 => k_is)
    (case k8 => k_is)
    (case n9 => k_is)
    (case l9 => k_is)
    (case c9 => k_is)
    (case k9 => k_is)
    (case n10 => k_is)
    (case l10 => k_is)
    (case c10 => k_is)
    (case k10 => k_is)
    (case n11 => k_is)
    (case l11 => k_is)
    (case c11 => k_is)
    (case k11 => k_is)
    (case n12 => k_is)
    (case l12 => k_is)
    (case c12 => k_is)
    (case k12 => k_is)
    (case n13 => k_is)
    (case l13 => k_is)
    (case c13 => k_is)
    (case k13 => k_is)
    (case n14 => k_is)
    (case l14 => k_is)
    (case c14 => k_is)
    (case k14 => k_is)
    (case n15 => k_is)
    (case l15 => k_is)
    (case c15 => k_is)
    (case k15 => k_is)
    (case n16 => k_is)
    (case l16 => k_is)
    (case c16 => k_is)
    (case k16 => k_is)
    (case n17 => k_is)
    (case l17 => k_is)
    (case c17 => k_is)
    (case k17 => k_is)
    (case n18 => k_is)
    (case l18 => k_is)
    (case c18 => k_is)
    (case k18 => k_is)
    (case n19 => k_is)
    (case l19 => k_is)
    (case c19 => k_is)
    (case k19 => k_is)
    (case n20 => k_is)
    (case l20 => k_is)
    (case c20 => k_is)
    (case k20 => k_is)
    (case n21 => k_is)
    (case l21 => k_is)
    (case c21 => k_is)
    (case k21 => k_is)
    (case n22 => k_is)
    (case l22 => k_is)
    (case c22 => k_is)
    (case k22 => k_is)
    (case n23 => k_is)
    (case l23 => k_is)
    (case c23 => k_is)
    (case k23 => k_is)
    (case n24 => k_is)
    (case l24 => k_is)
    (case c24 => k_is)
    (case k24 => k_is)
    (case n25 => k_is)
    (case l25 => k_is)
    (case c25 => k_is)
    (case k25 => k_is)
    (case n26 => k_is)
    (case l26 => k_is)
    (case c26 => k_is)
    (case k26 => k_is)
    (case n27 => k_is)
    (case l27 => k_is)
    (case c27 => k_is)
    (case k27 => k_is)
    (case n28 => k_is)
    (case l28 => k_is)
    (case c28 => k_is)
    (case k28 => k_is)
    (case n29 => k_is)
    (case l29 => k_is)
    (case c29 => k_is)
    (case k29 => k_is)
    (case z0 => k_is)
    (case z1 => k_is)
    (case z2 => k_is)
    (case z3 => k_is)
    (case z4 => k_is)
    (case z5 => k_is)
    (case z6 => k_is)
    (case z7 => k_is)
    (case z8 => k_is)
    (case z9 => k_is)
    (case z10 => k_is)
    (case z11 => k_is)
    (case z12 => k_is)
    (case h0 => k_is)
    (case h1 => k_is)
    (case h2 => k_is)
    (case h3 => k_is)
    (case h4 => k_is)
    (case h5 => k_is)
    (case h6 => k_is)
    (case h7 => k_is)
    (case h8 => k_is)
    (case h9 => k_is)
    (case h10 => k_is)
    (case h11 => (first | rfl | k_is | kernel_rfl | decide +kernel))
    (case h12 => (first | rfl | k_is | kernel_rfl | decide +kernel))
    (case h13 => (first | rfl | k_is | kernel_rfl | decide +kernel))
    (case h14 => (first | rfl | k_is | kernel_rfl | decide +kernel))
    (case h15 => (first | rfl | k_is | kernel_rfl | decide +kernel))
    (case h16 => (first | rfl | k_is | kernel_rfl))
    (case h17 => k_is)
    (case h18 => k_is)
    (case h19 => k_is)
    (case h20 => k_is)
    (case h21 => k_is)
    (case h22 => k_is)
    (case h23 => k_is)
    (case h24 => k_is)
    (case h25 => k_is)
    (case h26 => k_is)
    (case h27 => k_is)
    (case h28 => k_is)
    (case h29 => k_is)
    (case h30 => k_is)
    (case h31 => k_is)
    (case h32 => k_is)
    (case h33 => k_is)
    (case h34 => k_is)
    (case h35 => k_is)
    (case h36 => k_is)
    (case h37 => k_is)
    (case h38 => k_is)
    (case h39 => k_is)
    (case h40 => k_is)
    (case h41 => k_is)
    (case h42 => k_is)
    (case h43 => k_is)
    (case h44 => k_is)
    (case h45 => k_is)
    (case h46 => k_is)
    (case h47 => k_is)
    (case h48 => k_is)
    (case h49 => k_is)
    (case h50 => k_is)
    (case h51 => k_is)
    (case h52 => k_is)
    (case h53 => k_is)
    (case h54 => k_is)
    (case h55 => k_is)
    (case h56 => k_is)
    (case h57 => k_is)
    (case h58 => k_is)
    (case h59 => k_is)
    (case h60 => k_is)
    (case h61 => k_is)
    (case h62 => k_is)
    (case h63 => k_is)
    (case h64 => k_is)
    (case h65 => k_is)
    (case h66 => k_is)
    (case h67 => k_is)
    (case h68 => k_is)
    (case h69 => k_is)
    (case h70 => k_is)
    (case h71 => k_is)
    (case h72 => k_is)
    (case h73 => k_is)
    (case h74 => k_is)
    (case h75 => k_is)
    (case h76 => k_is)
    (case h77 => k_is)
    (case h78 => k_is)
    (case h79 => k_is)
    (case h80 => k_is)
    (case h81 => k_is)
    (case h82 => k_is)
    (case h83 => k_is)
    (case h84 => k_is)
    (case h85 => k_is)
    (case h86 => k_is)
    (case h87 => k_is)
    (case h88 => k_is)
    (case h89 => k_is)
    (case h90 => k_is)
    (case h91 => k_is)
    (case h92 => k_is)
    (case h93 => k_is)
    (case h94 => k_is)
    (case h95 => k_is)
    (case h96 => k_is)
    (case h97 => k_is)
    (case h98 => k_is)
    (case h99 => k_is)
    (case h100 => k_is)
    (case h101 => k_is)
    (case h102 => k_is)
    (case h103 => k_is)
    (case h104 => k_is)
    (case h105 => k_is)
    (case h106 => k_is)
    (case h107 => k_is)
    (case h108 => k_is)
    (case h109 => k_is)
    (case h110 => k_is)
    (case h111 => k_is)
    (case h112 => k_is)
    (case h113 => k_is)
    (case h114 => k_is)
    (case h115 => k_is)
    (case h116 => k_is)
    (case h117 => k_is)
    (case h118 => k_is)
    (case h119 => k_is)
    (case h120 => k_is)
    (case h121 => k_is)
    (case h122 => k_is)
    (case h123 => k_is)
    (case h124 => k_is)
    (case h125 => k_is)
    (case h126 => k_is)
    (case h127 => k_is)
    (case h128 => k_is)
    (case h129 => k_is)
    (case h130 => k_is)
    (case h131 => k_is)
    (case h132 => k_is)
    (case h133 => k_is)
    (case h134 => k_is)
    (case h135 => k_is)
    (case h136 => k_is)
    (case h137 => k_is)
    (case h138 => k_is)
    (case h139 => k_is)
    (case h140 => k_is)
    (case h141 => k_is)
    (case h142 => k_is)
    (case h143 => k_is)
    (case h144 => k_is)
    (case h145 => k_is)
    (case h146 => k_is)
    (case h147 => k_is)
    (case h148 => k_is)
    (case h149 => k_is)
    (case h150 => k_is)
    (case h151 => k_is)
    (case h152 => k_is)
