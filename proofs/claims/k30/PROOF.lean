import PyProof.Rows.All
import Wide.All
import OpenK.AllK
import Wide.FinOn
import PySem.Challenge.RW_crossheaps_k30_many_pages_emptied
import HandS.ForMost
import HandS.Evl
import HandS.SortRule
import HandS.SortInts
import HandS.Conv
import HandS.Wide
import HandS.Steps
import HandS.Style
import HandS.FStrTup
set_option Elab.async false
set_option linter.all false
set_option maxRecDepth 100000
set_option maxHeartbeats 8000000
/-! Promises of defs that run where no repr is under way, the law's end for such a promise, repr of data. -/
namespace Gd
open PySem PySem.Spec PyProof.Rows L2
/-- a promise that is kept wherever no repr is under way -/
structure FnG (P : Program) (w : World) (K : PySem.W.Frag) (mg : Str → Option Value) (base : Heap) (CX : CXT) (k : Nat) (f : Addr) (fd : FuncData) (ps : List Str) (sp : Sp) : Prop where
  arity : ∀ vs H Q E, sp vs H Q E → vs.length = ps.length
  go : ∀ A, Room k A → A.guards = some [] → ∀ outer s H args us vs Q E, Env0 P w K mg base A outer s H →
    BindsTo s fd args (ps.zip us) → Vals vs us → sp vs H Q E →
      codeAny (model P w) A (.call (.ref f) args) (CR CX outer P w H s Q E) s
section
variable {P : Program} {w : World} {K : PySem.W.Frag} {mg : Str → Option Value} {base : Heap} {CX : CXT} {k : Nat} {f : Addr} {fd : FuncData} {ps : List Str} {sp : Sp}
theorem FnG.of (F : FnOk P w K mg base CX k f fd ps sp) : FnG P w K mg base CX k f fd ps sp :=
  ⟨F.len, fun A r _ outer s H args us vs Q E e b v p => F.run A outer s H args us vs Q E r e b v p⟩
theorem FnG.up {j : Nat} (F : FnG P w K mg base CX j f fd ps sp) (h : j ≤ k) : FnG P w K mg base CX k f fd ps sp :=
  ⟨F.arity, fun A r g => F.go A (r.mono h) g⟩
/-- from the body, which may know that no repr is under way -/
theorem fng_of {x qual : Str} {st : Stmt} {N : List Str} (F : Fun K x qual st f fd) (S : FnScope N ps (defScope st)) (ar : ∀ vs H Q E, sp vs H Q E → vs.length = ps.length)
    (body : ∀ (cdv : Value) (A : Around) (outer : List Env) (s : Shared) (H : Hp) (vs : List V) (Q : VK) (E : XK), Room k (A.deeper (envOfC qual (defScope st) s.heap.objs.size f cdv)) → A.guards = some [] → sp vs H Q E →
      ∃ t, PSs (cxOf CX P w K mg base N qual (defScope st) f cdv A outer s H E) (defBody st) t ∧ t { nx := fun _ H' => Q .non H', rt := Q } (start N vs) H) :
    FnG P w K mg base CX (k + 1) f fd ps sp := by
  obtain ⟨⟨oc, od, kV, doc, pm, an, cdv, ct, osl, rfl, look, code⟩, _⟩ := F
  refine ⟨ar, fun A room gd outer s H args us vs Q E env bind rel want => ?_⟩
  have inK : K.In s.heap := env.mod.kin.keeps (fun b o h => (env.bs b o h).1)
  have free : s.heap.NoLimit := env.mod.nolimit.keeps (fun b o h => (env.bs b o h).1)
  have hv := ar vs H Q E want
  refine Att.call_fn inK free look code room.depth bind ?_ (fun s1 inside => ?_) S.co S.gen S.kind
  · refine List.all_eq_true.mpr fun y hy => ?_
    have hp := S.par y.1 (List.of_mem_zip (show (y.1, y.2) ∈ ps.zip us from hy)).1
    rcases hp with q | q
    · rw [q]; rfl
    · rw [q]; rfl
  · obtain ⟨t, derive, reads⟩ := body cdv A outer s H vs Q E (room.deeper _) gd want
    have inv := inv_start (CX := CX) (E := E) S room.hd env hv rel inside
    refine wpAny_mono (derive.run [] s1 (start N vs) H _ inv reads) ?_ (fun _ _ left => left)
    intro flow s2 post
    cases flow with
    | brk => exact (post.choose_spec.choose_spec).2.elim
    | cont => exact (post.choose_spec.choose_spec).2.elim
    | next =>
      obtain ⟨_, H2, J, q⟩ := post
      exact ⟨.non, H2, J.os, J.bare, J.base, J.hok, rfl, q⟩
    | ret u =>
      obtain ⟨v, _, H2, J, rv, q⟩ := post
      exact ⟨v, H2, J.os, J.bare, J.base, J.hok, rv, q⟩
end
end Gd
namespace Gd
open PySem PySem.Spec PyProof.Rows L2
section
variable {X : Cx} {CX : CXT} {k : Nat} {f : Addr} {fd : FuncData} {ps : List Str} {sp : Sp} {dvs : List V} {ds : List Value} {E : XK}
/-- the callee runs, as run_fn says it, where no repr is under way -/
theorem runG {pins : List (Addr × Obj)} {σ : L2.St} {H : Hp} {s : Shared} {Q : VK} {us : List Value} {vs : List V} (F : FnG X.prog X.w X.K X.mg X.base CX k f fd ps sp) (room : Room k X.A) (gd : X.A.guards = some [])
    (bind : Binds X.K fd ps ds) (dflt : Vals dvs ds) (pass : Passes CX X E) (I : Inv X pins σ H s) (rel : Vals vs us) (want : sp (vs ++ dvs) H Q E) :
    wpAny (model X.prog X.w) X.A (call (.ref f) us) (EP X pins σ Q) X.xe s := by
  have rel2 := rel.append dflt
  have many : (us ++ ds).length = ps.length := rel2.length.symm.trans (F.arity _ _ _ _ want)
  have ran := F.go X.A room gd X.stack s H ⟨us, []⟩ _ _ Q E I.env0 (bind s us I.kIn many) rel2 want
  refine wpAny_call (codeAny_mono ran ?_)
  intro r s2 post
  rcases r with err | flow
  · exact pass _ _ _ _ _ _ I post
  · cases flow with
    | ret u => exact I.after post
    | next => exact post.elim
    | brk => exact post.elim
    | cont => exact post.elim
theorem pe_callG {x : Str} {p pos : Pos} {e : Expr} {es : List Expr} {t : TA} (F : FnG X.prog X.w X.K X.mg X.base CX k f fd ps sp) (room : Room k X.A) (gd : X.A.guards = some []) (isGl : Gl X x) (at_ : X.mg x = some (.ref f))
    (kept : PySem.W.keepIn X.K (.ref f) = true) (bind : Binds X.K fd ps ds) (dflt : Vals dvs ds) (pass : Passes CX X E)
    (args : PA X (e :: es) t) (nodbg : (x == ("__debug__" : Str)) = false := by decide) (star : starEach (e :: es) X.env = (false, eval e X.env) :: starEach es X.env := by rfl) (plain : (backTo pos (starEach es X.env)).any (·.1) = false := by rfl) :
    PE X (.Call (.Name x p) (e :: es) [] pos) (tCall sp dvs E t) := by
  constructor
  intro pins s σ H Q I want
  refine wpAny_Call_Name_kw (ld_glob I isGl at_ ?_ nodbg)
  refine PySem.W.callWith_K (h₀ := X.base) I.ok.mod.kin kept ?_ star plain
  refine thn (args.run pos pins s σ H _ I want) ?_
  rintro us s1 ⟨vs, H1, I1, rel, q⟩
  exact ⟨I1.kIn, runG F room gd bind dflt pass I1 rel q⟩
end
/-! ### the law's end -/
/-- the script as the only thing that is tracked -/
def scriptAt (a : Addr) (o : Obj) (xs : List V) : Hp := fun b => if b = a then some (.frz o (.lst xs)) else none
theorem scriptAt_same {a : Addr} {o : Obj} {xs : List V} : scriptAt a o xs a = some (.frz o (.lst xs)) := if_pos rfl
theorem scriptAt_some {a b : Addr} {o : Obj} {xs : List V} {u : HO} (h : scriptAt a o xs b = some u) : b = a ∧ u = .frz o (.lst xs) := by
  unfold scriptAt at h
  by_cases e : b = a
  · rw [if_pos e] at h
    exact ⟨e, (Option.some.inj h).symm⟩
  · rw [if_neg e] at h
    cases h
theorem scriptAt_ne {a b : Addr} {o : Obj} {xs : List V} (h : b ≠ a) : scriptAt a o xs b = none := if_neg h
section
variable {P : Program} {w : World} {K : PySem.W.Frag} {mg mb : Str → Option Value} {CX : CXT} {k : Nat} {fa a : Addr} {fd : FuncData} {x : Str} {sp : Sp} {s1 : Shared} {vs : List Value} {ns : List Int}
/-- the law's call, from an abstract heap that tracks at most the script -/
theorem law_from {H : Hp} {o : Obj} (own : ∀ b u, H b = some u → b = a ∧ u = .frz o (.lst (ns.map V.int))) (offK : H a ≠ none → K.lookup a = none)
    (inK : K.In s1.heap) (glob : s1.heap.Ns mainGlobals mg) (blt : s1.heap.Ns builtinsNs mb) (std : ∀ x : Str, x ≠ "__name__" → mb x = bootBuiltins x) (free : s1.heap.NoLimit) (nogen : s1.gens = #[])
    (here : s1.heap.get? a = some { cls := .type "list", data := .seq vs.toArray }) (ho : o = { cls := .type "list", data := .seq vs.toArray }) (ok : HOk P w H s1.heap) (room : Room k callerA)
    (F : ∀ base : Heap, K.In base → base.Ns mainGlobals mg → FnG P w K mg base CX k fa fd [x] sp) (bind : ∀ (s : Shared) (u : Value), BindsTo s fd ⟨[u], []⟩ [(x, u)])
    (want : sp [.ref a] H (fun v _ => v = .bl true) fun _ _ _ => False) (noX : ∀ e s2, CX [] H s1 (fun _ _ _ => False) e s2 → False) :
    codeAny (model P w) callerA (.call (.ref fa) ⟨[.ref a], []⟩) (fun r s2 => r = .ok (.ret (.bool true)) ∧ OldK s1.heap s2.heap ∧ s2.os = s1.os ∧ AllBare s2.gens) s1 := by
  have dicts : ∀ {b : Addr} {m : Str → Option Value}, s1.heap.Ns b m → (hidT s1.heap H).Ns b m := by
    rintro b m ⟨ob, es, ep, gb, isD, r⟩
    refine ⟨ob, es, ep, hidT_get gb ?_, isD, r⟩
    cases hb : H b with
    | none => rfl
    | some u =>
      obtain ⟨rfl, _⟩ := own b u hb
      rw [here] at gb
      have e := Option.some.inj gb
      rw [← e] at isD
      cases isD
  have inB : K.In (hidT s1.heap H) := by
    intro b ob hb
    refine hidT_get (inK b ob hb) ?_
    cases hh : H b with
    | none => rfl
    | some u =>
      obtain ⟨rfl, _⟩ := own b u hh
      rw [offK (by rw [hh]; exact Option.some_ne_none _)] at hb
      cases hb
  have md : Mod K mg (hidT s1.heap H) := ⟨inB, dicts glob, ⟨mb, dicts blt, std⟩, free.imp fun _ h => ⟨dicts h.1, h.2⟩⟩
  have env : Env0 P w K mg (hidT s1.heap H) callerA [] s1 H := by
    refine ⟨rfl, md, fun b ob hb => of_hidT hb, Nat.le_of_eq (hidT_size _ _), trivial, ?_, ok, .of_eq nogen⟩
    intro b hb
    cases hb
  have ran := (F _ inB (dicts glob)).go callerA room rfl [] s1 H ⟨[.ref a], []⟩ [.ref a] [.ref a] _ _ env (bind s1 (.ref a)) (.cons rfl .nil) want
  refine codeAny_mono ran ?_
  intro r s2 post
  rcases r with err | flow
  · exact (noX _ _ post).elim
  · cases flow with
    | next => exact post.elim
    | brk => exact post.elim
    | cont => exact post.elim
    | ret u =>
      obtain ⟨v, H2, eos, eb, ch, ok2, rv, rfl⟩ := post
      have eu : u = Value.bool true := rv
      refine ⟨by rw [eu], OldK.of_keep (fun b ob hb => ?_), eos, eb⟩
      cases hh : H b with
      | none => exact ch.keep b ob hb hh (fun z => nomatch z) (fun z => nomatch z)
      | some u2 =>
        obtain ⟨rfl, rfl⟩ := own b u2 hh
        have a1 := (ok b _ hh).1
        have a2 := (ok2 b _ (ch.frzs b o _ hh)).1
        rw [hb] at a1
        exact a2.trans a1.symm
theorem law_callG (inK : K.In s1.heap) (glob : s1.heap.Ns mainGlobals mg) (blt : s1.heap.Ns builtinsNs mb) (std : ∀ x : Str, x ≠ "__name__" → mb x = bootBuiltins x) (free : s1.heap.NoLimit) (nogen : s1.gens = #[])
    (here : s1.heap.get? a = some { cls := .type "list", data := .seq vs.toArray }) (isI : IntsAre vs ns) (many : ns.length ≤ sizeLine) (room : Room k callerA)
    (F : ∀ base : Heap, K.In base → base.Ns mainGlobals mg → FnG P w K mg base CX k fa fd [x] sp) (bind : ∀ (s : Shared) (u : Value), BindsTo s fd ⟨[u], []⟩ [(x, u)])
    (want : ∀ H : Hp, Only H → SqL K H a (ns.map V.int) → sp [.ref a] H (fun v _ => v = .bl true) fun _ _ _ => False) (noX : ∀ H e s2, CX [] H s1 (fun _ _ _ => False) e s2 → False) :
    codeAny (model P w) callerA (.call (.ref fa) ⟨[.ref a], []⟩) (fun r s2 => r = .ok (.ret (.bool true)) ∧ OldK s1.heap s2.heap ∧ s2.os = s1.os ∧ AllBare s2.gens) s1 := by
  have rel := vals_ints isI
  cases inMod : K.lookup a with
  | some o =>
    have same : o = { cls := .type "list", data := .seq vs.toArray } := Option.some.inj ((inK a o inMod).symm.trans here)
    subst same
    have sq : SqL K (fun _ => none) a (ns.map V.int) := .inr ⟨_, vs.toArray, _, inMod, rfl, rfl, rfl, by rw [List.size_toArray, isI.length]; exact many, by simpa using rel⟩
    refine law_from (H := fun _ => none) (o := { cls := .type "list", data := .seq vs.toArray }) (ns := ns) (fun _ _ h => nomatch h) (fun h => absurd rfl h) inK glob blt std free nogen here rfl (fun _ _ h => nomatch h) room F bind (want _ (fun _ => .inl rfl) sq) (noX _)
  | none =>
    refine law_from (H := scriptAt a { cls := .type "list", data := .seq vs.toArray } (ns.map V.int)) (fun _ _ h => scriptAt_some h) (fun _ => inMod) inK glob blt std free nogen here rfl ?_ room F bind (want _ (fun b => ?_) (.inl (.inr ⟨_, scriptAt_same⟩))) (noX _)
    · intro b u h
      obtain ⟨rfl, rfl⟩ := scriptAt_some h
      exact ⟨here, by rw [List.length_map]; exact many, vs, _, rel, here⟩
    · cases h : scriptAt a { cls := .type "list", data := .seq vs.toArray } (ns.map V.int) b with
      | none => exact .inl rfl
      | some u => exact .inr ⟨_, _, by rw [(scriptAt_some h).2]⟩
end
/-- what k_head leaves, from a promise that is kept where no repr is under way -/
theorem walkG {l : PySem.W.OpenLaw} {n k : Nat} {q : Program} {loose : List Str} {XP : (Str → Option Value) → Heap → Prop} {YP : World → Heap → Prop} {d : DefRec} {K : Params → PySem.W.Frag} {CX : World → CXT} {sp : World → Sp} {x : Str}
    (most : l.most = some n) (small : n ≤ sizeLine) (nodef : d.params.defaults = []) (room : Room k callerA) (kin : ∀ (w : World) (h : Heap), YP w h → (K w.params).In h)
    (F : ∀ (w : World) (mg : Str → Option Value) (fa : Addr) (h : Heap), (K w.params).In h → h.Ns mainGlobals mg → mg d.name = some (.ref fa) →
      ∃ fd : FuncData, (∀ (s : Shared) (u : Value), BindsTo s fd ⟨[u], []⟩ [(x, u)]) ∧ ∀ base : Heap, (K w.params).In base → base.Ns mainGlobals mg → FnG l.prog w (K w.params) mg base (CX w) k fa fd [x] (sp w))
    (want : ∀ (w : World) (H : Hp) (a : Addr) (ns : List Int), ns.length ≤ n → Only H → SqL (K w.params) H a (ns.map V.int) → sp w [.ref a] H (fun v _ => v = .bl true) fun _ _ _ => False)
    (noX : ∀ (w : World) (H : Hp) (s : Shared) (e : Value) (s2 : Shared), CX w [] H s (fun _ _ _ => False) e s2 → False) :
    PySem.W.WalkO q loose XP YP l.row.toRowW d [] (fun f vs => PySem.call f vs) := by
  apply Att.attach_call most nodef
  intro w s0 s1 mg mb fa o pm cd doc a vs ns G Y go isF code named here isI many nogen
  have inK := kin w _ Y
  obtain ⟨fd, bind, hF⟩ := F w mg fa _ inK G.T.g named
  exact law_callG inK G.T.g G.T.b G.T.builtins G.T.nolimit nogen here isI (Nat.le_trans many small) room hF bind (fun H only sq => want w H a ns many only sq) (fun H e s2 => noX w H s1 e s2)
section
variable {X : Cx}
/-- repr of data without dicts -/
def rReprD (K : PySem.W.Frag) : List V → Hp → VK → Prop := fun xs H Q => ∃ x d, xs = [x] ∧ Dp K H x d ∧ d.showable = true ∧ d.hasDict = false ∧ d.depth ≤ 40 ∧ d.shown.length ≤ sizeLine ∧ Q (.str d.shown) H
theorem call_reprD (gd : X.A.guards = some []) (un : X.A.units + 64 < cLine) : CallR X (.builtin "repr") (rReprD X.K) := by
  rintro pins s σ H xs us Q I rel ⟨x, d, rfl, hd, sh, nod, dep, sz, q⟩
  obtain ⟨u, rfl, rv⟩ := vals1 rel
  obtain ⟨as, reads⟩ := Dp.reads I d x u hd rv
  cases hd with
  | non =>
    cases rv
    refine PySem.P.repr_of_none ?_
    exact ⟨.str "None", H, I.tok _, ⟨_, rfl⟩, q⟩
  | bl b =>
    cases rv
    refine PySem.P.repr_of_bool ?_
    exact ⟨.str (if b then "True" else "False"), H, I.tok _, ⟨_, rfl⟩, q⟩
  | int i =>
    obtain ⟨t, rfl⟩ := rv
    refine PySem.P.repr_of_int ?_ ⟨.str _, H, I.tok _, ⟨_, rfl⟩, q⟩
    simpa [PyData.showable] using sh
  | str z =>
    obtain ⟨t, rfl⟩ := rv
    exact PySem.P.repr_of_str ⟨.str _, H, I.tok _, ⟨_, rfl⟩, q⟩ sz
  | lst h1 h2 =>
    cases rv
    exact repr_of_reads' reads sh (PyData.noDict_hsm nod) gd (by omega) (fun _ _ e => e) (fun h2 u2 tk keep => ⟨.str _, H, I.kept keep, ⟨u2, rfl⟩, q⟩) sz
  | tup h1 h2 =>
    cases rv
    exact repr_of_reads' reads sh (PyData.noDict_hsm nod) gd (by omega) (fun _ _ e => e) (fun h2 u2 tk keep => ⟨.str _, H, I.kept keep, ⟨u2, rfl⟩, q⟩) sz
end
end Gd
/-! Greedy emptying of pages, as plain functions over (page, objects, pinned). -/
namespace Pg
abbrev Row := Int × Int × Bool
def leP (x y : Int × Int) : Bool := decide (x.1 < y.1) || (decide (x.1 = y.1) && decide (x.2 ≤ y.2))
def pairsOf (rows : List Row) : List (Int × Int) := (rows.filter fun r => !r.2.2).map fun r => (r.2.1, r.1)
def loads (rows : List Row) : List (Int × Int) := (pairsOf rows).mergeSort leP
def total (rows : List Row) : Int := (rows.map fun r => r.2.1).sum
def bound (rows : List Row) : Int := rows.length - (total rows + 8 - 1) / 8
/-- the first ones, as long as fewer than so many are taken and the moves are enough -/
def taken (B : Int) : Int → Nat → List (Int × Int) → List (Int × Int)
  | _, _, [] => []
  | left, c, p :: r => if (c : Int) = B ∨ left < p.1 then [] else p :: taken B (left - p.1) (c + 1) r
def leI (x y : Int) : Bool := decide (x ≤ y)
def pages (t : List (Int × Int)) : List Int := (t.map (·.2)).mergeSort leI
def emp (rows : List Row) (moves : Int) : List Int := pages (taken (bound rows) moves 0 (loads rows))
def paid (t : List (Int × Int)) : Int := (t.map (·.1)).sum
theorem leP_trans (a b c : Int × Int) (h1 : leP a b = true) (h2 : leP b c = true) : leP a c = true := by
  simp only [leP, Bool.or_eq_true, Bool.and_eq_true, decide_eq_true_eq] at *
  omega
theorem leP_total (a b : Int × Int) : (leP a b || leP b a) = true := by
  simp only [leP, Bool.or_eq_true, Bool.and_eq_true, decide_eq_true_eq]
  omega
theorem leP_anti (a b : Int × Int) (h1 : leP a b = true) (h2 : leP b a = true) : a = b := by
  obtain ⟨a1, a2⟩ := a
  obtain ⟨b1, b2⟩ := b
  simp only [leP, Bool.or_eq_true, Bool.and_eq_true, decide_eq_true_eq] at *
  have h1' : a1 = b1 := by omega
  have h2' : a2 = b2 := by omega
  rw [h1', h2']
theorem loads_perm (rows : List Row) : (loads rows).Perm (pairsOf rows) := List.mergeSort_perm _ _
theorem loads_uniq {rows : List Row} {l : List (Int × Int)} (p : l.Perm (pairsOf rows)) (s : l.Pairwise fun a b => leP a b = true) : l = loads rows :=
  List.Perm.eq_of_pairwise (le := fun a b => leP a b = true) (fun a b _ _ h1 h2 => leP_anti a b h1 h2) s (List.pairwise_mergeSort leP_trans leP_total _) (p.trans (loads_perm rows).symm)
theorem leI_trans (a b c : Int) (h1 : leI a b = true) (h2 : leI b c = true) : leI a c = true := by
  simp only [leI, decide_eq_true_eq] at *
  omega
theorem leI_total (a b : Int) : (leI a b || leI b a) = true := by
  simp only [leI, Bool.or_eq_true, decide_eq_true_eq]
  omega
theorem sort_uniq {xs l : List Int} (p : l.Perm xs) (s : l.Pairwise (· ≤ ·)) : l = xs.mergeSort leI :=
  List.Perm.eq_of_pairwise (le := fun a b => leI a b = true) (fun a b _ _ h1 h2 => by
    simp only [leI, decide_eq_true_eq] at h1 h2
    omega) (s.imp fun h => decide_eq_true h) (List.pairwise_mergeSort leI_trans leI_total _) (p.trans (List.mergeSort_perm _ _).symm)
theorem taken_cons {B left : Int} {c : Nat} {p : Int × Int} {r : List (Int × Int)} : taken B left c (p :: r) = if (c : Int) = B ∨ left < p.1 then [] else p :: taken B (left - p.1) (c + 1) r := rfl
theorem taken_sub {B : Int} : ∀ (l : List (Int × Int)) (left : Int) (c : Nat), (taken B left c l).Sublist l
  | [], _, _ => List.Sublist.refl _
  | p :: r, left, c => by
    rw [taken_cons]
    split
    · exact List.nil_sublist _
    · exact (taken_sub r _ _).cons₂ p
theorem taken_le {B : Int} : ∀ (l : List (Int × Int)) (left : Int) (c : Nat), 0 ≤ left → paid (taken B left c l) ≤ left
  | [], left, c, h => h
  | p :: r, left, c, h => by
    rw [taken_cons]
    split
    · exact h
    · have ih := taken_le (B := B) r (left - p.1) (c + 1) (by omega)
      show p.1 + paid _ ≤ left
      omega
theorem paid_nn : ∀ (l : List (Int × Int)), (∀ p ∈ l, 1 ≤ p.1) → (l.length : Int) ≤ paid l
  | [], _ => by show ((0 : Nat) : Int) ≤ 0; omega
  | p :: r, h => by
    have ih := paid_nn r fun q hq => h q (List.mem_cons_of_mem _ hq)
    have h1 := h p List.mem_cons_self
    show ((r.length + 1 : Nat) : Int) ≤ p.1 + paid r
    omega
theorem taken_pos {B left : Int} {c : Nat} {l : List (Int × Int)} (h : ∀ p ∈ l, 1 ≤ p.1) : ∀ p ∈ taken B left c l, 1 ≤ p.1 := fun p hp => h p ((taken_sub l left c).mem hp)
theorem taken_paid {B : Int} : ∀ (l : List (Int × Int)) (left : Int) (c : Nat), (∀ p ∈ l, 1 ≤ p.1) → taken B (paid (taken B left c l)) c l = taken B left c l
  | [], _, _, _ => rfl
  | p :: r, left, c, h => by
    by_cases q : (c : Int) = B ∨ left < p.1
    · have e : taken B left c (p :: r) = [] := by
        rw [taken_cons]
        rw [if_pos q]
      rw [e]
      have h1 := h p List.mem_cons_self
      rw [taken_cons]
      rw [if_pos (show (c : Int) = B ∨ paid [] < p.1 from .inr (by show (0 : Int) < p.1; omega))]
    · have e : taken B left c (p :: r) = p :: taken B (left - p.1) (c + 1) r := by
        rw [taken_cons]
        rw [if_neg q]
      rw [e]
      have hr := fun q hq => h q (List.mem_cons_of_mem p hq)
      have nn := paid_nn _ (taken_pos (B := B) (left := left - p.1) (c := c + 1) hr)
      have s : paid (p :: taken B (left - p.1) (c + 1) r) = p.1 + paid (taken B (left - p.1) (c + 1) r) := rfl
      rw [s]
      have ih := taken_paid (B := B) r (left - p.1) (c + 1) hr
      rw [taken_cons]
      rw [if_neg (show ¬ ((c : Int) = B ∨ p.1 + paid (taken B (left - p.1) (c + 1) r) < p.1) by omega)]
      rw [show p.1 + paid (taken B (left - p.1) (c + 1) r) - p.1 = paid (taken B (left - p.1) (c + 1) r) by omega, ih]
theorem taken_less {B : Int} : ∀ (l : List (Int × Int)) (left : Int) (c : Nat), (∀ p ∈ l, 1 ≤ p.1) → 0 < paid (taken B left c l) → (taken B (paid (taken B left c l) - 1) c l).length + 1 = (taken B left c l).length
  | [], _, _, _, h => absurd h (by show ¬ (0 : Int) < 0; omega)
  | p :: r, left, c, h, h0 => by
    by_cases q : (c : Int) = B ∨ left < p.1
    · have e : taken B left c (p :: r) = [] := by
        rw [taken_cons]
        rw [if_pos q]
      rw [e] at h0
      exact absurd h0 (by show ¬ (0 : Int) < 0; omega)
    · have e : taken B left c (p :: r) = p :: taken B (left - p.1) (c + 1) r := by
        rw [taken_cons]
        rw [if_neg q]
      rw [e]
      have hr := fun q hq => h q (List.mem_cons_of_mem p hq)
      have hT := taken_pos (B := B) (left := left - p.1) (c := c + 1) hr
      have nn := paid_nn _ hT
      have s : paid (p :: taken B (left - p.1) (c + 1) r) = p.1 + paid (taken B (left - p.1) (c + 1) r) := rfl
      rw [s]
      by_cases z : 0 < paid (taken B (left - p.1) (c + 1) r)
      · have ih := taken_less (B := B) r (left - p.1) (c + 1) hr z
        have e2 : taken B (p.1 + paid (taken B (left - p.1) (c + 1) r) - 1) c (p :: r) = p :: taken B (paid (taken B (left - p.1) (c + 1) r) - 1) (c + 1) r := by
          rw [taken_cons]
          rw [if_neg (show ¬ ((c : Int) = B ∨ p.1 + paid (taken B (left - p.1) (c + 1) r) - 1 < p.1) by omega)]
          rw [show p.1 + paid (taken B (left - p.1) (c + 1) r) - 1 - p.1 = paid (taken B (left - p.1) (c + 1) r) - 1 by omega]
        rw [e2]
        simp only [List.length_cons]
        omega
      · have e2 : taken B (p.1 + paid (taken B (left - p.1) (c + 1) r) - 1) c (p :: r) = [] := by
          rw [taken_cons]
          rw [if_pos (show (c : Int) = B ∨ p.1 + paid (taken B (left - p.1) (c + 1) r) - 1 < p.1 from .inr (by omega))]
        rw [e2]
        simp only [List.length_cons, List.length_nil]
        omega
/-- a turn of the greedy loop -/
theorem taken_at {B left : Int} {c : Nat} {l : List (Int × Int)} {p : Int × Int} (h : l[c]? = some p) : taken B left c (l.drop c) = if (c : Int) = B ∨ left < p.1 then [] else p :: taken B (left - p.1) (c + 1) (l.drop (c + 1)) := by
  have hc : c < l.length := (List.getElem?_eq_some_iff.mp h).1
  have e : l.drop c = p :: l.drop (c + 1) := by
    rw [List.drop_eq_getElem_cons hc]
    have := (List.getElem?_eq_some_iff.mp h).2
    rw [this]
  rw [e, taken_cons]
def room (rows : List Row) : Int := (rows.map fun r => 8 - r.2.1).sum
theorem room_eq : ∀ rows : List Row, room rows = 8 * (rows.length : Int) - total rows
  | [] => by show (0 : Int) = 8 * ((0 : Nat) : Int) - 0; omega
  | r :: rs => by
    have ih := room_eq rs
    have e1 : room (r :: rs) = (8 - r.2.1) + room rs := rfl
    have e2 : total (r :: rs) = r.2.1 + total rs := rfl
    rw [e1, e2, ih, List.length_cons]
    omega
theorem total_le : ∀ rows : List Row, (∀ r ∈ rows, 1 ≤ r.2.1 ∧ r.2.1 ≤ 8) → 0 ≤ total rows ∧ total rows ≤ 8 * (rows.length : Int)
  | [], _ => by constructor <;> (show (_ : Int) ≤ _; simp [total])
  | r :: rs, h => by
    have ih := total_le rs fun q hq => h q (List.mem_cons_of_mem _ hq)
    have h1 := h r List.mem_cons_self
    have e2 : total (r :: rs) = r.2.1 + total rs := rfl
    rw [e2, List.length_cons]
    omega
theorem full_iff {rows : List Row} (h : ∀ r ∈ rows, 1 ≤ r.2.1 ∧ r.2.1 ≤ 8) {c : Nat} (hc : (c : Int) ≤ bound rows) : (c : Int) = bound rows ↔ room rows < 8 * (c : Int) + 8 := by
  have h1 := room_eq rows
  have h2 := total_le rows h
  unfold bound at *
  omega
theorem bound_nn {rows : List Row} (h : ∀ r ∈ rows, 1 ≤ r.2.1 ∧ r.2.1 ≤ 8) : 0 ≤ bound rows := by
  have h2 := total_le rows h
  unfold bound
  omega
theorem loads_pos {rows : List Row} (h : ∀ r ∈ rows, 1 ≤ r.2.1 ∧ r.2.1 ≤ 8) : ∀ p ∈ loads rows, 1 ≤ p.1 := by
  intro p hp
  have hp' := (loads_perm rows).mem_iff.mp hp
  unfold pairsOf at hp'
  obtain ⟨r, hr, rfl⟩ := List.mem_map.mp hp'
  exact (h r (List.mem_filter.mp hr).1).1
theorem emp_len (rows : List Row) (m : Int) : (emp rows m).length ≤ rows.length := by
  unfold emp pages
  rw [(List.mergeSort_perm _ _).length_eq, List.length_map]
  refine Nat.le_trans (taken_sub _ _ _).length_le ?_
  rw [(loads_perm rows).length_eq]
  unfold pairsOf
  rw [List.length_map]
  exact List.length_filter_le _ _
theorem emp_mem {rows : List Row} {m x : Int} (h : x ∈ emp rows m) : ∃ r ∈ rows, r.1 = x := by
  unfold emp pages at h
  have h1 := (List.mergeSort_perm _ _).mem_iff.mp h
  obtain ⟨p, hp, rfl⟩ := List.mem_map.mp h1
  have h2 := (loads_perm rows).mem_iff.mp ((taken_sub _ _ _).mem hp)
  unfold pairsOf at h2
  obtain ⟨r, hr, rfl⟩ := List.mem_map.mp h2
  exact ⟨r, (List.mem_filter.mp hr).1, rfl⟩
theorem perm_sum {l m : List Int} (h : l.Perm m) : l.sum = m.sum := by
  induction h with
  | nil => rfl
  | cons x _ ih => rw [List.sum_cons, List.sum_cons, ih]
  | swap x y l =>
    simp only [List.sum_cons]
    omega
  | trans _ _ a b => rw [a, b]
/-- what the pages hold, summed by the page's objects -/
theorem paid_by {rows : List Row} {m : Int} {f : Int → Int} (h : ∀ r ∈ rows, f r.1 = r.2.1) : ((emp rows m).map f).sum = paid (taken (bound rows) m 0 (loads rows)) := by
  unfold emp pages paid
  rw [perm_sum ((List.mergeSort_perm _ _).map f), List.map_map]
  congr 1
  refine List.map_congr_left fun p hp => ?_
  have h2 := (loads_perm rows).mem_iff.mp ((taken_sub _ _ _).mem hp)
  unfold pairsOf at h2
  obtain ⟨r, hr, rfl⟩ := List.mem_map.mp h2
  exact h r (List.mem_filter.mp hr).1
end Pg
namespace Pg
open PySem PySem.Spec PyProof.Rows L2 Evl Gd
/-- rows as they lie: a tuple of tuples (page, objects, pinned) -/
def RowsAt (K : PySem.W.Frag) (H : Hp) (a : Addr) (rs : List (Addr × Row)) : Prop :=
  SqT K H a (rs.map fun r => V.ref r.1) ∧ ∀ r ∈ rs, SqT K H r.1 [.int r.2.1, .int r.2.2.1, .bl r.2.2.2]
theorem RowsAt.ex {K : PySem.W.Frag} {H H' : Hp} {a : Addr} {rs : List (Addr × Row)} (e : Ex H H') (h : RowsAt K H a rs) : RowsAt K H' a rs :=
  ⟨ex_t e h.1, fun r hr => ex_t e (h.2 r hr)⟩
theorem rows_at {rs : List (Addr × Row)} {i : Nat} {x : V} (h : (rs.map fun r => V.ref r.1)[i]? = some x) : ∃ r, rs[i]? = some r ∧ x = .ref r.1 := by
  rw [List.getElem?_map] at h
  cases e : rs[i]? with
  | none => rw [e] at h; cases h
  | some r =>
    rw [e] at h
    exact ⟨r, rfl, (Option.some.inj h).symm⟩
abbrev g3 (K : PySem.W.Frag) (i j k : Nat) : TG := gTup K 3 (gCons (gName i) (gCons (gName j) (gCons (gName k) gNil)))
theorem take_succ_map {α β : Type} {l : List α} {i : Nat} {x : α} (f : α → β) (h : l[i]? = some x) : (l.take (i + 1)).map f = (l.take i).map f ++ [f x] := by
  rw [List.take_add_one, h, List.map_append]
  rfl
/-- [e for x in a tuple] -/
theorem el_lcT {K : PySem.W.Frag} {a : Addr} {xs ys : List V} {tl te : TE} {σ : L2.St} {H : Hp} {j : Nat} {vs : List Nat}
    (h : Ev tl σ H (.ref a)) (hx : SqT K H a xs) (hl : ys.length = xs.length) (hz : xs.length ≤ 40000) (hw : ∀ x, wipe ((wipe σ vs).set j (some x)) vs = wipe σ vs)
    (he : ∀ (i : Nat) x y, xs[i]? = some x → ys[i]? = some y → ∀ H1, Ex H H1 → Ev te ((wipe σ vs).set j (some x)) H1 y) :
    EvL (tLc (iTup K tl) (gName j) tYes te vs) σ H ys := by
  intro H0 e Q q
  refine h H0 e _ fun H1 e1 => ?_
  have hx1 := ex_t (e.trans e1) hx
  refine ⟨a, rfl, ⟨_, hx1⟩, fun D hD => lc_tup (xs := xs) (fun n H' => Ex H1 H' ∧ H' D = some (.lst (ys.take n))) ⟨Ex.new hD, upd_same⟩ (fun n H' _ p => ex_t p.1 hx1) ?_ ?_⟩
  · intro n x H' hn p
    have hlt := (List.getElem?_eq_some_iff.mp hn).1
    have hy : ys[n]? = some (ys[n]'(by omega)) := List.getElem?_eq_getElem _
    refine ⟨hw _, ?_⟩
    show te _ H' _
    refine he n x _ hn hy H' ((e.trans e1).trans p.1) H' (Ex.refl H') _ fun H3 e3 => ?_
    refine ⟨_, e3 D _ p.2, sz_lt (by rw [List.length_take]; omega), Ex.mut (p.1.trans e3) hD, ?_⟩
    rw [upd_same, List.take_add_one, hy]
    rfl
  · intro H' p
    rw [← hl, List.take_length] at p
    exact q D H' (fresh_back e1 hD) (e1.trans p.1) p.2
/-- sum of a new list of ints -/
theorem ev_sumL {K : PySem.W.Frag} {te : TE} {σ : L2.St} {H : Hp} {ns : List Int} (h : EvL te σ H (ns.map V.int)) : Ev (tCB (rSum K) (tCons te tNil)) σ H (.int ns.sum) := by
  intro H1 e Q q
  refine h H1 e _ fun p H2 _ e2 hp => ?_
  exact ⟨p, ns, rfl, sq_of hp, q H2 e2⟩
/-- [e for page, objects, pinned in rows], e an int -/
theorem el_rowsI {K : PySem.W.Frag} {a : Addr} {rs : List (Addr × Row)} {tl te : TE} {σ : L2.St} {H : Hp} {i j k : Nat} {vs : List Nat} (f : Row → Int)
    (h : Ev tl σ H (.ref a)) (hR : RowsAt K H a rs) (hz : rs.length ≤ 40000) (hw : ∀ x y z, wipe ((((wipe σ vs).set i (some x)).set j (some y)).set k (some z)) vs = wipe σ vs)
    (he : ∀ r ∈ rs, ∀ H1, Ex H H1 → Ev te ((((wipe σ vs).set i (some (.int r.2.1))).set j (some (.int r.2.2.1))).set k (some (.bl r.2.2.2))) H1 (.int (f r.2))) :
    EvL (tLc (iTup K tl) (g3 K i j k) tYes te vs) σ H ((rs.map fun r => f r.2).map V.int) := by
  intro H0 e Q q
  refine h H0 e _ fun H1 e1 => ?_
  have hR1 := hR.ex (e.trans e1)
  refine ⟨a, rfl, ⟨_, hR1.1⟩, fun D hD => lc_tup (xs := rs.map fun r => V.ref r.1) (fun n H' => Ex H1 H' ∧ H' D = some (.lst (((rs.take n).map fun r => f r.2).map V.int))) ⟨Ex.new hD, upd_same⟩ (fun n H' _ p => ex_t p.1 hR1.1) ?_ ?_⟩
  · intro n x H' hx p
    obtain ⟨r, hr, rfl⟩ := rows_at hx
    have hm : r ∈ rs := List.mem_of_getElem? hr
    have hlt := (List.getElem?_eq_some_iff.mp hr).1
    refine ⟨r.1, _, rfl, ex_t p.1 (hR1.2 r hm), rfl, .int r.2.1, _, rfl, .int r.2.2.1, _, rfl, .bl r.2.2.2, [], rfl, rfl, hw _ _ _, ?_⟩
    show te _ H' _
    refine he r hm H' ((e.trans e1).trans p.1) H' (Ex.refl H') _ fun H3 e3 => ?_
    refine ⟨_, e3 D _ p.2, sz_lt (by rw [List.length_map, List.length_map, List.length_take]; omega), Ex.mut (p.1.trans e3) hD, ?_⟩
    rw [upd_same, take_succ_map _ hr, List.map_append]
    rfl
  · intro H' p
    have el : rs.take (rs.map fun r => V.ref r.1).length = rs := List.take_of_length_le (by rw [List.length_map]; omega)
    rw [el] at p
    exact q D H' (fresh_back e1 hD) (e1.trans p.1) p.2
/-- the pair that lies at an address -/
def kOf (H : Hp) (x : V) : Int × Int :=
  match x with
  | .ref t => (match H t with | some (.tup [.int i, .int j]) => (i, j) | _ => (0, 0))
  | _ => (0, 0)
theorem kOf_eq {H : Hp} {t : Addr} {i j : Int} (h : H t = some (.tup [.int i, .int j])) : kOf H (.ref t) = (i, j) := by
  show (match H t with | some (.tup [.int i, .int j]) => (i, j) | _ => (0, 0)) = (i, j)
  rw [h]
/-- pairs as they lie -/
def PairsIn (H : Hp) (xs : List V) : Prop := ∀ x ∈ xs, ∃ t, x = V.ref t ∧ H t = some (.tup [.int (kOf H x).1, .int (kOf H x).2])
theorem kOf_ex {H H' : Hp} (e : Ex H H') {xs : List V} (h : PairsIn H xs) : ∀ x ∈ xs, kOf H' x = kOf H x := by
  intro x hx
  obtain ⟨t, rfl, ht⟩ := h x hx
  exact kOf_eq (e t _ ht)
theorem PairsIn.ex {H H' : Hp} (e : Ex H H') {xs : List V} (h : PairsIn H xs) : PairsIn H' xs := by
  intro x hx
  have hk := kOf_ex e h x hx
  obtain ⟨t, rfl, ht⟩ := h x hx
  exact ⟨t, rfl, by rw [hk]; exact e t _ ht⟩
theorem pairs_snoc {rs : List (Addr × Row)} {n : Nat} {r : Addr × Row} (h : rs[n]? = some r) : pairsOf ((rs.take (n + 1)).map (·.2)) = pairsOf ((rs.take n).map (·.2)) ++ (if r.2.2.2 then [] else [(r.2.2.1, r.2.1)]) := by
  rw [take_succ_map _ h]
  unfold pairsOf
  rw [List.filter_append, List.map_append]
  obtain ⟨ad, p, m, b⟩ := r
  cases b <;> rfl
theorem pairsOf_len (rows : List Row) : (pairsOf rows).length ≤ rows.length := by
  unfold pairsOf
  rw [List.length_map]
  exact List.length_filter_le _ _
/-- sorted([(objects, page) for page, objects, pinned in rows if not pinned]) -/
theorem el_loads {K : PySem.W.Frag} {a : Addr} {rs : List (Addr × Row)} {tl : TE} {σ : L2.St} {H : Hp} {i j k : Nat} {vs : List Nat}
    (h : Ev tl σ H (.ref a)) (hR : RowsAt K H a rs) (hz : rs.length ≤ 40000) (hw : ∀ x y z, wipe ((((wipe σ vs).set i (some x)).set j (some y)).set k (some z)) vs = wipe σ vs)
    (hi : ∀ x y z, ((((wipe σ vs).set i (some x)).set j (some y)).set k (some z))[i]? = some (some x)) (hj : ∀ x y z, ((((wipe σ vs).set i (some x)).set j (some y)).set k (some z))[j]? = some (some y)) (hk : ∀ x y z, ((((wipe σ vs).set i (some x)).set j (some y)).set k (some z))[k]? = some (some z)) :
    ∀ H0, Ex H H0 → ∀ Q : VK, (∀ p H2 xs, H0 p = none → Ex H0 H2 → H2 p = some (.lst xs) → PairsIn H2 xs → xs.map (kOf H2) = loads (rs.map (·.2)) → Q (.ref p) H2) →
      tCB (rSortedPO K) (tCons (tLc (iTup K tl) (g3 K i j k) (tNot (tB (tVar k))) (tTup (tCons (tVar j) (tCons (tVar i) tNil))) vs) tNil) σ H0 Q := by
  intro H0 e Q q
  refine h H0 e _ fun H1 e1 => ?_
  have hR1 := hR.ex (e.trans e1)
  refine ⟨a, rfl, ⟨_, hR1.1⟩, fun D hD => lc_tup (xs := rs.map fun r => V.ref r.1) (fun n H' => Ex H1 H' ∧ ∃ xs, H' D = some (.lst xs) ∧ PairsIn H' xs ∧ D ∉ xs.filterMap (fun x => match x with | .ref t => some t | _ => none) ∧ xs.map (kOf H') = pairsOf ((rs.take n).map (·.2)))
    ⟨Ex.new hD, [], upd_same, fun x hx => absurd hx List.not_mem_nil, List.not_mem_nil, rfl⟩ (fun n H' _ p => ex_t p.1 hR1.1) ?_ ?_⟩
  · rintro n x H' hx ⟨p1, xs, p2, p3, p4, p5⟩
    obtain ⟨r, hr, rfl⟩ := rows_at hx
    have hm : r ∈ rs := List.mem_of_getElem? hr
    have hlt := (List.getElem?_eq_some_iff.mp hr).1
    have hps := pairs_snoc hr
    refine ⟨r.1, _, rfl, ex_t p1 (hR1.2 r hm), rfl, .int r.2.1, _, rfl, .int r.2.2.1, _, rfl, .bl r.2.2.2, [], rfl, rfl, hw _ _ _, ?_⟩
    refine ⟨_, hk _ _ _, r.2.2.2, rfl, ?_⟩
    cases hb : r.2.2.2 with
    | true =>
      rw [hb] at hps
      rw [if_neg (show ¬ (!true) = true from Bool.false_ne_true)]
      refine ⟨p1, xs, p2, p3, p4, ?_⟩
      rw [p5, hps]
      simp
    | false =>
      rw [hb] at hps
      rw [if_pos (show (!false) = true from rfl)]
      refine ⟨_, hj _ _ _, _, hi _ _ _, by show 2 ≤ sizeLine; decide, fun p hp => ?_⟩
      have hpD : D ≠ p := ne_of_none p2 hp
      have ep : Ex H' (upd H' p (.tup [.int r.2.2.1, .int r.2.1])) := Ex.new hp
      have hxl : xs.length ≤ 40000 := by
        have h1 := congrArg List.length p5
        rw [List.length_map] at h1
        have h2 := pairsOf_len ((rs.take n).map (·.2))
        rw [List.length_map, List.length_take] at h2
        omega
      refine ⟨xs, ep D _ p2, sz_lt (by omega), Ex.mut (p1.trans ep) hD, xs ++ [.ref p], upd_same, ?_, ?_, ?_⟩
      · intro y hy
        have hyD : ∀ t, y = .ref t → t ≠ D := by
          rintro t rfl e
          rcases List.mem_append.mp hy with m | m
          · exact p4 (List.mem_filterMap.mpr ⟨_, m, by rw [e]⟩)
          · have := List.mem_singleton.mp m
            cases this
            exact hpD e.symm
        rcases List.mem_append.mp hy with m | m
        · obtain ⟨t, rfl, ht⟩ := (p3.ex ep) y m
          have hn : (upd (upd H' p (.tup [.int r.2.2.1, .int r.2.1])) D (.lst (xs ++ [.ref p]))) t = (upd H' p (.tup [.int r.2.2.1, .int r.2.1])) t := upd_ne (hyD t rfl)
          refine ⟨t, rfl, ?_⟩
          rw [kOf_eq (hn.trans ht)]
          exact hn.trans ht
        · have := List.mem_singleton.mp m
          subst this
          have hn : (upd (upd H' p (.tup [.int r.2.2.1, .int r.2.1])) D (.lst (xs ++ [.ref p]))) p = some (.tup [.int r.2.2.1, .int r.2.1]) := by
            rw [upd_ne (hyD p rfl), upd_same]
          refine ⟨p, rfl, ?_⟩
          rw [kOf_eq hn]
          exact hn
      · intro hm2
        obtain ⟨y, hy, e⟩ := List.mem_filterMap.mp hm2
        rcases List.mem_append.mp hy with m | m
        · exact p4 (List.mem_filterMap.mpr ⟨y, m, e⟩)
        · have := List.mem_singleton.mp m
          subst this
          exact hpD (Option.some.inj e).symm
      · rw [List.map_append, hps]
        congr 1
        · rw [← p5]
          refine List.map_congr_left fun y hy => ?_
          obtain ⟨t, rfl, ht⟩ := p3 y hy
          have hne : t ≠ D := fun e => p4 (List.mem_filterMap.mpr ⟨_, hy, by rw [e]⟩)
          refine kOf_eq ?_
          rw [upd_ne hne]
          exact ep t _ ht
        · show [kOf _ _] = [_]
          rw [kOf_eq (i := r.2.2.1) (j := r.2.1)]
          rw [upd_ne hpD.symm, upd_same]
  · rintro H' ⟨p1, xs, p2, p3, p4, p5⟩
    have el : rs.take (rs.map fun r => V.ref r.1).length = rs := List.take_of_length_le (by rw [List.length_map]; omega)
    rw [el] at p5
    refine ⟨D, xs, kOf H', rfl, sq_of p2, p3, fun ys p srt stb hp => ?_⟩
    have ep : Ex H' (upd H' p (.lst ys)) := Ex.new hp
    have py : PairsIn H' ys := fun y hy => p3 y (stb.perm.mem_iff.mp hy)
    refine q p _ ys (fresh_back (e1.trans p1) hp) ((e1.trans p1).trans ep) upd_same (py.ex ep) ?_
    have hke : ys.map (kOf (upd H' p (.lst ys))) = ys.map (kOf H') := List.map_congr_left fun y hy => kOf_ex ep py y hy
    rw [hke]
    refine loads_uniq ?_ ?_
    · rw [← p5]
      exact stb.perm.map _
    · refine List.pairwise_map.mpr (srt.imp fun {x y} hxy => ?_)
      have h1 := SrtO.lexB_no.mp hxy
      simp only [leP, Bool.or_eq_true, Bool.and_eq_true, decide_eq_true_eq]
      omega
theorem s_loads {K : PySem.W.Frag} {a : Addr} {rs : List (Addr × Row)} {tl : TE} {σ : L2.St} {D : Ends} {H H0 : Hp} {i j k n : Nat} {vs : List Nat}
    (h : Ev tl σ H (.ref a)) (hR : RowsAt K H a rs) (e : Ex H H0) (hz : rs.length ≤ 40000) (hw : ∀ x y z, wipe ((((wipe σ vs).set i (some x)).set j (some y)).set k (some z)) vs = wipe σ vs)
    (hi : ∀ x y z, ((((wipe σ vs).set i (some x)).set j (some y)).set k (some z))[i]? = some (some x)) (hj : ∀ x y z, ((((wipe σ vs).set i (some x)).set j (some y)).set k (some z))[j]? = some (some y)) (hk : ∀ x y z, ((((wipe σ vs).set i (some x)).set j (some y)).set k (some z))[k]? = some (some z))
    (q : ∀ p H2 xs, H0 p = none → Ex H0 H2 → H2 p = some (.lst xs) → PairsIn H2 xs → xs.map (kOf H2) = loads (rs.map (·.2)) → D.nx (σ.set n (some (.ref p))) H2) :
    tAsg (tCB (rSortedPO K) (tCons (tLc (iTup K tl) (g3 K i j k) (tNot (tB (tVar k))) (tTup (tCons (tVar j) (tCons (tVar i) tNil))) vs) tNil)) (gName n) D σ H0 :=
  el_loads h hR hz hw hi hj hk H0 e _ q
/-- len of a tuple -/
theorem ev_lenT {K : PySem.W.Frag} {ta : TE} {σ : L2.St} {H : Hp} {p : Addr} {xs : List V} (ha : Ev ta σ H (.ref p)) (h : SqT K H p xs) : Ev (tCB (rLenS K) (tCons ta tNil)) σ H (.int (xs.length : Int)) := fun H1 e Q q =>
  ha H1 e _ fun H2 e2 => ⟨p, xs, rfl, Or.inr (ex_t (e.trans e2) h), q H2 e2⟩
def rTupS (K : PySem.W.Frag) : List V → Hp → VK → Prop := fun xs H Q => ∃ p ys, xs = [.ref p] ∧ ((SqL K H p ys ∧ ∀ l, H l = none → Q (.ref l) (upd H l (.tup ys))) ∨ (SqT K H p ys ∧ Q (.ref p) H))
/-- return tuple(sorted(found)) -/
theorem s_retSorted {K : PySem.W.Frag} {σ : L2.St} {D : Ends} {H : Hp} {i : Nat} {o : Addr} {ns : List Int} (hi : σ[i]? = some (some (.ref o))) (ho : H o = some (.lst (ns.map V.int)))
    (k : ∀ p H', H p = none → Ex H H' → H' p = some (.tup ((ns.mergeSort leI).map V.int)) → D.rt (.ref p) H') :
    tRet (tCB (rTupS K) (tCons (tCB (rSortedI K) (tCons (tVar i) tNil)) tNil)) D σ H := by
  refine ⟨.ref o, hi, o, ns, rfl, sq_of ho, fun ys p hp hs hn => ?_⟩
  have e : ys = ns.mergeSort leI := sort_uniq hp hs
  subst e
  have e1 : Ex H (upd H p (.lst ((ns.mergeSort leI).map V.int))) := Ex.new hn
  refine ⟨p, _, rfl, .inl ⟨sq_of upd_same, fun l hl => ?_⟩⟩
  exact k l _ (fresh_back e1 hl) (e1.trans (Ex.new hl)) upd_same
/-- a list may change beside the pairs -/
theorem PairsIn.off {H : Hp} {xs zs : List V} {o : Addr} {u : HO} (h : PairsIn H xs) (ho : H o = some (.lst zs)) : PairsIn (upd H o u) xs ∧ ∀ x ∈ xs, kOf (upd H o u) x = kOf H x := by
  have key : ∀ x ∈ xs, ∃ t, x = V.ref t ∧ (upd H o u) t = some (.tup [.int (kOf H x).1, .int (kOf H x).2]) := by
    intro x hx
    obtain ⟨t, rfl, ht⟩ := h x hx
    have ne : t ≠ o := fun e => by
      rw [e, ho] at ht
      cases ht
    exact ⟨t, rfl, by rw [upd_ne ne]; exact ht⟩
  have ks : ∀ x ∈ xs, kOf (upd H o u) x = kOf H x := by
    intro x hx
    obtain ⟨t, rfl, ht⟩ := key x hx
    exact kOf_eq ht
  refine ⟨fun x hx => ?_, ks⟩
  obtain ⟨t, rfl, ht⟩ := key x hx
  exact ⟨t, rfl, by rw [ks _ hx]; exact ht⟩
end Pg
namespace Pg
open PySem PySem.Spec PyProof.Rows L2 Evl Gd
def topS (i : Nat) : Stmt := PySem.Challenge.pw_crossheaps_k30_many_pages_emptied.main.body.getD i (.Pass ⟨0, 0, 0, 0⟩)
abbrev sEmp : Stmt := topS 2
abbrev nEmp : List Str := ["pages", "moves", "total", "bound", "page", "objects", "loads", "found", "left", "row", "pinned"]
theorem scEmp : FnScope nEmp ["pages", "moves"] (defScope sEmp) := ⟨rfl, rfl, rfl, by decide +kernel, rfl, by decide +kernel, by decide +kernel⟩
def spEmp (K : PySem.W.Frag) : Sp := fun vs H Q _ => ∃ (a : Addr) (rs : List (Addr × Row)) (m : Int), vs = [.ref a, .int m] ∧ RowsAt K H a rs ∧ rs.length ≤ 1000 ∧
  ∀ H' p, Ex H H' → H p = none → H' p = some (.tup ((emp (rs.map (·.2)) m).map V.int)) → Q (.ref p) H'
section
variable {P : Program} {w : World} {K : PySem.W.Frag} {mg : Str → Option Value} {base : Heap}
/-- the greedy loop's word -/
def LoopE (H : Hp) (l o : Addr) (rows : List Row) (B m : Int) (xs : List V) (i : Nat) (left : Int) (H' : Hp) : Prop :=
  Ex H H' ∧ H' l = some (.lst xs) ∧ PairsIn H' xs ∧ xs.map (kOf H') = loads rows ∧ H' o = some (.lst ((((loads rows).take i).map (·.2)).map V.int)) ∧
    taken B m 0 (loads rows) = (loads rows).take i ++ taken B left i ((loads rows).drop i)
theorem ok_emp {f : Addr} {fd : FuncData} (F : Fun K "emptied" "emptied" sEmp f fd) {tk : Tok} (mC : mg "CELLS" = some (.int 8 tk)) (mS : mg "sum" = none) (mL : mg "len" = none) (mO : mg "sorted" = none) (mT : mg "tuple" = none) : FnOk P w K mg base CX0 1 f fd ["pages", "moves"] (spEmp K) := by
  refine F.ok scEmp (fun vs H Q E h => ?_) (fun cdv A outer s H vs Q E hr h => ?_)
  · obtain ⟨a, rs, m, rfl, _⟩ := h
    rfl
  · obtain ⟨a, rs, m, rfl, hR, hz, q⟩ := h
    refine ⟨_, pss_cons (ps_set (i := 2) scEmp.nd rfl (.inl rfl) (pe_callB (cr_sum rfl) (by rfl) mS boot_sum (pa_cons
        (pe_lc (own := [("row", 9)]) (g := gName 9) (tt := tYes) (te := tOp (rIxT K) (tVar 9) (tC (.int 1))) rfl scEmp.nd (pi_tup (pv 0)) (blkOk_by (N := nEmp) (sc := defScope sEmp) (by decide +kernel)) (fun _ _ _ _ _ => pg_name (i := 9) scEmp.nd rfl (.inl rfl)) (fun _ _ _ _ _ => pts_nil) (fun _ _ _ _ _ => pe_ix ix_tup (pv 9) pe_int (fun _ _ => rfl))) pa_nil)))
      (pss_cons (ps_set (i := 3) scEmp.nd rfl (.inl rfl) (pe_op op_sub (pe_callB call_len_seq (by rfl) mL PySem.boot_len (pa_cons (pv 0) pa_nil)) (pe_op op_fdiv (pe_op op_sub (pe_op op_add (pv 2) (pe_glob (v := .int 8) rfl mC ⟨_, rfl⟩)) pe_int) (pe_glob (v := .int 8) rfl mC ⟨_, rfl⟩))))
      (pss_cons (ps_set (i := 6) scEmp.nd rfl (.inl rfl) (pe_callB cr_sortedPO (by rfl) mO boot_sorted (pa_cons
        (pe_lc (own := [("page", 4), ("objects", 5), ("pinned", 10)]) (g := g3 K 4 5 10) (tt := tNot (tB (tVar 10))) (te := tTup (tCons (tVar 5) (tCons (tVar 4) tNil))) rfl scEmp.nd (pi_tup (pv 0)) (blkOk_by (N := nEmp) (sc := defScope sEmp) (by decide +kernel))
          (fun _ _ _ _ _ => pg_tup rfl (pgs_cons (pg_name (i := 4) scEmp.nd rfl (.inl rfl)) (pgs_cons (pg_name (i := 5) scEmp.nd rfl (.inl rfl)) (pgs_cons (pg_name (i := 10) scEmp.nd rfl (.inl rfl)) pgs_nil))))
          (fun _ _ _ _ _ => pts_one (pt_not (pt_val (pv 10)))) (fun _ _ _ _ _ => pe_tup (pa_cons (pv 5) (pa_cons (pv 4) pa_nil)))) pa_nil)))
      (pss_cons (ps_set (i := 7) scEmp.nd rfl (.inl rfl) (pe_lst pa_nil))
      (pss_cons (ps_set (i := 8) scEmp.nd rfl (.inl rfl) (pv 1))
      (pss_cons (ps_for PassesOwn.never rfl (pi_list (pv 6)) (pg_tup (n := 2) rfl (pgs_cons (pg_name (i := 5) scEmp.nd rfl (.inl rfl)) (pgs_cons (pg_name (i := 4) scEmp.nd rfl (.inl rfl)) pgs_nil)))
        (pss_cons (ps_if (pw_or (pt_cmpR op_eq (pe_callB call_len_seq (by rfl) mL PySem.boot_len (pa_cons (pv 7) pa_nil)) (pv 3) (nomark _)) (pw_or1 (pt_cmpR op_gt (pv 5) (pv 8) (nomark _)))).pt (pss_one ps_break) pss_nil)
        (pss_cons (ps_aug (i := 8) scEmp.nd rfl (.inl rfl) (pv 5) ip_sub)
        (pss_one (ps_expr (pe_bm PySem.F.plainAttrs_list PySem.F.slot_list_append PySem.F.type_list_append mt_append (pv 7) (pa_cons (pv 4) pa_nil)))))))
      (pss_one (ps_ret (pe_callTy call_tuple_of (by rfl) mT boot_tuple (pa_cons (pe_callB cr_sortedI (by rfl) mO boot_sorted (pa_cons (pv 7) pa_nil)) pa_nil))))))))), ?_⟩
    have hI : ∀ H1, Ex H H1 → RowsAt K H1 a rs := fun H1 e => hR.ex e
    have hlen : (rs.map fun r => V.ref r.1).length = rs.length := List.length_map _
    -- total
    refine s_asg (i := 2) (v := .int (total (rs.map (·.2)))) (ev_sumL (ns := (rs.map (·.2)).map fun r => r.2.1) (el_lcT (ev_var rfl) hR.1 (by simp) (by rw [hlen]; omega) (fun _ => rfl) fun i x y hx hy H1 e => ?_)) fun H1 e1 => ?_
    · obtain ⟨r, hr, rfl⟩ := rows_at hx
      rw [List.getElem?_map, List.getElem?_map, List.getElem?_map, hr] at hy
      have ey : y = .int r.2.2.1 := (Option.some.inj hy).symm
      subst ey
      exact ev_op (ev_var rfl) ev_c (rv_ixT (ex_t e (hR.2 r (List.mem_of_getElem? hr))) rfl)
    -- bound
    dsimp only
    refine st_seq (s_asg (i := 3) (v := .int (bound (rs.map (·.2)))) ?_ fun H2 e2 => ?_)
    · have ee : ((rs.map fun r => V.ref r.1).length : Int) - (total (rs.map (·.2)) + 8 - 1) / 8 = bound (rs.map (·.2)) := by
        unfold bound
        rw [List.length_map, List.length_map]
      rw [← ee]
      exact ev_op (ev_lenT (ev_var rfl) (hI H1 e1).1) (ev_op (ev_op (ev_op (ev_var rfl) ev_c rv_I0) ev_c rv_I0) ev_c (rv_I ⟨by decide, by decide⟩)) rv_I0
    -- loads
    have e12 : Ex H H2 := e1.trans e2
    dsimp only
    refine st_seq (s_loads (i := 4) (j := 5) (k := 10) (ev_var rfl) hR e12 (by omega) (fun _ _ _ => rfl) (fun _ _ _ => rfl) (fun _ _ _ => rfl) (fun _ _ _ => rfl) fun l H3 xs hl e3 h3 p3 k3 => ?_)
    -- found = [], left = moves
    dsimp only
    refine st_seq (s_asgL (i := 7) (el_lst ea_nil (Nat.zero_le _)) fun o H4 ho e4 h4 => ?_)
    dsimp only
    refine st_seq (s_asg (i := 8) (v := .int m) (ev_var rfl) fun H5 e5 => ?_)
    have e35 : Ex H3 H5 := e4.trans e5
    have e05 : Ex H H5 := (e12.trans e3).trans e35
    have hol : o ≠ l := fun e => by
      rw [e, h3] at ho
      cases ho
    have hoN : H o = none := fresh_back (e12.trans e3) ho
    have hlN : H l = none := fresh_back e12 hl
    have hPos : (loads (rs.map (·.2))).length = xs.length := by rw [← k3, List.length_map]
    have hXs : xs.length ≤ 1000 := by
      have h1 := pairsOf_len (rs.map (·.2))
      rw [← hPos, (loads_perm _).length_eq]
      rw [List.length_map] at h1
      omega
    -- the loop
    dsimp only
    refine st_seq (s_forL (a := l) (xs := xs) (ev_var rfl) (sq_of (e35 l _ h3)) (fun i σ' H' => ∃ y4 y5 left, σ' = [some (.ref a), some (.int m), some (.int (total (rs.map (·.2)))), some (.int (bound (rs.map (·.2)))), y4, y5, some (.ref l), some (.ref o), some (.int left), none, none] ∧
      LoopE H l o (rs.map (·.2)) (bound (rs.map (·.2))) m xs i left H') (fun H6 e6 => ?_) (fun i σ' H' _ p => ?_) (fun i x σ' H' hx p => ?_) (fun σ' H' p => ?_))
    · refine ⟨none, none, m, rfl, e05.trans e6, e6 l _ (e35 l _ h3), (p3.ex e35).ex e6, ?_, ?_, ?_⟩
      · rw [← k3]
        exact List.map_congr_left fun y hy => (kOf_ex (e35.trans e6) p3 y hy)
      · exact e6 o _ (e5 o _ h4)
      · rfl
    · obtain ⟨_, _, _, _, _, q2, _⟩ := p
      exact sq_of q2
    · obtain ⟨y4, y5, left, rfl, q1, q2, q3, q4, q5, q6⟩ := p
      have hi : i < xs.length := (List.getElem?_eq_some_iff.mp hx).1
      have hpr : (loads (rs.map (·.2)))[i]? = some (kOf H' x) := by rw [← q4, List.getElem?_map, hx]; rfl
      obtain ⟨t, rfl, ht⟩ := q3 x (List.mem_of_getElem? hx)
      rw [taken_at hpr] at q6
      have hfl : (((loads (rs.map (·.2))).take i).map (·.2)).length = i := by
        rw [List.length_map, List.length_take, hPos]
        omega
      refine ⟨t, _, rfl, st_of ht, rfl, .int (kOf H' (.ref t)).1, _, rfl, .int (kOf H' (.ref t)).2, [], rfl, rfl, ?_⟩
      refine st_seq (s_if (et_or (et_test (ev_op (ev_len (ev_var rfl) (sq_of q5)) (ev_var rfl) (rv_eq rfl))) fun _ => et_test (ev_op (ev_var rfl) (ev_var rfl) rv_I0)) (fun hb H6 e6 => ?_) (fun hb H6 e6 => ?_))
      · -- break
        dsimp only
        refine s_retSorted (i := 7) rfl (e6 o _ q5) fun p H7 hp e7 h7 => ?_
        have hc : (i : Int) = bound (rs.map (·.2)) ∨ left < (kOf H' (.ref t)).1 := by
          rw [List.length_map, hfl] at hb
          simpa using hb
        rw [if_pos hc, List.append_nil] at q6
        have q7 := (q1.trans e6).trans e7
        refine q H7 p q7 (fresh_back (q1.trans e6) hp) ?_
        rw [h7]
        unfold emp pages
        rw [q6]
      · -- on
        have hc : ¬ ((i : Int) = bound (rs.map (·.2)) ∨ left < (kOf H' (.ref t)).1) := by
          rw [List.length_map, hfl] at hb
          simpa using hb
        rw [if_neg hc] at q6
        dsimp only [tNext]
        refine st_seq (s_aug (i := 8) rfl (ev_var rfl) fun H7 e7 => ?_)
        dsimp only
        have e67 := e6.trans e7
        refine s_app (e67 o _ q5) (ev_var rfl) (ev_var rfl) (by rw [List.length_map, hfl]; omega) fun H8 e8 => ?_
        dsimp only
        have e68 := e67.trans e8
        refine ⟨_, _, left - (kOf H' (.ref t)).1, rfl, Ex.mut (q1.trans e68) hoN, ?_, ?_, ?_, ?_, ?_⟩
        · rw [upd_ne hol.symm]
          exact e68 l _ q2
        · exact ((q3.ex e68).off (e68 o _ q5)).1
        · rw [← q4]
          refine List.map_congr_left fun y hy => ?_
          rw [((q3.ex e68).off (e68 o _ q5)).2 y hy]
          exact kOf_ex e68 q3 y hy
        · rw [upd_same, take_succ_map _ hpr, List.map_append]
          rfl
        · rw [q6, List.take_add_one, hpr]
          simp
    · obtain ⟨y4, y5, left, rfl, q1, q2, q3, q4, q5, q6⟩ := p
      dsimp only
      refine s_retSorted (i := 7) rfl q5 fun p H7 hp e7 h7 => ?_
      refine q H7 p (q1.trans e7) (fresh_back q1 hp) ?_
      rw [h7]
      unfold emp pages
      rw [q6, ← hPos, List.drop_length]
      show some (HO.tup _) = some (HO.tup (List.map V.int (List.mergeSort (List.map _ (_ ++ [])) leI)))
      rw [List.append_nil]
end
end Pg
namespace Pg
open PySem PySem.Spec PyProof.Rows L2 Evl Gd
abbrev sDraws : Stmt := topS 4
abbrev sBelow : Stmt := topS 5
theorem scDraws : FnScope ["_law_script", "_law_k", "_law_cell", "_law_great"] ["_law_script", "_law_k"] (defScope sDraws) := ⟨rfl, rfl, rfl, by decide +kernel, rfl, by decide +kernel, by decide +kernel⟩
theorem scBelow : FnScope ["_law_draws_here", "_law_many", "_law_digit", "_law_nth", "_law_prime", "_law_mixed"] ["_law_draws_here", "_law_many"] (defScope sBelow) := ⟨rfl, rfl, rfl, by decide +kernel, rfl, by decide +kernel, by decide +kernel⟩
def CPowW (i j : Int) : Prop := 0 ≤ j ∧ (Builtin.Int.intBits i : Int) * j ≤ bitsLine
theorem op_powW {X : Cx} : OpR X (binaryOp .Pow) (rI CPowW fun i j => .int (i ^ j.toNat)) := opI fun _ _ _ _ _ _ _ hc q => pow_int hc.1 hc.2 q
def big : Int := 1000000000000000000000000000000000000000000000000000000000000 ^ 5
/-- the well of draws: at most n draws so far -/
def Pot (H : Hp) (d : Addr) (n : Int) : Prop := ∃ g b m : Int, H d = some (.lst [.int g, .int b, .int m]) ∧ 0 ≤ g ∧ g < big ∧ 0 ≤ b ∧ b < 2305843009213693952 ∧ 0 ≤ m ∧ m ≤ n
theorem Pot.up {H : Hp} {d : Addr} {n k : Int} (h : Pot H d n) (e : n ≤ k) : Pot H d k := by
  obtain ⟨g, b, m, h0, h1, h2, h3, h4, h5, h6⟩ := h
  exact ⟨g, b, m, h0, h1, h2, h3, h4, h5, by omega⟩
theorem Pot.ex {H H' : Hp} {d : Addr} {n : Int} (e : Ex H H') (h : Pot H d n) : Pot H' d n := by
  obtain ⟨g, b, m, h0, h⟩ := h
  exact ⟨g, b, m, e d _ h0, h⟩
/-- all but the well stays -/
def Off (d : Addr) (H H' : Hp) : Prop := ∀ a o, a ≠ d → H a = some o → H' a = some o
theorem Off.refl (d : Addr) (H : Hp) : Off d H H := fun _ _ _ h => h
theorem Off.of {d : Addr} {H H' : Hp} (e : Ex H H') : Off d H H' := fun a o _ h => e a o h
theorem Off.trans {d : Addr} {H H1 H2 : Hp} (a : Off d H H1) (b : Off d H1 H2) : Off d H H2 := fun x o n h => b x o n (a x o n h)
theorem Off.upd {d : Addr} {H H' : Hp} {o : HO} (e : Off d H H') : Off d H (upd H' d o) := fun a u n h => by
  rw [upd_ne n]
  exact e a u n h
def spDraws (K : PySem.W.Frag) : Sp := fun vs H Q _ => ∃ (a : Addr) (ns : List Int) (k : Int), vs = [.ref a, .int k] ∧ SqL K H a (ns.map V.int) ∧ ns.length ≤ 63 ∧ 0 ≤ k ∧ k ≤ 2 ∧
  ∀ H' d, Ex H H' → H d = none → Pot H' d 0 → Q (.ref d) H'
def spBelow : Sp := fun vs H Q _ => ∃ (d : Addr) (n many : Int), vs = [.ref d, .int many] ∧ Pot H d n ∧ n ≤ 1000000 ∧ 0 < many ∧ many ≤ 1000000 ∧
  ∀ H' r, Off d H H' → Pot H' d (n + 1) → 0 ≤ r → r < many → Q (.int r) H'
section
variable {P : Program} {w : World} {K : PySem.W.Frag} {mg : Str → Option Value} {base : Heap}
theorem ok_draws {f : Addr} {fd : FuncData} (F : Fun K "_law_draws" "_law_draws" sDraws f fd) (mL : mg "len" = none) (mA : mg "abs" = none) (mI : mg "int" = none) : FnOk P w K mg base CX0 1 f fd ["_law_script", "_law_k"] (spDraws K) := by
  refine F.ok scDraws (fun vs H Q E h => ?_) (fun cdv A outer s H vs Q E hr h => ?_)
  · obtain ⟨a, ns, k, rfl, _⟩ := h
    rfl
  · obtain ⟨a, ns, k, rfl, hS, hz, h0, h2, q⟩ := h
    refine ⟨_, pss_cons (ps_set (i := 2) scDraws.nd rfl (.inl rfl) (pe_ifExp (pt_cmpR op_lt (pv 1) (pe_callB call_len_seq (by rfl) mL PySem.boot_len (pa_cons (pv 0) pa_nil)) (nomark _)) (pe_ix ix_list (pv 0) (pv 1) (fun _ _ => rfl)) (pe_op op_add (pe_op op_mul pe_int (pv 1)) pe_int)))
      (pss_cons (ps_set (i := 3) scDraws.nd rfl (.inl rfl) (pe_op op_mul (pe_op op_mod (pe_callB call_abs (by rfl) mA (by decide +kernel) (pa_cons (pv 2) pa_nil)) (pe_op op_powW (pe_op op_pow pe_int pe_int) pe_int))
          (pe_callTy call_int1 (by rfl) mI (by decide +kernel) (pa_cons (pe_cmpR op_ge (pe_callB call_abs (by rfl) mA (by decide +kernel) (pa_cons (pv 2) pa_nil)) (pe_op op_pow pe_int pe_int) (nomark _)) pa_nil))))
      (pss_one (ps_ret (pe_lst (pa_cons (pv 3) (pa_cons (pe_op op_mod (pe_op op_mul (pe_op op_add (pe_op op_add (pe_op op_mod (pv 2) pe_int) (pe_op op_mul (pe_op op_mul pe_int (pv 1)) (pv 1))) pe_int) pe_int) pe_int) (pa_cons pe_int pa_nil))))))), ?_⟩
    let c : Int := if h : k.toNat < ns.length then ns[k.toNat] else 7 * k + 3
    refine s_asg (i := 2) (v := .int c) (ev_if (et_test (ev_op (ev_var rfl) (ev_len (ev_var rfl) hS) rv_I0)) (fun hb => ?_) (fun hb => ?_)) fun H1 e1 => ?_
    · have hk : k < ((ns.map V.int).length : Int) := of_decide_eq_true hb
      rw [List.length_map] at hk
      have hk2 : k.toNat < ns.length := by omega
      refine ev_op (ev_var rfl) (ev_var rfl) (rv_ixL hS ?_)
      have e0 : k = ((k.toNat : Nat) : Int) := by omega
      rw [e0]
      refine atI_nat ?_
      rw [List.getElem?_map, List.getElem?_eq_getElem hk2]
      show some (V.int _) = some (V.int c)
      rw [show c = ns[k.toNat] from dif_pos hk2]
    · have hk : ¬ k < ((ns.map V.int).length : Int) := of_decide_eq_false hb
      rw [List.length_map] at hk
      rw [show c = 7 * k + 3 from dif_neg (by omega)]
      exact ev_op (ev_op ev_c (ev_var rfl) (rv_I (.inl ⟨by decide, by decide⟩))) ev_c rv_I0
    clear_value c
    have evAbs : ∀ H2 : Hp, Ev (tCB (fun xs H Q => ∃ i, xs = [V.int i] ∧ Q (.int (if i < 0 then -i else i)) H) (tCons (tVar 2) tNil)) ((L2.start ["_law_script", "_law_k", "_law_cell", "_law_great"] [V.ref a, V.int k]).set 2 (some (.int c))) H2 (.int (if c < 0 then -c else c)) :=
      fun H2 => ev_cb (ea_cons (ev_var rfl) ea_nil) fun H3 _ Q q => ⟨c, rfl, q H3 (Ex.refl H3)⟩
    let g : Int := (if c < 0 then -c else c) % big * (if decide ((10 : Int) ^ (18 : Int).toNat ≤ (if c < 0 then -c else c)) = true then 1 else 0)
    have hbig : (0 : Int) < big := by decide +kernel
    have hg : 0 ≤ g ∧ g < big := by
      have h1 := Int.emod_nonneg (if c < 0 then -c else c) (b := big) (by omega)
      have h2 := Int.emod_lt_of_pos (if c < 0 then -c else c) hbig
      show 0 ≤ _ * _ ∧ _ * _ < big
      generalize decide ((10 : Int) ^ (18 : Int).toNat ≤ (if c < 0 then -c else c)) = z
      cases z
      · rw [if_neg Bool.false_ne_true, Int.mul_zero]
        omega
      · rw [if_pos rfl, Int.mul_one]
        exact ⟨h1, h2⟩
    dsimp only
    refine st_seq (s_asg (i := 3) (v := .int g) (ev_op (ev_op (evAbs H1) (ev_op (ev_op ev_c ev_c (rv_I ⟨by decide, by decide, by decide⟩)) ev_c (rv_I ⟨by decide +kernel, by decide +kernel⟩)) (rv_I (by decide +kernel))) (ev_cb (ea_cons (ev_op (evAbs H1) (ev_op ev_c ev_c (rv_I ⟨by decide, by decide, by decide⟩)) rv_I0) ea_nil) fun H3 _ Q q => .inr ⟨_, rfl, q H3 (Ex.refl H3)⟩) (rv_I (.inr ?_))) fun H2 e2 => ?_)
    · generalize decide ((10 : Int) ^ (18 : Int).toNat ≤ (if c < 0 then -c else c)) = z
      cases z <;> decide
    clear_value g
    dsimp only
    let b : Int := (c % 2305843009213693951 + 7919 * k * k + 17) * 48271 % 2305843009213693921
    have hb1 := Int.emod_nonneg ((c % 2305843009213693951 + 7919 * k * k + 17) * 48271) (b := 2305843009213693921) (by decide)
    have hb2 := Int.emod_lt_of_pos ((c % 2305843009213693951 + 7919 * k * k + 17) * 48271) (b := 2305843009213693921) (by decide)
    refine s_retL (xs := [.int g, .int b, .int 0]) (el_lst (ea_cons (ev_var rfl) (ea_cons (ev_op (ev_op (ev_op (ev_op (ev_op (ev_var rfl) ev_c (rv_I (by decide))) (ev_op (ev_op ev_c (ev_var rfl) (rv_I (.inl ⟨by decide, by decide⟩))) (ev_var rfl) (rv_I (.inr ⟨by omega, by omega⟩))) rv_I0) ev_c rv_I0) ev_c (rv_I (.inr ⟨by decide, by decide⟩))) ev_c (rv_I (by decide))) (ea_cons ev_c ea_nil))) (by show 3 ≤ 100000; decide)) fun p H3 hp e3 h3 => ?_
    exact q H3 p ((e1.trans e2).trans e3) (fresh_back (e1.trans e2) hp) ⟨g, b, 0, h3, hg.1, hg.2, hb1, by omega, Int.le_refl 0, Int.le_refl 0⟩
theorem ok_below {f : Addr} {fd : FuncData} (F : Fun K "_law_below" "_law_below" sBelow f fd) : FnOk P w K mg base CX0 1 f fd ["_law_draws_here", "_law_many"] spBelow := by
  refine F.ok scBelow (fun vs H Q E h => ?_) (fun cdv A outer s H vs Q E hr h => ?_)
  · obtain ⟨a, n, k, rfl, _⟩ := h
    rfl
  · obtain ⟨d, n, many, rfl, hP, hn, h0, h1, q⟩ := h
    refine ⟨_, pss_cons (ps_if (pt_cmpR op_gt (pe_ix ix_list (pv 0) pe_int (fun _ _ => rfl)) pe_int (nomark _))
        (pss_cons (ps_set (i := 2) scBelow.nd rfl (.inl rfl) (pe_op op_mod (pe_ix ix_list (pv 0) pe_int (fun _ _ => rfl)) (pv 1)))
        (pss_cons (ps_asg (pe_op op_fdivW (pe_ix ix_list (pv 0) pe_int (fun _ _ => rfl)) (pv 1)) (pg_sub (pv 0) pe_int set_list))
        (pss_one (ps_ret (pv 2))))) pss_nil)
      (pss_cons (ps_set (i := 3) scBelow.nd rfl (.inl rfl) (pe_op op_add (pe_ix ix_list (pv 0) pe_int (fun _ _ => rfl)) pe_int))
      (pss_cons (ps_asg (pv 3) (pg_sub (pv 0) pe_int set_list))
      (pss_cons (ps_set (i := 4) scBelow.nd rfl (.inl rfl) (pe_ix ix_list (pe_lst (pa_cons pe_int (pa_cons pe_int (pa_cons pe_int (pa_cons pe_int pa_nil))))) (pe_op op_mod (pv 3) pe_int) (fun _ _ => rfl)))
      (pss_cons (ps_set (i := 5) scBelow.nd rfl (.inl rfl) (pe_op op_mod (pe_op op_add (pe_op op_add (pe_ix ix_list (pv 0) pe_int (fun _ _ => rfl)) (pe_op op_mul (pe_op op_mul pe_int (pv 3)) (pv 3))) (pe_op op_mul pe_int (pv 3))) (pv 4)))
      (pss_cons (ps_set (i := 5) scBelow.nd rfl (.inl rfl) (pe_op op_mod (pe_op op_pow (pv 5) pe_int) (pv 4)))
      (pss_one (ps_ret (pe_op op_mod (pe_op op_add (pe_op op_fdiv (pv 5) pe_int) (pe_op op_mul (pe_op op_fdiv (pv 5) pe_int) pe_int)) (pv 1))))))))), ?_⟩
    obtain ⟨g, b, m, hd, hg0, hg1, hb0, hb1, hm0, hm1⟩ := hP
    have at0 : ∀ x y z : Int, atI [V.int x, .int y, .int z] 0 = some (.int x) := fun x y z => atI_nat (j := 0) rfl
    have at1 : ∀ x y z : Int, atI [V.int x, .int y, .int z] 1 = some (.int y) := fun x y z => atI_nat (j := 1) rfl
    have at2 : ∀ x y z : Int, atI [V.int x, .int y, .int z] 2 = some (.int z) := fun x y z => atI_nat (j := 2) rfl
    have ix : ∀ j : Nat, j < 3 → ixN 3 (j : Int) = some j := fun j h => ixN_nat h
    refine s_if (b := decide (0 < g)) (et_test (ev_op (ev_op (ev_var rfl) ev_c (rv_ixL (sq_of hd) (at0 _ _ _))) ev_c rv_I0)) (fun hb H1 e1 => ?_) (fun hb H1 e1 => ?_)
    · have hg : 0 < g := of_decide_eq_true hb
      have d1 := e1 d _ hd
      refine st_seq (s_asg (i := 2) (v := .int (g % many)) (ev_op (ev_op (ev_var rfl) ev_c (rv_ixL (sq_of d1) (at0 _ _ _))) (ev_var rfl) (rv_I h0)) fun H2 e2 => ?_)
      have d2 := e2 d _ d1
      dsimp only
      have wd : CDivW g many := wide_div h0 (b := 64) (by omega) (by decide) (by decide)
      refine st_seq (s_setL (j := 0) d2 (ev_op (ev_op (ev_var rfl) ev_c (rv_ixL (sq_of d2) (at0 _ _ _))) (ev_var rfl) (rv_I wd)) (ev_var rfl) ev_c (show 0 < 3 by decide) fun H3 e3 => ?_)
      dsimp only
      refine s_ret (v := .int (g % many)) (ev_var rfl) fun H4 e4 => ?_
      have h5 : Off d H H3 := Off.of ((e1.trans e2).trans e3)
      have nn := Int.ediv_nonneg hg0 (show 0 ≤ many by omega)
      have le : g / many ≤ g := Int.ediv_le_self many hg0
      refine q H4 _ ((h5.upd).trans (Off.of e4)) ⟨g / many, b, m, e4 d _ upd_same, nn, by omega, hb0, hb1, hm0, by omega⟩ (Int.emod_nonneg _ (by omega)) (Int.emod_lt_of_pos _ h0)
    · have d1 := e1 d _ hd
      dsimp only [tNext]
      refine st_seq (s_asg (i := 3) (v := .int (m + 1)) (ev_op (ev_op (ev_var rfl) ev_c (rv_ixL (sq_of d1) (at2 _ _ _))) ev_c rv_I0) fun H2 e2 => ?_)
      have d2 := e2 d _ d1
      dsimp only
      refine st_seq (s_setL (j := 2) d2 (ev_var rfl) (ev_var rfl) ev_c (show 2 < 3 by decide) fun H3 e3 => ?_)
      dsimp only
      have d3 : (upd H3 d (.lst ([V.int g, .int b, .int m].set 2 (.int (m + 1))))) d = some (.lst [V.int g, .int b, .int (m + 1)]) := upd_same
      have o3 : Off d H (upd H3 d (.lst ([V.int g, .int b, .int m].set 2 (.int (m + 1))))) := (Off.of ((e1.trans e2).trans e3)).upd
      generalize upd H3 d (.lst ([V.int g, .int b, .int m].set 2 (.int (m + 1)))) = H3' at d3 o3 ⊢
      have hn4 : ∃ p : Int, atI [V.int 2305843009213693951, .int 999999999989, .int 1000000000039, .int 67280421310721] ((m + 1) % 4) = some (.int p) ∧ 0 < p ∧ p < 2305843009213693952 := by
        have l1 := Int.emod_nonneg (m + 1) (show (4 : Int) ≠ 0 by decide)
        have l2 := Int.emod_lt_of_pos (m + 1) (show (0 : Int) < 4 by decide)
        have cs : (m + 1) % 4 = 0 ∨ (m + 1) % 4 = 1 ∨ (m + 1) % 4 = 2 ∨ (m + 1) % 4 = 3 := by omega
        rcases cs with e | e | e | e <;> rw [e]
        · exact ⟨_, atI_nat (j := 0) rfl, by decide, by decide⟩
        · exact ⟨_, atI_nat (j := 1) rfl, by decide, by decide⟩
        · exact ⟨_, atI_nat (j := 2) rfl, by decide, by decide⟩
        · exact ⟨_, atI_nat (j := 3) rfl, by decide, by decide⟩
      obtain ⟨p, hp, p0, p1⟩ := hn4
      refine st_seq (s_asg (i := 4) (v := .int p) ?_ fun H4 e4 => ?_)
      · intro Ha ea Qa ka
        refine el_lst (ea_cons ev_c (ea_cons ev_c (ea_cons ev_c (ea_cons ev_c ea_nil)))) (by show 4 ≤ 100000; decide) Ha (Ex.refl Ha) _ fun l Hb _ eb hl => ?_
        exact ⟨_, rfl, m + 1, 4, rfl, rfl, (show (0 : Int) < 4 by decide), l, _, _, _, rfl, rfl, sq_of hl, hp, ka Hb eb⟩
      have d4 := e4 d _ d3
      dsimp only
      have m0 : (0 : Int) ≤ m + 1 := by omega
      refine st_seq (s_asg (i := 5) (v := .int ((b + 7919 * (m + 1) * (m + 1) + 65537 * (m + 1)) % p)) (ev_op (ev_op (ev_op (ev_op (ev_var rfl) ev_c (rv_ixL (sq_of d4) (at1 _ _ _))) (ev_op (ev_op ev_c (ev_var rfl) (rv_I (.inl ⟨by decide, by decide⟩))) (ev_var rfl) (rv_I (.inr ⟨by omega, by omega⟩))) rv_I0) (ev_op ev_c (ev_var rfl) (rv_I (.inl ⟨by decide, by decide⟩))) rv_I0) (ev_var rfl) (rv_I p0)) fun H5 e5 => ?_)
      generalize hy : (b + 7919 * (m + 1) * (m + 1) + 65537 * (m + 1)) % p = y
      have y0 : 0 ≤ y := by rw [← hy]; exact Int.emod_nonneg _ (by omega)
      have y1 : y < p := by rw [← hy]; exact Int.emod_lt_of_pos _ p0
      dsimp only
      refine st_seq (s_asg (i := 5) (v := .int (y ^ (5 : Int).toNat % p)) (ev_op (ev_op (ev_var rfl) ev_c (rv_I ⟨by decide, by decide, by omega⟩)) (ev_var rfl) (rv_I p0)) fun H6 e6 => ?_)
      generalize hz : y ^ (5 : Int).toNat % p = z
      have z0 : 0 ≤ z := by rw [← hz]; exact Int.emod_nonneg _ (by omega)
      have z1 : z < p := by rw [← hz]; exact Int.emod_lt_of_pos _ p0
      dsimp only
      refine s_ret (v := .int ((z / 4099 + z / 1000003 * 7) % many)) (ev_op (ev_op (ev_op (ev_var rfl) ev_c (rv_I ⟨by decide, by decide⟩)) (ev_op (ev_op (ev_var rfl) ev_c (rv_I ⟨by decide, by decide⟩)) ev_c (rv_I (.inr ⟨by decide, by decide⟩))) rv_I0) (ev_var rfl) (rv_I h0)) fun H7 e7 => ?_
      have e47 := ((e4.trans e5).trans e6).trans e7
      exact q H7 _ (o3.trans (Off.of e47)) ⟨g, b, m + 1, e47 d _ d3, hg0, hg1, hb0, hb1, m0, by omega⟩ (Int.emod_nonneg _ (by omega)) (Int.emod_lt_of_pos _ h0)
end
end Pg
namespace Pg
open PySem PySem.Spec PyProof.Rows L2 Evl Gd
abbrev sRows : Stmt := topS 7
theorem scRows : FnScope ["_law_draws_here", "_law_found", "_law_kind", "_law_page", "_law_many"] ["_law_draws_here"] (defScope sRows) := ⟨rfl, rfl, rfl, by decide +kernel, rfl, by decide +kernel, by decide +kernel⟩
theorem Off.mut {d p : Addr} {H H' : Hp} {o : HO} (e : Off d H H') (h : H p = none) : Off d H (L2.upd H' p o) := fun a u n ha => by
  rw [upd_ne (ne_of_none ha h)]
  exact e a u n ha
theorem Off.back {d p : Addr} {H H' : Hp} (e : Off d H H') (h : H' p = none) (n : p ≠ d) : H p = none := by
  cases h1 : H p with
  | none => rfl
  | some o =>
    rw [e p o n h1] at h
    cases h
theorem Pot.ne {H : Hp} {d p : Addr} {n : Int} (h : Pot H d n) (hp : H p = none) : p ≠ d := fun e => by
  obtain ⟨g, b, m, h0, _⟩ := h
  rw [e, h0] at hp
  cases hp
/-- rows as this law draws them: the pages 1, 3, 5 .., one to eight objects -/
def Drawn (rows : List Row) : Prop := (rows.map (·.1)) = (List.range rows.length).map (fun i : Nat => (i : Int) * 2 + 1) ∧ ∀ r ∈ rows, 1 ≤ r.2.1 ∧ r.2.1 ≤ 8
def spRows (K : PySem.W.Frag) : Sp := fun vs H Q _ => ∃ (d : Addr) (n : Int), vs = [.ref d] ∧ Pot H d n ∧ n ≤ 900000 ∧
  ∀ H' a rs, Off d H H' → Pot H' d (n + 1000) → RowsAt K H' a rs → rs.length ≤ 200 → Drawn (rs.map (·.2)) → Q (.ref a) H'
section
variable {P : Program} {w : World} {K : PySem.W.Frag} {mg : Str → Option Value} {base : Heap}
/-- f(d, many) -/
theorem rd_below {σ : L2.St} {H : Hp} {E : XK} {td tm : TE} {d : Addr} {n many : Int} {Q : VK} (hd : Ev td σ H (.ref d)) (hm : Ev tm σ H (.int many)) (hP : Pot H d n) (h1 : n ≤ 1000000) (h2 : 0 < many) (h3 : many ≤ 1000000)
    (k : ∀ H' r, Off d H H' → Pot H' d (n + 1) → 0 ≤ r → r < many → Q (.int r) H') : tCall spBelow [] E (tCons td (tCons tm tNil)) σ H Q := by
  refine hd H (Ex.refl H) _ fun H1 e1 => hm H1 e1 _ fun H2 e2 => ?_
  exact ⟨d, n, many, rfl, hP.ex (e1.trans e2), h1, h2, h3, fun H' r o p a b => k H' r ((Off.of (e1.trans e2)).trans o) p a b⟩
theorem ok_rows {f fB : Addr} {fd fdB : FuncData} (F : Fun K "_law_rows" "_law_rows" sRows f fd) (FB : Fun K "_law_below" "_law_below" sBelow fB fdB) (bB : Binds K fdB ["_law_draws_here", "_law_many"] []) (gB : mg "_law_below" = some (.ref fB))
    (mR : mg "range" = none) (mT : mg "tuple" = none) : FnOk P w K mg base CX0 2 f fd ["_law_draws_here"] (spRows K) := by
  have GB : FnOk P w K mg base CX0 1 fB fdB ["_law_draws_here", "_law_many"] spBelow := ok_below FB
  refine F.ok scRows (fun vs H Q E h => ?_) (fun cdv A outer s H vs Q E hr h => ?_)
  · obtain ⟨a, n, rfl, _⟩ := h
    rfl
  · obtain ⟨d, n, rfl, hP, hn, q⟩ := h
    refine ⟨_, pss_cons (ps_par (i := 1) (j := 2) rfl scRows.nd rfl rfl (by decide) rfl rfl (pa_cons (pe_lst pa_nil) (pa_cons (pe_call GB hr (by rfl) gB FB.kp bB .nil pass0 (pa_cons (pv 0) (pa_cons pe_int pa_nil))) pa_nil)) (by rfl))
      (pss_cons (ps_for PassesOwn.never rfl (pi_range1 (by rfl) mR (pa_cons (pe_op op_add pe_int (pe_call GB hr (by rfl) gB FB.kp bB .nil pass0 (pa_cons (pv 0) (pa_cons pe_int pa_nil)))) pa_nil)) (pg_name (i := 3) scRows.nd rfl (.inl rfl))
        (pss_cons (ps_set (i := 4) scRows.nd rfl (.inl rfl) (pe_op op_add pe_int (pe_call GB hr (by rfl) gB FB.kp bB .nil pass0 (pa_cons (pv 0) (pa_cons (pe_ix ix_list (pe_lst (pa_cons pe_int (pa_cons pe_int (pa_cons pe_int (pa_cons pe_int pa_nil))))) (pv 2) (fun _ _ => rfl)) pa_nil)))))
        (pss_cons (ps_set (i := 4) scRows.nd rfl (.inl rfl) (pe_ifExp (pw_and (pt_cmpR op_eq (pv 2) pe_int (nomark _)) (pw_and1 (pt_cmpR op_gt (pv 4) pe_int (nomark _)))).pt pe_int (pv 4)))
        (pss_one (ps_expr (pe_bm PySem.F.plainAttrs_list PySem.F.slot_list_append PySem.F.type_list_append mt_append (pv 1) (pa_cons (pe_tup (pa_cons (pe_op op_add (pe_op op_mul (pv 3) pe_int) pe_int) (pa_cons (pv 4)
          (pa_cons (pe_cmpR op_eq (pe_call GB hr (by rfl) gB FB.kp bB .nil pass0 (pa_cons (pv 0) (pa_cons (pe_ix ix_list (pe_lst (pa_cons pe_int (pa_cons pe_int (pa_cons pe_int (pa_cons pe_int pa_nil))))) (pv 2) (fun _ _ => rfl)) pa_nil))) pe_int (nomark _)) pa_nil)))) pa_nil)))))))
      (pss_one (ps_ret (pe_callTy call_tuple_of (by rfl) mT boot_tuple (pa_cons (pv 1) pa_nil))))), ?_⟩
    -- found, kind
    refine ⟨Nat.zero_le _, fun o ho => ?_⟩
    have od : o ≠ d := hP.ne ho
    have e1 : Ex H (upd H o (.lst [])) := Ex.new ho
    refine rd_below (ev_var rfl) ev_c (hP.ex e1) (by omega) (by decide) (by decide) fun H2 kd off2 pot2 k0 k1 => ?_
    have o2 : H2 o = some (.lst []) := off2 o _ od upd_same
    have offA : Off d H H2 := (Off.of e1).trans off2
    refine ⟨_, _, rfl, ?_⟩
    dsimp only
    -- range(1 + below)
    refine rd_below (ev_var rfl) ev_c pot2 (by omega) (by decide) (by decide) fun H3 r3 off3 pot3 r30 r31 => ?_
    have o3 : H3 o = some (.lst []) := off3 o _ od o2
    refine ⟨1, r3, rfl, rfl, 1 + r3, rfl, by omega, by omega, ?_⟩
    refine for_range (lo := 0) (n := (1 + r3).toNat) (fun i σ' H' => ∃ y3 y4, σ' = [some (.ref d), some (.ref o), some (.int kd), y3, y4] ∧ Off d H H' ∧ Pot H' d (n + 2 + 2 * (i : Int)) ∧
      ∃ rs : List (Addr × Row), H' o = some (.lst (rs.map fun r => V.ref r.1)) ∧ (∀ r ∈ rs, H' r.1 = some (.tup [.int r.2.1, .int r.2.2.1, .bl r.2.2.2])) ∧ rs.length = i ∧ Drawn (rs.map (·.2))) ?_ ?_ ?_
    · exact ⟨none, none, rfl, offA.trans off3, pot3.up (by omega), [], o3, fun r h => absurd h List.not_mem_nil, rfl, rfl, fun r h => absurd h List.not_mem_nil⟩
    · rintro i σ' H' hi ⟨y3, y4, rfl, off, pot, rs, ho', hrs, hl, hD⟩
      have hi2 : (i : Int) < 200 := by omega
      have e0 : (0 : Int) + (i : Int) = (i : Int) := Int.zero_add _
      dsimp only [gName]
      rw [e0]
      have four : ∀ (a0 a1 a2 a3 : Int), ∃ v, atI [V.int a0, .int a1, .int a2, .int a3] kd = some (.int v) ∧ (v = a0 ∨ v = a1 ∨ v = a2 ∨ v = a3) := by
        intro a0 a1 a2 a3
        have cs : kd = 0 ∨ kd = 1 ∨ kd = 2 ∨ kd = 3 := by omega
        rcases cs with e | e | e | e <;> rw [e]
        · exact ⟨a0, atI_nat (j := 0) rfl, .inl rfl⟩
        · exact ⟨a1, atI_nat (j := 1) rfl, .inr (.inl rfl)⟩
        · exact ⟨a2, atI_nat (j := 2) rfl, .inr (.inr (.inl rfl))⟩
        · exact ⟨a3, atI_nat (j := 3) rfl, .inr (.inr (.inr rfl))⟩
      -- the item of a written list of four
      have pick : ∀ (a0 a1 a2 a3 v : Int) (σ2 : L2.St) (H2 : Hp), σ2[2]? = some (some (.int kd)) → atI [V.int a0, .int a1, .int a2, .int a3] kd = some (.int v) → Ev (tOp (rIxL K) (tLst (tCons (tC (.int a0)) (tCons (tC (.int a1)) (tCons (tC (.int a2)) (tCons (tC (.int a3)) tNil))))) (tVar 2)) σ2 H2 (.int v) := by
        intro a0 a1 a2 a3 v σ2 H2 hσ ha
        exact ev_opL1 (el_lst (ea_cons ev_c (ea_cons ev_c (ea_cons ev_c (ea_cons ev_c ea_nil)))) (by show 4 ≤ 100000; decide)) (fun H1 _ => ev_var hσ) fun p H1 hp _ => rv_ixL (sq_of hp) ha
      obtain ⟨v1, hv1, cv1⟩ := four 8 1 3 8
      obtain ⟨v2, hv2, cv2⟩ := four 3 9 2 20
      refine st_seq ?_
      -- many
      refine rd_below (ev_var rfl) (pick 8 1 3 8 v1 _ _ rfl hv1) pot (by omega) (by omega) (by omega) fun H4 r4 off4 pot4 r40 r41 => ?_
      refine ⟨1, r4, rfl, rfl, ?_⟩
      dsimp only [gName]
      have m1a : 1 ≤ 1 + r4 ∧ 1 + r4 ≤ 8 := by omega
      generalize 1 + r4 = m1 at m1a ⊢
      have ho4 := off4 o _ od ho'
      have hrs4 : ∀ r ∈ rs, H4 r.1 = some (.tup [.int r.2.1, .int r.2.2.1, .bl r.2.2.2]) := fun r hr => off4 _ _ (fun e => by
        obtain ⟨g, b, m, h0, _⟩ := pot
        have := hrs r hr
        rw [e, h0] at this
        cases this) (hrs r hr)
      let bb : Bool := decide (V.int kd = V.int 3) && decide (2 < m1)
      refine st_seq (s_asg (i := 4) (v := .int (if bb = true then 8 else m1)) (ev_if (et_and (et_test (ev_op (ev_var rfl) ev_c (rv_eq rfl))) fun _ => et_test (ev_op (ev_var rfl) ev_c rv_I0)) (fun hb => ?_) (fun hb => ?_)) fun H5 e5 => ?_)
      · rw [show (if bb = true then (8 : Int) else m1) = 8 from if_pos hb]
        exact ev_c
      · rw [show (if bb = true then (8 : Int) else m1) = m1 from if_neg (by rw [show bb = false from hb]; decide)]
        exact ev_var rfl
      have m2a : 1 ≤ (if bb = true then 8 else m1) ∧ (if bb = true then 8 else m1) ≤ 8 := by split <;> omega
      generalize (if bb = true then 8 else m1) = m2 at m2a ⊢
      clear_value bb
      dsimp only
      have ho5 := e5 _ _ ho4
      refine ⟨.ref o, rfl, .inl ⟨rfl, _, sq_of ho5⟩, ?_⟩
      refine (ev_op (ev_op (ev_var rfl) ev_c (rv_I (.inr ⟨by decide, by decide⟩))) ev_c rv_I0 : Ev _ _ H5 _) H5 (Ex.refl H5) _ fun H6 e6 => ?_
      refine ⟨_, rfl, ?_⟩
      refine rd_below (ev_var rfl) (pick 3 9 2 20 v2 _ _ rfl hv2) ((pot4.ex e5).ex e6) (by omega) (by omega) (by omega) fun H7 r7 off7 pot7 r70 r71 => ?_
      refine ⟨rfl, ?_⟩
      refine ⟨by show 3 ≤ sizeLine; decide, fun p hp => ?_⟩
      have ho7 := off7 _ _ od (e6 _ _ ho5)
      have off57 : Off d H4 H7 := (Off.of (e5.trans e6)).trans off7
      have hrs7 : ∀ r ∈ rs, H7 r.1 = some (.tup [.int r.2.1, .int r.2.2.1, .bl r.2.2.2]) := fun r hr => off57 _ _ (fun e => by
        obtain ⟨g, b, m, h0, _⟩ := pot4
        have := hrs4 r hr
        rw [e, h0] at this
        cases this) (hrs4 r hr)
      have pd : p ≠ d := pot7.ne hp
      have po : p ≠ o := fun e => by
        rw [e, ho7] at hp
        cases hp
      have ep : Ex H7 (upd H7 p (.tup [.int ((i : Int) * 2 + 1), .int m2, .bl (decide (V.int r7 = V.int 0))])) := Ex.new hp
      have off8 := ((off.trans off4).trans off57).trans (Off.of ep)
      have oN : H o = none := ho
      refine ⟨o, _, _, rfl, rfl, ep _ _ ho7, by rw [List.length_map]; exact sz_lt (by omega), ?_⟩
      refine ⟨_, _, rfl, off8.mut oN, ?_, rs ++ [(p, (i : Int) * 2 + 1, m2, decide (V.int r7 = V.int 0))], ?_, ?_, ?_, ?_⟩
      · obtain ⟨g, b, m, h0, h⟩ := pot7
        refine ⟨g, b, m, ?_, h.1, h.2.1, h.2.2.1, h.2.2.2.1, h.2.2.2.2.1, by have := h.2.2.2.2.2; omega⟩
        rw [upd_ne od.symm]
        exact ep _ _ h0
      · rw [upd_same, List.map_append]
        rfl
      · intro r hr
        have ne : ∀ {t : Addr} {u : List V}, (upd H7 p (.tup [.int ((i : Int) * 2 + 1), .int m2, .bl (decide (V.int r7 = V.int 0))])) t = some (.tup u) → t ≠ o := fun {t u} h e => by
          rw [e, ep _ _ ho7] at h
          cases h
        rcases List.mem_append.mp hr with h | h
        · have h8 := ep _ _ (hrs7 r h)
          rw [upd_ne (ne h8)]
          exact h8
        · have := List.mem_singleton.mp h
          subst this
          rw [upd_ne po]
          exact upd_same
      · rw [List.length_append, hl]
        rfl
      · obtain ⟨hd1, hd2⟩ := hD
        rw [List.length_map, hl] at hd1
        refine ⟨?_, ?_⟩
        · rw [List.map_append, List.map_append, hd1, List.length_append, List.length_map, hl]
          show _ = List.map _ (List.range (i + 1))
          rw [List.range_succ, List.map_append]
          rfl
        · intro r hr
          rw [List.map_append] at hr
          rcases List.mem_append.mp hr with h | h
          · exact hd2 r h
          · have := List.mem_singleton.mp h
            subst this
            exact m2a
    · rintro σ' H' ⟨y3, y4, rfl, off, pot, rs, ho', hrs, hl, hD⟩
      dsimp only
      refine ⟨_, rfl, o, _, rfl, .inl ⟨sq_of ho', fun a ha => ?_⟩⟩
      have ea : Ex H' (upd H' a (.tup (rs.map fun r => V.ref r.1))) := Ex.new ha
      refine q _ a rs (off.trans (Off.of ea)) ((pot.ex ea).up (by omega)) ⟨st_of upd_same, fun r hr => st_of (ea _ _ (hrs r hr))⟩ (by omega) hD
end
end Pg
namespace Pg
open PySem PySem.Spec PyProof.Rows L2 Evl Gd
abbrev sDue : Stmt := topS 8
abbrev nDue : List Str := ["_law_rows_here", "_law_most", "_law_page", "_law_many", "_law_room", "_law_left", "_law_found", "_law_is_pinned"]
theorem scDue : FnScope nDue ["_law_rows_here", "_law_most"] (defScope sDue) := ⟨rfl, rfl, rfl, by decide +kernel, rfl, by decide +kernel, by decide +kernel⟩
def spDue (K : PySem.W.Frag) : Sp := fun vs H Q _ => ∃ (a : Addr) (rs : List (Addr × Row)) (m : Int), vs = [.ref a, .int m] ∧ RowsAt K H a rs ∧ rs.length ≤ 1000 ∧ (∀ r ∈ rs.map (·.2), 1 ≤ r.2.1 ∧ r.2.1 ≤ 8) ∧
  ∀ H' p, Ex H H' → H p = none → H' p = some (.tup ((emp (rs.map (·.2)) m).map V.int)) → Q (.ref p) H'
section
variable {P : Program} {w : World} {K : PySem.W.Frag} {mg : Str → Option Value} {base : Heap}
def LoopD (H : Hp) (l o : Addr) (rows : List Row) (m : Int) (xs : List V) (i : Nat) (left : Int) (H' : Hp) : Prop :=
  Ex H H' ∧ H' l = some (.lst xs) ∧ PairsIn H' xs ∧ xs.map (kOf H') = loads rows ∧ H' o = some (.lst ((((loads rows).take i).map (·.2)).map V.int)) ∧
    taken (bound rows) m 0 (loads rows) = (loads rows).take i ++ taken (bound rows) left i ((loads rows).drop i) ∧ (i : Int) ≤ bound rows
theorem ok_due {f : Addr} {fd : FuncData} (F : Fun K "_law_due" "_law_due" sDue f fd) (mS : mg "sum" = none) (mL : mg "len" = none) (mO : mg "sorted" = none) (mT : mg "tuple" = none) : FnOk P w K mg base CX0 1 f fd ["_law_rows_here", "_law_most"] (spDue K) := by
  refine F.ok scDue (fun vs H Q E h => ?_) (fun cdv A outer s H vs Q E hr h => ?_)
  · obtain ⟨a, rs, m, rfl, _⟩ := h
    rfl
  · obtain ⟨a, rs, m, rfl, hR, hz, hB, q⟩ := h
    have gT : ∀ {X : Cx}, PG X (.Tuple [.Name "_law_page" ⟨0,0,0,0⟩] 0 ⟨0,0,0,0⟩) (g3 X.K 2 3 7) → True := fun _ => trivial
    refine ⟨_, pss_cons (ps_par3 (i := 4) (j := 5) (l := 6) rfl scDue.nd rfl rfl rfl (by decide) (by decide) (by decide) rfl rfl rfl (pa_cons (pe_callB (cr_sum rfl) (by rfl) mS boot_sum (pa_cons
        (pe_lc (own := [("_law_page", 2), ("_law_many", 3), ("_law_is_pinned", 7)]) (g := g3 K 2 3 7) (tt := tYes) (te := tOp (rI0 fun i j => .int (i - j)) (tC (.int 8)) (tVar 3)) rfl scDue.nd (pi_tup (pv 0)) (blkOk_by (N := nDue) (sc := defScope sDue) (by decide +kernel))
          (fun _ _ _ _ _ => pg_tup rfl (pgs_cons (pg_name (i := 2) scDue.nd rfl (.inl rfl)) (pgs_cons (pg_name (i := 3) scDue.nd rfl (.inl rfl)) (pgs_cons (pg_name (i := 7) scDue.nd rfl (.inl rfl)) pgs_nil))))
          (fun _ _ _ _ _ => pts_nil) (fun _ _ _ _ _ => pe_op op_sub pe_int (pv 3))) pa_nil)) (pa_cons (pv 1) (pa_cons (pe_lst pa_nil) pa_nil))) (by rfl))
      (pss_cons (ps_for PassesOwn.never rfl (pi_list (pe_callB cr_sortedPO (by rfl) mO boot_sorted (pa_cons
        (pe_lc (own := [("_law_page", 2), ("_law_many", 3), ("_law_is_pinned", 7)]) (g := g3 K 2 3 7) (tt := tNot (tB (tVar 7))) (te := tTup (tCons (tVar 3) (tCons (tVar 2) tNil))) rfl scDue.nd (pi_tup (pv 0)) (blkOk_by (N := nDue) (sc := defScope sDue) (by decide +kernel))
          (fun _ _ _ _ _ => pg_tup rfl (pgs_cons (pg_name (i := 2) scDue.nd rfl (.inl rfl)) (pgs_cons (pg_name (i := 3) scDue.nd rfl (.inl rfl)) (pgs_cons (pg_name (i := 7) scDue.nd rfl (.inl rfl)) pgs_nil))))
          (fun _ _ _ _ _ => pts_one (pt_not (pt_val (pv 7)))) (fun _ _ _ _ _ => pe_tup (pa_cons (pv 3) (pa_cons (pv 2) pa_nil)))) pa_nil))) (pg_tup (n := 2) rfl (pgs_cons (pg_name (i := 3) scDue.nd rfl (.inl rfl)) (pgs_cons (pg_name (i := 2) scDue.nd rfl (.inl rfl)) pgs_nil)))
        (pss_cons (ps_if (pw_or (pt_cmpR op_gt (pv 3) (pv 5) (nomark _)) (pw_or1 (pt_cmpR op_gt (pe_op op_add (pe_op op_mul pe_int (pe_callB call_len_seq (by rfl) mL PySem.boot_len (pa_cons (pv 6) pa_nil))) pe_int) (pv 4) (nomark _)))).pt (pss_one ps_break) pss_nil)
        (pss_cons (ps_expr (pe_bm PySem.F.plainAttrs_list PySem.F.slot_list_append PySem.F.type_list_append mt_append (pv 6) (pa_cons (pv 2) pa_nil)))
        (pss_one (ps_set (i := 5) scDue.nd rfl (.inl rfl) (pe_op op_sub (pv 5) (pv 3)))))))
      (pss_one (ps_ret (pe_callTy call_tuple_of (by rfl) mT boot_tuple (pa_cons (pe_callB cr_sortedI (by rfl) mO boot_sorted (pa_cons (pv 6) pa_nil)) pa_nil))))), ?_⟩
    have hR1 : ∀ {H1 : Hp}, Ex H H1 → RowsAt K H1 a rs := fun e => hR.ex e
    -- room, left, found
    refine ev_sumL (ns := (rs.map fun r => 8 - r.2.2.1)) (el_rowsI (i := 2) (j := 3) (k := 7) (f := fun r => 8 - r.2.1) (ev_var rfl) hR (by omega) (fun _ _ _ => rfl) fun r hr H1 e => ev_op ev_c (ev_var rfl) rv_I0) H (Ex.refl H) _ fun H1 e1 => ?_
    refine ⟨_, rfl, ?_⟩
    refine ⟨Nat.zero_le _, fun o ho => ⟨_, _, _, rfl, ?_⟩⟩
    have hro : (rs.map fun r => 8 - r.2.2.1).sum = room (rs.map (·.2)) := by
      unfold room
      rw [List.map_map]
      rfl
    rw [hro]
    have e12 : Ex H1 (upd H1 o (.lst [])) := Ex.new ho
    have e02 := e1.trans e12
    dsimp only
    -- the sorted pairs
    refine el_loads (i := 2) (j := 3) (k := 7) (ev_var rfl) hR (by omega) (fun _ _ _ => rfl) (fun _ _ _ => rfl) (fun _ _ _ => rfl) (fun _ _ _ => rfl) _ e02 _ fun l H3 xs hl e3 h3 p3 k3 => ?_
    have h3o : H3 o = some (.lst []) := e3 o _ upd_same
    have hol : o ≠ l := fun e => by
      rw [← e, upd_same] at hl
      cases hl
    have hoN : H o = none := fresh_back e1 ho
    have e03 := e02.trans e3
    have hPos : (loads (rs.map (·.2))).length = xs.length := by rw [← k3, List.length_map]
    have hXs : xs.length ≤ 1000 := by
      have h1 := pairsOf_len (rs.map (·.2))
      rw [← hPos, (loads_perm _).length_eq]
      rw [List.length_map] at h1
      omega
    refine ⟨l, rfl, ⟨xs, sq_of h3⟩, ?_⟩
    refine for_list (xs := xs) (fun i σ' H' => ∃ y2 y3 left, σ' = [some (.ref a), some (.int m), y2, y3, some (.int (room (rs.map (·.2)))), some (.int left), some (.ref o), none] ∧
      LoopD H l o (rs.map (·.2)) m xs i left H') ?_ (fun i σ' H' _ p => ?_) (fun i x σ' H' hx p => ?_) (fun σ' H' p => ?_)
    · exact ⟨none, none, m, rfl, e03, h3, p3, k3, h3o, rfl, bound_nn hB⟩
    · obtain ⟨_, _, _, _, _, q2, _⟩ := p
      exact sq_of q2
    · obtain ⟨y2, y3, left, rfl, q1, q2, q3, q4, q5, q6, q7⟩ := p
      have hi : i < xs.length := (List.getElem?_eq_some_iff.mp hx).1
      have hpr : (loads (rs.map (·.2)))[i]? = some (kOf H' x) := by rw [← q4, List.getElem?_map, hx]; rfl
      obtain ⟨t, rfl, ht⟩ := q3 x (List.mem_of_getElem? hx)
      rw [taken_at hpr] at q6
      have hfl : (((loads (rs.map (·.2))).take i).map (·.2)).length = i := by
        rw [List.length_map, List.length_take, hPos]
        omega
      have hfull := full_iff hB q7
      refine ⟨t, _, rfl, st_of ht, rfl, .int (kOf H' (.ref t)).1, _, rfl, .int (kOf H' (.ref t)).2, [], rfl, rfl, ?_⟩
      refine st_seq (s_if (et_or (et_test (ev_op (ev_var rfl) (ev_var rfl) rv_I0)) fun _ => et_test (ev_op (ev_op (ev_op ev_c (ev_len (ev_var rfl) (sq_of q5)) (rv_I (.inl ⟨by decide, by decide⟩))) ev_c rv_I0) (ev_var rfl) rv_I0)) (fun hb H6 e6 => ?_) (fun hb H6 e6 => ?_))
      · dsimp only
        refine s_retSorted (i := 6) rfl (e6 o _ q5) fun p H7 hp e7 h7 => ?_
        have hc : (i : Int) = bound (rs.map (·.2)) ∨ left < (kOf H' (.ref t)).1 := by
          rw [List.length_map, hfl, Bool.or_eq_true] at hb
          rcases hb with h | h
          · exact .inr (of_decide_eq_true h)
          · exact .inl (hfull.mpr (of_decide_eq_true h))
        rw [if_pos hc, List.append_nil] at q6
        refine q H7 p ((q1.trans e6).trans e7) (fresh_back (q1.trans e6) hp) ?_
        rw [h7]
        unfold emp pages
        rw [q6]
      · have hc : ¬ ((i : Int) = bound (rs.map (·.2)) ∨ left < (kOf H' (.ref t)).1) := by
          rw [List.length_map, hfl, Bool.or_eq_false_iff] at hb
          rintro (h | h)
          · exact of_decide_eq_false hb.2 (hfull.mp h)
          · exact of_decide_eq_false hb.1 h
        rw [if_neg hc] at q6
        dsimp only [tNext]
        refine st_seq (s_app (e6 o _ q5) (ev_var rfl) (ev_var rfl) (by rw [List.length_map, hfl]; omega) fun H8 e8 => ?_)
        dsimp only
        have e68 := e6.trans e8
        refine s_asg (i := 5) (v := .int (left - (kOf H' (.ref t)).1)) (ev_op (ev_var rfl) (ev_var rfl) rv_I0) fun H9 e9 => ?_
        have off := (q3.ex e68).off (u := .lst ((((loads (rs.map (·.2))).take i).map (·.2)).map V.int ++ [.int (kOf H' (.ref t)).2])) (e68 o _ q5)
        have eo : Ex H (upd H8 o (.lst ((((loads (rs.map (·.2))).take i).map (·.2)).map V.int ++ [.int (kOf H' (.ref t)).2]))) := Ex.mut (q1.trans e68) hoN
        refine ⟨_, _, left - (kOf H' (.ref t)).1, rfl, eo.trans e9, e9 _ _ ?_, off.1.ex e9, ?_, e9 _ _ ?_, ?_, ?_⟩
        · rw [upd_ne hol.symm]
          exact e68 l _ q2
        · rw [← q4]
          refine List.map_congr_left fun y hy => ?_
          rw [kOf_ex e9 off.1 y hy, off.2 y hy]
          exact kOf_ex e68 q3 y hy
        · rw [upd_same, take_succ_map _ hpr, List.map_append]
          rfl
        · rw [q6, List.take_add_one, hpr]
          simp
        · omega
    · obtain ⟨y2, y3, left, rfl, q1, q2, q3, q4, q5, q6, q7⟩ := p
      dsimp only
      refine s_retSorted (i := 6) rfl q5 fun p H7 hp e7 h7 => ?_
      refine q H7 p (q1.trans e7) (fresh_back q1 hp) ?_
      rw [h7]
      unfold emp pages
      rw [q6, ← hPos, List.drop_length]
      show some (HO.tup _) = some (HO.tup (List.map V.int (List.mergeSort (List.map _ (_ ++ [])) leI)))
      rw [List.append_nil]
end
end Pg
namespace Gd
open PySem PySem.Spec PyProof.Rows L2
/-- f(k = v, ..), keywords alone -/
theorem pe_kwOnly {X : Cx} {CX : CXT} {k : Nat} {f : Addr} {fd : FuncData} {ps ks : List Str} {sp : Sp} {E : XK} {x : Str} {p pos : Pos} {kws : List Keyword} {tk : TA} {g : List Value → List Value → List Value} {gV : List V → List V → List V}
    (F : FnOk X.prog X.w X.K X.mg X.base CX k f fd ps sp) (room : Room k X.A) (isGl : Gl X x) (at_ : X.mg x = some (.ref f)) (kept : PySem.W.keepIn X.K (.ref f) = true) (bind : KBinds X.K fd ps ks g gV) (pass : Passes CX X E)
    (words : PK X kws tk) (every : (backToKw pos (keywordEach kws X.env)).all (·.1.isSome) = true := by rfl) (names : (backToKw pos (keywordEach kws X.env)).filterMap (·.1) = ks := by rfl) (nodbg : (x == ("__debug__" : Str)) = false := by decide)
    (plain : ((backTo pos (starEach [] X.env)).any (·.1) || (backToKw pos (keywordEach kws X.env)).any (·.1.isNone)) = false := by rfl) :
    PE X (.Call (.Name x p) [] kws pos) (tCallK sp gV E tNil tk) := by
  constructor
  intro pins s σ H Q I want
  refine wpAny_Call_Name_kw (ld_glob I isGl at_ ?_ nodbg)
  refine PySem.W.callWith_KW0 (h₀ := X.base) I.ok.mod.kin kept every ?_ plain
  refine thn (words.run pos pins s σ H _ I want) ?_
  rintro ws s2 ⟨zs, H2, I2, rel, q⟩
  refine ⟨I2.kIn, ?_⟩
  rw [names]
  exact run_fnk (us := []) (vs := []) F room bind pass I2 .nil rel q
end Gd
namespace Gd
open PySem PySem.Spec PyProof.Rows L2
/-- as fng_of, where nothing leaves the body -/
theorem fng0_of {P : Program} {w : World} {K : PySem.W.Frag} {mg : Str → Option Value} {base : Heap} {k : Nat} {f : Addr} {fd : FuncData} {ps : List Str} {sp : Sp} {x qual : Str} {st : Stmt} {N : List Str} (F : Fun K x qual st f fd) (S : FnScope N ps (defScope st)) (ar : ∀ vs H Q E, sp vs H Q E → vs.length = ps.length)
    (body : ∀ (cdv : Value) (A : Around) (outer : List Env) (s : Shared) (H : Hp) (vs : List V) (Q : VK) (E : XK), Room k (A.deeper (envOfC qual (defScope st) s.heap.objs.size f cdv)) → A.guards = some [] → sp vs H Q E →
      ∃ t, PSs (cxOf CX0 P w K mg base N qual (defScope st) f cdv A outer s H E).nox (defBody st) t ∧ t { nx := fun _ H' => Q .non H', rt := Q } (start N vs) H) :
    FnG P w K mg base CX0 (k + 1) f fd ps sp :=
  fng_of F S ar fun cdv A outer s H vs Q E room gd want => by
    obtain ⟨t, d, r⟩ := body cdv A outer s H vs Q E room gd want
    exact ⟨t, d.nox, r⟩
end Gd
namespace Pg
open PySem PySem.Spec PyProof.Rows L2 Evl Gd
/-- dict([(page, objects) for page, objects, pinned in rows]): a new dict, each page's objects by its number -/
def kvOf (rows : List Row) : List (Key × V) := rows.map fun r => (Sum.inl r.1, V.int r.2.1)
theorem valV_merge_out {κ : Type} [DecidableEq κ] (j : κ) : ∀ (more acc : List (κ × V)), j ∉ more.map (·.1) → valV (more.foldl (fun acc kv => putK acc kv.1 kv.2) acc) j = valV acc j
  | [], _, _ => rfl
  | p :: r, acc, h => by
    rw [List.map_cons, List.mem_cons] at h
    show valV (r.foldl _ (putK acc p.1 p.2)) j = _
    rw [valV_merge_out j r _ fun m => h (.inr m), valV_put, if_neg fun e => h (.inl e)]
theorem valV_merge_in {κ : Type} [DecidableEq κ] {j : κ} {y : V} : ∀ (more acc : List (κ × V)), (more.map (·.1)).Nodup → (j, y) ∈ more → valV (more.foldl (fun acc kv => putK acc kv.1 kv.2) acc) j = some y
  | p :: r, acc, hn, h => by
    rw [List.map_cons, List.nodup_cons] at hn
    show valV (r.foldl _ (putK acc p.1 p.2)) j = _
    rcases List.mem_cons.mp h with e | e
    · subst e
      rw [valV_merge_out _ r _ hn.1, valV_put, if_pos rfl]
    · exact valV_merge_in r _ hn.2 e
theorem look_kv {rows : List Row} (hn : (rows.map (·.1)).Nodup) {r : Row} (h : r ∈ rows) : valV (mergeK [] (kvOf rows)) (Sum.inl r.1) = some (.int r.2.1) := by
  refine valV_merge_in _ _ ?_ (List.mem_map.mpr ⟨r, h, rfl⟩)
  unfold kvOf
  rw [List.map_map]
  have e : ((fun kv : Key × V => kv.1) ∘ fun r : Row => ((Sum.inl r.1 : Key), V.int r.2.1)) = Sum.inl ∘ fun r : Row => r.1 := rfl
  rw [e, ← List.map_map]
  exact List.Pairwise.map _ (fun a b ne e => ne (Sum.inl.inj e)) hn
theorem paired_of {H : Hp} {K : PySem.W.Frag} : ∀ {rows : List Row} {ps : List Addr}, ps.length = rows.length → (∀ (i : Nat) p r, ps[i]? = some p → rows[i]? = some r → SqT K H p [.int r.1, .int r.2.1]) → Paired (fun p (kv : Key × V) => SqT K H p [kV kv.1, kv.2]) ps (kvOf rows)
  | [], [], _, _ => .nil
  | r :: rs, p :: ps, h, hh => .cons (hh 0 p r rfl rfl) (paired_of (by simpa using h) fun i p' r' h1 h2 => hh (i + 1) p' r' h1 h2)
theorem el_dict {K : PySem.W.Frag} {a : Addr} {rs : List (Addr × Row)} {tl : TE} {σ : L2.St} {H : Hp} {i j k : Nat} {vs : List Nat}
    (h : Ev tl σ H (.ref a)) (hR : RowsAt K H a rs) (hz : rs.length ≤ 40000) (hw : ∀ x y z, wipe ((((wipe σ vs).set i (some x)).set j (some y)).set k (some z)) vs = wipe σ vs)
    (hi : ∀ x y z, ((((wipe σ vs).set i (some x)).set j (some y)).set k (some z))[i]? = some (some x)) (hj : ∀ x y z, ((((wipe σ vs).set i (some x)).set j (some y)).set k (some z))[j]? = some (some y)) :
    ∀ H0, Ex H H0 → ∀ Q : VK, (∀ p H2, H0 p = none → Ex H0 H2 → H2 p = some (.dK (mergeK [] (kvOf (rs.map (·.2))))) → Q (.ref p) H2) →
      tCB (fun xs H Q => ∃ (a : Addr) (ps : List Addr) (kvs : List (Key × V)), xs = [.ref a] ∧ SqL K H a (ps.map V.ref) ∧ Paired (fun p kv => SqT K H p [kV kv.1, kv.2]) ps kvs ∧ ∀ p, H p = none → Q (.ref p) (upd H p (.dK (mergeK [] kvs))))
        (tCons (tLc (iTup K tl) (g3 K i j k) tYes (tTup (tCons (tVar i) (tCons (tVar j) tNil))) vs) tNil) σ H0 Q := by
  intro H0 e Q q
  refine h H0 e _ fun H1 e1 => ?_
  have hR1 := hR.ex (e.trans e1)
  refine ⟨a, rfl, ⟨_, hR1.1⟩, fun D hD => lc_tup (xs := rs.map fun r => V.ref r.1) (fun n H' => Ex H1 H' ∧ ∃ ps : List Addr, H' D = some (.lst (ps.map V.ref)) ∧ D ∉ ps ∧ ps.length = n ∧ ∀ (m : Nat) p r, ps[m]? = some p → (rs.map (·.2))[m]? = some r → H' p = some (.tup [.int r.1, .int r.2.1]))
    ⟨Ex.new hD, [], upd_same, List.not_mem_nil, rfl, fun m p r h => by simp at h⟩ (fun n H' _ p => ex_t p.1 hR1.1) ?_ ?_⟩
  · rintro n x H' hx ⟨p1, ps, p2, p3, p4, p5⟩
    obtain ⟨r, hr, rfl⟩ := rows_at hx
    have hm : r ∈ rs := List.mem_of_getElem? hr
    have hlt := (List.getElem?_eq_some_iff.mp hr).1
    refine ⟨r.1, _, rfl, ex_t p1 (hR1.2 r hm), rfl, .int r.2.1, _, rfl, .int r.2.2.1, _, rfl, .bl r.2.2.2, [], rfl, rfl, hw _ _ _, ?_⟩
    unfold tYes
    dsimp only
    rw [if_pos rfl]
    refine ⟨_, hi _ _ _, _, hj _ _ _, by show 2 ≤ sizeLine; decide, fun p hp => ?_⟩
    have hpD : D ≠ p := ne_of_none p2 hp
    have ep : Ex H' (upd H' p (.tup [.int r.2.1, .int r.2.2.1])) := Ex.new hp
    refine ⟨_, ep D _ p2, sz_lt (by rw [List.length_map]; omega), Ex.mut (p1.trans ep) hD, ps ++ [p], ?_, ?_, ?_, ?_⟩
    · rw [upd_same, List.map_append]
      rfl
    · intro hmem
      rcases List.mem_append.mp hmem with m | m
      · exact p3 m
      · exact hpD (List.mem_singleton.mp m)
    · rw [List.length_append, p4]
      rfl
    · intro m q r' hq hr'
      by_cases hmn : m < ps.length
      · rw [List.getElem?_append_left hmn] at hq
        have hq5 := p5 m q r' hq hr'
        have hqD : q ≠ D := fun e => p3 (by rw [← e]; exact List.mem_of_getElem? hq)
        rw [upd_ne hqD]
        exact ep _ _ hq5
      · have hlen := (List.getElem?_eq_some_iff.mp hq).1
        rw [List.length_append] at hlen
        have em : m = n := by
          have : ([p] : List Addr).length = 1 := rfl
          omega
        subst em
        rw [List.getElem?_append_right (by omega), p4, Nat.sub_self] at hq
        have eq : p = q := Option.some.inj hq
        subst eq
        rw [List.getElem?_map, hr] at hr'
        have er : r.2 = r' := Option.some.inj hr'
        subst er
        rw [upd_ne hpD.symm]
        exact upd_same
  · rintro H' ⟨p1, ps, p2, p3, p4, p5⟩
    refine ⟨D, ps, kvOf (rs.map (·.2)), rfl, sq_of p2, paired_of (by rw [p4, List.length_map, List.length_map]) fun m p r h1 h2 => st_of (p5 m p r h1 h2), fun p hp => ?_⟩
    exact q p _ (fresh_back (e1.trans p1) hp) ((e1.trans p1).trans (Ex.new hp)) upd_same
/-- d[k] -/
theorem ev_dget {td ty : TE} {σ : L2.St} {H : Hp} {d : Addr} {kvs : List (Key × V)} {k : Key} {v : V} (h1 : Ev td σ H (.ref d)) (h2 : Ev ty σ H (kV k)) (hd : H d = some (.dK kvs)) (hv : valV kvs k = some v) : Ev (tDGet td ty) σ H v := by
  intro H1 e Q q
  refine h1 H1 e _ fun H2 e2 => h2 H2 (e.trans e2) _ fun H3 e3 => ?_
  have hd3 := e3 d _ (e2 d _ (e d _ hd))
  exact ⟨d, v, rfl, hv ▸ DGet.k hd3, q H3 (e2.trans e3)⟩
/-- data of a tuple of ints -/
abbrev dInts (ns : List Int) : PyData := .tuple (ns.map .int)
theorem dp_ints {K : PySem.W.Frag} {H : Hp} : ∀ ns : List Int, DpAll K H (ns.map V.int) (ns.map .int)
  | [] => .nil
  | n :: r => .cons (.int n) (dp_ints r)
theorem dp_tupI {K : PySem.W.Frag} {H : Hp} {p : Addr} {ns : List Int} (h : SqT K H p (ns.map V.int)) : Dp K H (.ref p) (dInts ns) := .tup h (dp_ints ns)
end Pg
namespace Gd
open PySem PySem.Spec PyProof.Rows L2
/-! Facts of the data of a tuple of small ints. -/
theorem ints_show : ∀ ns : List Int, (∀ n ∈ ns, n.natAbs < 10 ^ 9) → PyData.showableAll (ns.map .int) = true
  | [], _ => rfl
  | n :: r, h => by
    rw [List.map_cons, PyData.showableAll, ints_show r fun m hm => h m (List.mem_cons_of_mem _ hm), Bool.and_true]
    rw [PyData.showable]
    refine decide_eq_true ?_
    have h1 := h n List.mem_cons_self
    by_cases z : n.natAbs = 0
    · rw [z]
      decide
    · exact Nat.lt_of_lt_of_le ((Nat.log2_lt z).mpr (Nat.lt_of_lt_of_le h1 (by decide : (10 : Nat) ^ 9 ≤ 2 ^ 30))) (by decide)
theorem ints_noDict : ∀ ns : List Int, PyData.hasDictAll (ns.map .int) = false
  | [] => rfl
  | n :: r => by
    rw [List.map_cons, PyData.hasDictAll, ints_noDict r, PyData.hasDict]
    rfl
theorem ints_depth : ∀ ns : List Int, PyData.depthAll (ns.map .int) = 0
  | [] => rfl
  | n :: r => by
    rw [List.map_cons, PyData.depthAll, ints_depth r, PyData.depth]
    rfl
theorem ints_lay : ∀ ns : List Int, PyData.canLayAll0 (ns.map .int) = true
  | [] => rfl
  | n :: r => by
    rw [List.map_cons, PyData.canLayAll0, ints_lay r, PyData.canLay0]
    rfl
theorem int_len {n : Int} (h : n.natAbs < 10 ^ 9) : ((toString n : String) : Str).length ≤ 10 := by
  have e := int_text_length_le10 (a := n) (k := 9) (by decide) h
  rw [PySem.ofString_length]
  exact e
theorem ints_piled : ∀ ns : List Int, (∀ n ∈ ns, n.natAbs < 10 ^ 9) → piled (PyData.shownAll (ns.map .int)) ≤ 12 * ns.length
  | [], _ => Nat.le_refl _
  | n :: r, h => by
    have ih := ints_piled r fun m hm => h m (List.mem_cons_of_mem _ hm)
    have h1 := int_len (h n List.mem_cons_self)
    rw [List.map_cons, PyData.shownAll, piled_cons, PyData.shown, List.length_cons]
    omega
theorem tupI_facts {ns : List Int} (h : ∀ n ∈ ns, n.natAbs < 10 ^ 9) (hl : ns.length ≤ 1000000) : (PyData.tuple (ns.map .int)).showable = true ∧ (PyData.tuple (ns.map .int)).hasDict = false ∧ (PyData.tuple (ns.map .int)).depth ≤ 40 ∧ (PyData.tuple (ns.map .int)).shown.length ≤ sizeLine := by
  refine ⟨?_, ?_, ?_, ?_⟩
  · rw [PyData.showable]
    exact ints_show ns h
  · rw [PyData.hasDict]
    exact ints_noDict ns
  · rw [PyData.depth, ints_depth]
    decide
  · rw [PyData.shown]
    have h1 := fmt_text (PyData.shownAll (ns.map .int))
    have h2 := ints_piled ns h
    have h3 : sizeLine = 2 ^ 24 := rfl
    omega
theorem tupI_shaped (ns : List Int) : SeqAt.shaped (PyData.tuple (ns.map .int)) = true := by
  unfold SeqAt.shaped
  rw [PyData.canLay0, ints_lay, PyData.depth, ints_depth]
  rfl
theorem tupI_eqv (ns : List Int) : PyData.eqv (PyData.tuple (ns.map .int)) (PyData.tuple (ns.map .int)) = true := PySem.SeqAt.eqv_refl _ (by rw [PyData.canLay0]; exact ints_lay ns)
end Gd
namespace Pg
open PySem PySem.Spec PyProof.Rows L2 Evl Gd
abbrev sLaw : Stmt := topS 9
abbrev nLaw : List Str := ["_law_script", "_law_k", "_law_draws_here", "_law_turn", "_law_rows_here", "_law_objects", "_law_most", "_law_told", "_law_paid", "_law_page", "_law_many", "_law_is_pinned"]
theorem scLaw : FnScope nLaw ["_law_script"] (defScope sLaw) := ⟨rfl, rfl, rfl, by decide +kernel, rfl, by decide +kernel, by decide +kernel⟩
def spLaw (K : PySem.W.Frag) : Sp := fun vs H Q _ => ∃ (a : Addr) (ns : List Int), vs = [.ref a] ∧ SqL K H a (ns.map V.int) ∧ ns.length ≤ 63 ∧ ∀ H', Q (.bl true) H'
section
variable {P : Program} {w : World} {K : PySem.W.Frag} {mg : Str → Option Value} {base : Heap}
def swap2 {α : Type} (us ws : List α) : List α := match us, ws with | [], [m, p] => [p, m] | _, _ => []
theorem Off.ex {d : Addr} {H H' : Hp} (h : H d = none) (o : Off d H H') : Ex H H' := fun a u e => o a u (ne_of_none e h) e
theorem Off.rd {d a : Addr} {H H' : Hp} {n : Int} {u : HO} (pot : Pot H d n) (o : Off d H H') (hu : ∀ xs, u ≠ .lst xs) (h : Rd H a u) : Rd H' a u := by
  obtain ⟨g, b, m, h0, _⟩ := pot
  rcases h with h | ⟨x, h⟩
  · refine .inl (o a _ (fun e => ?_) h)
    rw [e, h0] at h
    exact hu _ (Option.some.inj h).symm
  · refine .inr ⟨x, o a _ (fun e => ?_) h⟩
    rw [e, h0] at h
    cases h
theorem Off.sqt {K : PySem.W.Frag} {d a : Addr} {H H' : Hp} {n : Int} {xs : List V} (pot : Pot H d n) (o : Off d H H') (h : SqT K H a xs) : SqT K H' a xs := by
  rcases h with h | h
  · exact .inl (o.rd pot (fun _ e => nomatch e) h)
  · exact .inr h
theorem RowsAt.off {K : PySem.W.Frag} {d a : Addr} {H H' : Hp} {n : Int} {rs : List (Addr × Row)} (pot : Pot H d n) (o : Off d H H') (h : RowsAt K H a rs) : RowsAt K H' a rs :=
  ⟨o.sqt pot h.1, fun r hr => o.sqt pot (h.2 r hr)⟩
/-- the pages of drawn rows -/
theorem drawn_page {rows : List Row} (h : Drawn rows) {r : Row} (hr : r ∈ rows) : 1 ≤ r.1 ∧ r.1 ≤ 2 * (rows.length : Int) := by
  have h1 : r.1 ∈ rows.map (·.1) := List.mem_map.mpr ⟨r, hr, rfl⟩
  rw [h.1] at h1
  obtain ⟨i, hi, e⟩ := List.mem_map.mp h1
  have := List.mem_range.mp hi
  omega
theorem drawn_nodup {rows : List Row} (h : Drawn rows) : (rows.map (·.1)).Nodup := by
  rw [h.1]
  exact List.Pairwise.map _ (fun a b ne e => ne (by omega)) List.nodup_range
theorem emp_small {rows : List Row} (h : Drawn rows) (hl : rows.length ≤ 200) (m : Int) : ∀ n ∈ emp rows m, n.natAbs < 10 ^ 9 := by
  intro n hn
  obtain ⟨r, hr, rfl⟩ := emp_mem hn
  have := drawn_page h hr
  omega
theorem kb_emp {f : Addr} {fd : FuncData} (F : Fun K "emptied" "emptied" sEmp f fd) : KBinds K fd ["pages", "moves"] ["moves", "pages"] swap2 swap2 := by
  obtain ⟨⟨oc, od, kV, doc, pm, an, cdv, ct, osl, rfl, look, code⟩, _⟩ := F
  refine ⟨fun s us ws _ hl => ?_, fun {vs us zs ws} r rz => ?_⟩
  · match us, ws, hl with
    | [], [m, p], _ => exact .of_eq rfl
  · cases r with
    | cons _ _ => exact .nil
    | nil =>
      cases rz with
      | nil => exact .nil
      | cons a b =>
        cases b with
        | nil => exact .nil
        | cons c d =>
          cases d with
          | nil => exact .cons c (.cons a .nil)
          | cons _ _ => exact .nil
theorem ok_law {f fE fD fB fR fU : Addr} {fd fdE fdD fdB fdR fdU : FuncData} (F : Fun K "law" "law" sLaw f fd) (FE : Fun K "emptied" "emptied" sEmp fE fdE) (FD : Fun K "_law_draws" "_law_draws" sDraws fD fdD) (FB : Fun K "_law_below" "_law_below" sBelow fB fdB)
    (FR : Fun K "_law_rows" "_law_rows" sRows fR fdR) (FU : Fun K "_law_due" "_law_due" sDue fU fdU)
    (bE : Binds K fdE ["pages", "moves"] []) (bD : Binds K fdD ["_law_script", "_law_k"] []) (bB : Binds K fdB ["_law_draws_here", "_law_many"] []) (bR : Binds K fdR ["_law_draws_here"] []) (bU : Binds K fdU ["_law_rows_here", "_law_most"] [])
    (gE : mg "emptied" = some (.ref fE)) (gD : mg "_law_draws" = some (.ref fD)) (gB : mg "_law_below" = some (.ref fB)) (gR : mg "_law_rows" = some (.ref fR)) (gU : mg "_law_due" = some (.ref fU))
    {tk : Tok} (mC : mg "CELLS" = some (.int 8 tk)) (mS : mg "sum" = none) (mL : mg "len" = none) (mO : mg "sorted" = none) (mT : mg "tuple" = none) (mA : mg "abs" = none) (mI : mg "int" = none) (mR : mg "range" = none) (mX : mg "max" = none) (mN : mg "min" = none) (mD : mg "dict" = none) (mP : mg "repr" = none) :
    FnG P w K mg base CX0 3 f fd ["_law_script"] (spLaw K) := by
  have GE : FnOk P w K mg base CX0 2 fE fdE ["pages", "moves"] (spEmp K) := (ok_emp FE mC mS mL mO mT).mono (by decide)
  have GD : FnOk P w K mg base CX0 2 fD fdD ["_law_script", "_law_k"] (spDraws K) := (ok_draws FD mL mA mI).mono (by decide)
  have GB : FnOk P w K mg base CX0 2 fB fdB ["_law_draws_here", "_law_many"] spBelow := (ok_below FB).mono (by decide)
  have GR : FnOk P w K mg base CX0 2 fR fdR ["_law_draws_here"] (spRows K) := ok_rows FR FB bB gB mR mT
  have GU : FnOk P w K mg base CX0 2 fU fdU ["_law_rows_here", "_law_most"] (spDue K) := (ok_due FU mS mL mO mT).mono (by decide)
  refine fng0_of F scLaw (fun vs H Q E h => ?_) (fun cdv A outer s H vs Q E hr gd h => ?_)
  · obtain ⟨a, ns, rfl, _⟩ := h
    rfl
  · obtain ⟨a, ns, rfl, hS, hlen, q⟩ := h
    refine ⟨_, pss_cons (ps_for PassesOwn.never rfl (pi_range1 (by rfl) mR (pa_cons (pe_callB (call_max2 rfl) (by rfl) mX boot_max (pa_cons pe_int (pa_cons (pe_callB (call_min2 rfl) (by rfl) mN boot_min (pa_cons pe_int (pa_cons (pe_callB call_len_seq (by rfl) mL PySem.boot_len (pa_cons (pv 0) pa_nil)) pa_nil))) pa_nil))) pa_nil)) (pg_name (i := 1) scLaw.nd rfl (.inl rfl))
        (pss_cons (ps_set (i := 2) scLaw.nd rfl (.inl rfl) (pe_call GD hr (by rfl) gD FD.kp bD .nil pass0 (pa_cons (pv 0) (pa_cons (pv 1) pa_nil))))
        (pss_one (ps_for PassesOwn.never rfl (pi_range1 (by rfl) mR (pa_cons pe_int pa_nil)) (pg_name (i := 3) scLaw.nd rfl (.inl rfl))
          (pss_cons (ps_set (i := 4) scLaw.nd rfl (.inl rfl) (pe_call GR hr (by rfl) gR FR.kp bR .nil pass0 (pa_cons (pv 2) pa_nil)))
          (pss_cons (ps_set (i := 5) scLaw.nd rfl (.inr rfl) (pe_callTy (call_dictP rfl) (by rfl) mD boot_dict (pa_cons
            (pe_lc (own := [("_law_page", 9), ("_law_many", 10), ("_law_is_pinned", 11)]) (g := g3 K 9 10 11) (tt := tYes) (te := tTup (tCons (tVar 9) (tCons (tVar 10) tNil))) rfl scLaw.nd (pi_tup (pv 4)) (blkOk_by (N := nLaw) (sc := defScope sLaw) (by decide +kernel))
              (fun _ _ _ _ _ => pg_tup rfl (pgs_cons (pg_name (i := 9) scLaw.nd rfl (.inl rfl)) (pgs_cons (pg_name (i := 10) scLaw.nd rfl (.inl rfl)) (pgs_cons (pg_name (i := 11) scLaw.nd rfl (.inl rfl)) pgs_nil))))
              (fun _ _ _ _ _ => pts_nil) (fun _ _ _ _ _ => pe_tup (pa_cons (pv 9) (pa_cons (pv 10) pa_nil)))) pa_nil)))
          (pss_one (ps_for PassesOwn.never rfl (pi_tup (pe_tup (pa_cons pe_int (pa_cons pe_int (pa_cons pe_int (pa_cons (pe_call GB hr (by rfl) gB FB.kp bB .nil pass0 (pa_cons (pv 2) (pa_cons pe_int pa_nil))) (pa_cons (pe_call GB hr (by rfl) gB FB.kp bB .nil pass0 (pa_cons (pv 2) (pa_cons pe_int pa_nil))) pa_nil))))))) (pg_name (i := 6) scLaw.nd rfl (.inl rfl))
            (pss_cons (ps_set (i := 7) scLaw.nd rfl (.inl rfl) (pe_call GE hr (by rfl) gE FE.kp bE .nil pass0 (pa_cons (pv 4) (pa_cons (pv 6) pa_nil))))
            (pss_cons (ps_if (pw_or (pt_cmpR op_ne (pe_callB (call_reprD gd hr.units) (by rfl) mP boot_repr (pa_cons (pv 7) pa_nil)) (pe_callB (call_reprD gd hr.units) (by rfl) mP boot_repr (pa_cons (pe_call GU hr (by rfl) gU FU.kp bU .nil pass0 (pa_cons (pv 4) (pa_cons (pv 6) pa_nil))) pa_nil)) (nomark _))
                (pw_or1 (pt_cmpR (op_neD hr.units) (pe_kwOnly GE hr (by rfl) gE FE.kp (kb_emp FE) pass0 (pk_cons (pv 6) (pk_cons (pv 4) pk_nil))) (pv 7) (nomark _)))).pt (pss_one (ps_ret pe_bl)) pss_nil)
            (pss_cons (ps_set (i := 8) scLaw.nd rfl (.inl rfl) (pe_callB (cr_sum rfl) (by rfl) mS boot_sum (pa_cons
              (pe_lc (own := [("_law_page", 9)]) (g := gName 9) (tt := tYes) (te := tDGet (tVar 5) (tVar 9)) rfl scLaw.nd (pi_tup (pv 7)) (blkOk_by (N := nLaw) (sc := defScope sLaw) (by decide +kernel)) (fun _ _ _ _ _ => pg_name (i := 9) scLaw.nd rfl (.inl rfl)) (fun _ _ _ _ _ => pts_nil)
                (fun _ _ _ _ _ => pe_dget (hu_of hr) (pv 5) (pv 9) (fun _ _ => rfl))) pa_nil)))
            (pss_cons (ps_if (pw_or (pt_cmpR op_gt (pv 8) (pv 6) (nomark _)) (pw_or1 (pt_cmpR (op_neD hr.units) (pe_call GE hr (by rfl) gE FE.kp bE .nil pass0 (pa_cons (pv 4) (pa_cons (pv 8) pa_nil))) (pv 7) (nomark _)))).pt (pss_one (ps_ret pe_bl)) pss_nil)
            (pss_one (ps_if (pw_and (pt_cmpR op_gt (pv 8) pe_int (nomark _)) (pw_and1 (pt_cmpR op_ne (pe_callB call_len_seq (by rfl) mL PySem.boot_len (pa_cons (pe_call GE hr (by rfl) gE FE.kp bE .nil pass0 (pa_cons (pv 4) (pa_cons (pe_op op_sub (pv 8) pe_int) pa_nil))) pa_nil))
                (pe_op op_sub (pe_callB call_len_seq (by rfl) mL PySem.boot_len (pa_cons (pv 7) pa_nil)) pe_int) (nomark _)))).pt (pss_one (ps_ret pe_bl)) pss_nil))))))))))))))
      (pss_one (ps_ret pe_bl)), ?_⟩
    refine ⟨.ref a, rfl, a, _, rfl, .inl hS, 3, _, rfl, 1, _, rfl, _, rfl, ?_, ?_, ?_⟩
    · split <;> (try split) <;> omega
    · split <;> (try split) <;> omega
    have hn : (if (if ((ns.map V.int).length : Int) < 3 then ((ns.map V.int).length : Int) else 3) > 1 then (if ((ns.map V.int).length : Int) < 3 then ((ns.map V.int).length : Int) else 3) else 1).toNat ≤ 3 := by
      split <;> (try split) <;> omega
    refine for_range (lo := 0) (fun i σ' H' => ∃ y1 y2 y3 y4 y5 y6 y7 y8, σ' = [some (.ref a), y1, y2, y3, y4, y5, y6, y7, y8, none, none, none] ∧ Ex H H') ⟨none, none, none, none, none, none, none, none, rfl, Ex.refl H⟩ ?_ ?_
    · rintro i σ' H1 hi ⟨y1, y2, y3, y4, y5, y6, y7, y8, rfl, e1⟩
      dsimp only [gName]
      refine st_seq ?_
      refine ⟨.ref a, rfl, .int (0 + (i : Int)), rfl, a, ns, 0 + (i : Int), rfl, ex_l e1 hS, hlen, by omega, by omega, fun H2 d e2 hd pot => ?_⟩
      have hdN : H d = none := fresh_back e1 hd
      dsimp only [gName]
      refine ⟨4, rfl, by decide, by decide, ?_⟩
      refine for_range (lo := 0) (n := 4) (fun t σ' H' => ∃ y3 y4 y5 y6 y7 y8, σ' = [some (.ref a), some (.int (0 + (i : Int))), some (.ref d), y3, y4, y5, y6, y7, y8, none, none, none] ∧ Ex H H' ∧ Pot H' d (1100 * (t : Int))) ⟨y3, y4, y5, y6, y7, y8, rfl, e1.trans e2, pot.up (by omega)⟩ ?_ ?_
      · rintro t σ' H3 ht ⟨y3, y4, y5, y6, y7, y8, rfl, e3, pot3⟩
        have ht2 : (t : Int) < 4 := by omega
        dsimp only [gName]
        refine st_seq ?_
        refine ⟨.ref d, rfl, d, _, rfl, pot3, by omega, fun H4 ar rs off4 pot4 hR hl hD => ?_⟩
        have off3 := pot3
        have e4 : Ex H H4 := (Off.of e3).trans off4 |>.ex hdN
        dsimp only [gName]
        -- objects
        refine st_seq (el_dict (i := 9) (j := 10) (k := 11) (ev_var rfl) hR (by omega) (fun _ _ _ => rfl) (fun _ _ _ => rfl) (fun _ _ _ => rfl) H4 (Ex.refl H4) _ fun od H5 hod e5 h5 => ?_)
        dsimp only [gName]
        -- the five numbers of moves
        have pot5 := pot4.ex e5
        refine rd_below (ev_var rfl) ev_c pot5 (by omega) (by decide) (by decide) fun H6 r6 off6 pot6 r60 r61 => ?_
        refine rd_below (ev_var rfl) ev_c pot6 (by omega) (by decide) (by decide) fun H7 r7 off7 pot7 r70 r71 => ?_
        have h7 : H7 od = some (.dK (mergeK [] (kvOf (rs.map (·.2))))) := by
          have ne : od ≠ d := fun e => by
            obtain ⟨g, b, m, h0, _⟩ := pot5
            rw [e, h0] at h5
            cases h5
          exact off7 _ _ ne (off6 _ _ ne h5)
        have hR7 : RowsAt K H7 ar rs := (hR.ex e5).off pot5 (off6.trans off7)
        have e7 : Ex H H7 := ((Off.of (e4.trans e5)).trans (off6.trans off7)).ex hdN
        clear hod h5 hR
        refine ⟨by show 5 ≤ sizeLine; decide, fun tp htp => ?_⟩
        have et : Ex H7 (upd H7 tp (.tup [V.int 0, .int 8, .int 1600, .int r6, .int r7])) := Ex.new htp
        have hT : (upd H7 tp (.tup [V.int 0, .int 8, .int 1600, .int r6, .int r7])) tp = some (.tup [V.int 0, .int 8, .int 1600, .int r6, .int r7]) := upd_same
        have pot8 := pot7.ex et
        have h8 := et _ _ h7
        have hR8 := hR7.ex et
        have e8 := e7.trans et
        generalize upd H7 tp (.tup [V.int 0, .int 8, .int 1600, .int r6, .int r7]) = H8 at hT pot8 h8 hR8 e8 ⊢
        refine ⟨tp, rfl, ⟨_, st_of hT⟩, ?_⟩
        refine for_tup (xs := [V.int 0, .int 8, .int 1600, .int r6, .int r7]) (fun j σ' H' => ∃ y6 y7 y8, σ' = [some (.ref a), some (.int (0 + (i : Int))), some (.ref d), some (.int (0 + (t : Int))), some (.ref ar), some (.ref od), y6, y7, y8, none, none, none] ∧ Ex H8 H') ⟨_, _, _, rfl, Ex.refl H8⟩ ?_ ?_ ?_
        · rintro j σ' H' _ ⟨_, _, _, _, e9⟩
          exact ex_t e9 (st_of hT)
        · rintro j x σ' H9 hx ⟨y6, y7, y8, rfl, e9⟩
          obtain ⟨m, rfl, m0, m1⟩ : ∃ m, x = V.int m ∧ 0 ≤ m ∧ m ≤ 1600 := by
            match j, hx with
            | 0, hx => exact ⟨0, (Option.some.inj hx).symm, by decide, by decide⟩
            | 1, hx => exact ⟨8, (Option.some.inj hx).symm, by decide, by decide⟩
            | 2, hx => exact ⟨1600, (Option.some.inj hx).symm, by decide, by decide⟩
            | 3, hx => exact ⟨r6, (Option.some.inj hx).symm, r60, by omega⟩
            | 4, hx => exact ⟨r7, (Option.some.inj hx).symm, r70, by omega⟩
          dsimp only [gName]
          have hR9 := hR8.ex e9
          have hl2 : (rs.map (·.2)).length ≤ 200 := by rw [List.length_map]; exact hl
          have hB : ∀ r ∈ rs.map (·.2), 1 ≤ r.2.1 ∧ r.2.1 ≤ 8 := hD.2
          -- told
          refine st_seq ?_
          refine ⟨.ref ar, rfl, .int m, rfl, ar, rs, m, rfl, hR9, by omega, fun H10 tq e10 hq h10 => ?_⟩
          dsimp only [gName]
          have facts := tupI_facts (emp_small hD hl2 m) (Nat.le_trans (emp_len _ _) (by omega))
          -- if repr(told) != repr(due) or emptied(moves, pages) != told
          refine st_seq ?_
          refine ⟨.ref tq, rfl, .ref tq, _, rfl, dp_tupI (st_of h10), facts.1, facts.2.1, facts.2.2.1, facts.2.2.2, ?_⟩
          refine ⟨.ref ar, rfl, .int m, rfl, ar, rs, m, rfl, hR9.ex e10, by omega, hB, fun H11 tu e11 hu h11 => ?_⟩
          refine ⟨.ref tu, _, rfl, dp_tupI (st_of h11), facts.1, facts.2.1, facts.2.2.1, facts.2.2.2, ?_⟩
          refine ⟨rfl, _, rfl, ?_⟩
          dsimp only
          rw [decide_eq_true rfl]
          rw [if_neg (show ¬ (!true) = true from Bool.false_ne_true)]
          have e911 := e10.trans e11
          refine ⟨.int m, rfl, .ref ar, rfl, ar, rs, m, rfl, hR9.ex e911, by omega, fun H12 t2 e12 ht2' h12 => ?_⟩
          refine ⟨.ref tq, rfl, _, _, dp_tupI (st_of h12), dp_tupI (st_of ((e11.trans e12) _ _ h10)), tupI_shaped _, tupI_shaped _, _, rfl, ?_⟩
          dsimp only
          rw [tupI_eqv, if_neg (show ¬ (!true) = true from Bool.false_ne_true)]
          dsimp only [tNext]
          have e912 := e911.trans e12
          have h12q := (e11.trans e12) _ _ h10
          -- paid
          let f : Int → Int := fun x => match valV (mergeK [] (kvOf (rs.map (·.2)))) (Sum.inl x) with | some (.int v) => v | _ => 0
          have hf : ∀ r ∈ rs.map (·.2), f r.1 = r.2.1 := fun r hr => by
            show (match valV (mergeK [] (kvOf (rs.map (·.2)))) (Sum.inl r.1) with | some (.int v) => v | _ => 0) = r.2.1
            rw [look_kv (drawn_nodup hD) hr]
          refine st_seq (s_asg (i := 8) (v := .int ((emp (rs.map (·.2)) m).map f).sum) (ev_sumL (el_lcT (xs := (emp (rs.map (·.2)) m).map V.int) (ev_var rfl) (st_of h12q) (by simp) (by rw [List.length_map]; have := emp_len (rs.map (·.2)) m; omega) (fun _ => rfl) fun j2 x y hx2 hy2 Ha ea => ?_)) fun H13 e13 => ?_)
          · rw [List.getElem?_map] at hx2 hy2
            rw [List.getElem?_map] at hy2
            cases hg : (emp (rs.map (·.2)) m)[j2]? with
            | none => rw [hg] at hx2; cases hx2
            | some v =>
              rw [hg] at hx2 hy2
              have ex : x = .int v := (Option.some.inj hx2).symm
              have ey : y = .int (f v) := (Option.some.inj hy2).symm
              subst ex
              subst ey
              obtain ⟨r, hr, rfl⟩ := emp_mem (List.mem_of_getElem? hg)
              have hlk := look_kv (drawn_nodup hD) hr
              rw [hf r hr]
              exact ev_dget (k := Sum.inl r.1) (ev_var rfl) (ev_var rfl) ((e9.trans (e912.trans ea)) _ _ h8) hlk
          rw [paid_by hf]
          have hpos := loads_pos hB
          have hle := taken_le (B := bound (rs.map (·.2))) (loads (rs.map (·.2))) m 0 m0
          have hpaid := taken_paid (B := bound (rs.map (·.2))) (loads (rs.map (·.2))) m 0 hpos
          have hless := taken_less (B := bound (rs.map (·.2))) (loads (rs.map (·.2))) m 0 hpos
          have same : emp (rs.map (·.2)) (paid (taken (bound (rs.map (·.2))) m 0 (loads (rs.map (·.2))))) = emp (rs.map (·.2)) m := by
            show pages (taken _ _ 0 _) = pages (taken _ _ 0 _)
            rw [hpaid]
          have elen : ∀ k, (emp (rs.map (·.2)) k).length = (taken (bound (rs.map (·.2))) k 0 (loads (rs.map (·.2)))).length := fun k => by
            show (pages _).length = _
            unfold pages
            rw [(List.mergeSort_perm _ _).length_eq, List.length_map]
          have hS1 := elen (paid (taken (bound (rs.map (·.2))) m 0 (loads (rs.map (·.2)))) - 1)
          have hS2 := elen m
          generalize paid (taken (bound (rs.map (·.2))) m 0 (loads (rs.map (·.2)))) = S at hle hpaid hless same hS1 ⊢
          dsimp only
          have e913 := e912.trans e13
          have h13q := e13 _ _ h12q
          -- if paid > most or emptied(rows, paid) != told
          refine st_seq ?_
          refine ⟨.int S, rfl, .int m, rfl, S, m, rfl, rfl, _, rfl, ?_⟩
          dsimp only
          rw [decide_eq_false (show ¬ m < S by omega), if_neg Bool.false_ne_true]
          refine ⟨.ref ar, rfl, .int S, rfl, ar, rs, S, rfl, hR9.ex e913, by omega, fun H14 t3 e14 ht3 h14 => ?_⟩
          rw [same] at h14
          refine ⟨.ref tq, rfl, _, _, dp_tupI (st_of h14), dp_tupI (st_of (e14 _ _ h13q)), tupI_shaped _, tupI_shaped _, _, rfl, ?_⟩
          dsimp only
          rw [tupI_eqv, if_neg (show ¬ (!true) = true from Bool.false_ne_true)]
          dsimp only [tNext]
          have e914 := e913.trans e14
          -- if paid > 0 and len(emptied(rows, paid - 1)) != len(told) - 1
          refine ⟨.int S, rfl, S, 0, rfl, rfl, _, rfl, ?_⟩
          dsimp only
          by_cases hS : 0 < S
          · rw [decide_eq_true hS, if_pos rfl]
            refine ⟨.ref ar, rfl, .int S, rfl, S, 1, rfl, rfl, ar, rs, S - 1, rfl, hR9.ex e914, by omega, fun H15 t4 e15 ht4 h15 => ?_⟩
            refine ⟨t4, _, rfl, .inr (st_of h15), ?_⟩
            refine ⟨.ref tq, rfl, tq, _, rfl, .inr (st_of ((e14.trans e15) _ _ h13q)), _, _, rfl, rfl, rfl, _, rfl, ?_⟩
            have hl3 := hless hS
            dsimp only
            rw [decide_eq_true (show V.int (((emp (rs.map (·.2)) (S - 1)).map V.int).length : Int) = V.int ((((emp (rs.map (·.2)) m).map V.int).length : Int) - 1) by
              rw [List.length_map, List.length_map, hS1, hS2]
              congr 1
              omega)]
            rw [if_neg (show ¬ (!true) = true from Bool.false_ne_true)]
            exact ⟨_, _, _, rfl, e9.trans (e914.trans e15)⟩
          · rw [decide_eq_false hS, if_neg Bool.false_ne_true, if_neg Bool.false_ne_true]
            exact ⟨_, _, _, rfl, e9.trans e914⟩
        · rintro σ' H' ⟨y6, y7, y8, rfl, e9⟩
          exact ⟨_, _, _, _, _, _, rfl, e8.trans e9, (pot8.ex e9).up (by push_cast; omega)⟩
      · rintro σ' H' ⟨y3, y4, y5, y6, y7, y8, rfl, e3, _⟩
        exact ⟨_, _, _, _, _, _, _, _, rfl, e3⟩
    · rintro σ' H' _
      exact q H'
end
end Pg
namespace Pg
open PySem PySem.Spec PyProof.Rows L2 Evl Gd
/-- a def of the top, as the head finds it -/
structure At (K : PySem.W.Frag) (x : Str) (st : Stmt) (f : Addr) : Prop where
  nm : PySem.W.nsIn K mainGlobals x = some (some (.ref f))
  ex : ∃ (oc kV doc pm cdv ct : Value) (od an : Option Addr) (sl : Array (Option Value)), K.lookup f = some ⟨oc, od, .func (PySem.W.fnOf x x (defArgs st) (defBody st) (defScope st) .none kV doc pm an cdv ct), sl⟩ ∧ PySem.W.codeIn K cdv x = true
  kp : PySem.W.keepIn K (.ref f) = true
theorem At.of {K : PySem.W.Frag} {x : Str} {st : Stmt} {f : Addr} {oc kV doc pm cdv ct : Value} {od an : Option Addr} {sl : Array (Option Value)} (n : PySem.W.nsIn K mainGlobals x = some (some (.ref f))) (l : K.lookup f = some ⟨oc, od, .func (PySem.W.fnOf x x (defArgs st) (defBody st) (defScope st) .none kV doc pm an cdv ct), sl⟩)
    (c : PySem.W.codeIn K cdv x = true) (k : PySem.W.keepIn K (.ref f) = true) : At K x st f := ⟨n, ⟨oc, kV, doc, pm, cdv, ct, od, an, sl, l, c⟩, k⟩
theorem At.fn {K : PySem.W.Frag} {x : Str} {st : Stmt} {f : Addr} (a : At K x st f) : ∃ fd, Fun K x x st f fd := by
  obtain ⟨oc, kV, doc, pm, cdv, ct, od, an, sl, l, c⟩ := a.ex
  exact ⟨_, fun_mk l c a.kp⟩
theorem top_ok {l : PySem.W.OpenLaw} {w : World} {K : PySem.W.Frag} {h : Heap} {mg : Str → Option Value} {fa f fE fD fB fR fU : Addr} (X : K.In h) (G : h.Ns mainGlobals mg) (hfa : mg "law" = some (.ref fa))
    (aL : At K "law" sLaw f) (aE : At K "emptied" sEmp fE) (aD : At K "_law_draws" sDraws fD) (aB : At K "_law_below" sBelow fB) (aR : At K "_law_rows" sRows fR) (aU : At K "_law_due" sDue fU)
    {tk : Tok} (c : PySem.W.nsIn K mainGlobals "CELLS" = some (some (.int 8 tk))) (z1 : PySem.W.nsIn K mainGlobals "sum" = some none) (z2 : PySem.W.nsIn K mainGlobals "len" = some none) (z3 : PySem.W.nsIn K mainGlobals "sorted" = some none)
    (z4 : PySem.W.nsIn K mainGlobals "tuple" = some none) (z5 : PySem.W.nsIn K mainGlobals "abs" = some none) (z6 : PySem.W.nsIn K mainGlobals "int" = some none) (z7 : PySem.W.nsIn K mainGlobals "range" = some none) (z8 : PySem.W.nsIn K mainGlobals "max" = some none)
    (z9 : PySem.W.nsIn K mainGlobals "min" = some none) (z10 : PySem.W.nsIn K mainGlobals "dict" = some none) (z11 : PySem.W.nsIn K mainGlobals "repr" = some none) :
    ∃ fd : FuncData, (∀ (s : Shared) (v : Value), BindsTo s fd ⟨[v], []⟩ [("_law_script", v)]) ∧ ∀ base : Heap, K.In base → base.Ns mainGlobals mg → FnG l.prog w K mg base CX0 3 fa fd ["_law_script"] (spLaw K) := by
  have e := hfa.symm.trans (PySem.W.mg_of X G aL.nm)
  cases e
  obtain ⟨fd, F⟩ := aL.fn
  obtain ⟨fdE, FE⟩ := aE.fn
  obtain ⟨fdD, FD⟩ := aD.fn
  obtain ⟨fdB, FB⟩ := aB.fn
  obtain ⟨fdR, FR⟩ := aR.fn
  obtain ⟨fdU, FU⟩ := aU.fn
  have bE := FE.binds (ps := ["pages", "moves"]) fun _ _ _ _ _ _ us hl => match us, hl with | [_, _], _ => rfl
  have bD := FD.binds (ps := ["_law_script", "_law_k"]) fun _ _ _ _ _ _ us hl => match us, hl with | [_, _], _ => rfl
  have bB := FB.binds (ps := ["_law_draws_here", "_law_many"]) fun _ _ _ _ _ _ us hl => match us, hl with | [_, _], _ => rfl
  have bR := FR.binds (ps := ["_law_draws_here"]) fun _ _ _ _ _ _ us hl => match us, hl with | [_], _ => rfl
  have bU := FU.binds (ps := ["_law_rows_here", "_law_most"]) fun _ _ _ _ _ _ us hl => match us, hl with | [_, _], _ => rfl
  refine ⟨fd, fun s v => ?_, fun base _ _ => ok_law F FE FD FB FR FU bE bD bB bR bU (PySem.W.mg_of X G aE.nm) (PySem.W.mg_of X G aD.nm) (PySem.W.mg_of X G aB.nm) (PySem.W.mg_of X G aR.nm) (PySem.W.mg_of X G aU.nm)
    (PySem.W.mg_of X G c) (PySem.W.mg_none_of X G z1) (PySem.W.mg_none_of X G z2) (PySem.W.mg_none_of X G z3) (PySem.W.mg_none_of X G z4) (PySem.W.mg_none_of X G z5) (PySem.W.mg_none_of X G z6) (PySem.W.mg_none_of X G z7) (PySem.W.mg_none_of X G z8) (PySem.W.mg_none_of X G z9) (PySem.W.mg_none_of X G z10) (PySem.W.mg_none_of X G z11)⟩
  obtain ⟨oc, od, kV, doc, pm, an, cdv, ct, osl, rfl, _⟩ := F.ex
  exact .of_eq rfl
end Pg
open PySem PySem.W PyProof.Rows
set_option maxHeartbeats 0 in
theorem PySem.Challenge.cw_crossheaps_k30_many_pages_emptied_holds : PySem.Challenge.rw_crossheaps_k30_many_pages_emptied.Holds := by
  w_on; o_law; k_head; (case hw => w_witness2)
  k_fill
  refine Gd.walkG (l := PySem.Challenge.rw_crossheaps_k30_many_pages_emptied) (n := 63) (k := 3) (x := "_law_script") (CX := fun _ => L2.CX0) (sp := fun w => Pg.spLaw _) rfl (by decide) rfl ⟨rfl, by decide, by decide⟩ (fun w h Y => PySem.W.kIn_of Y) ?F (fun _ _ a ns hl _ hS => ⟨a, ns, rfl, hS, hl, fun _ => rfl⟩) (fun _ _ _ _ _ h => h)
  case F =>
    intro w mg fa h KX G hmg
    refine' Pg.top_ok KX G hmg (.of ?n1 ?l1 ?c1 ?k1) (.of ?n2 ?l2 ?c2 ?k2) (.of ?n3 ?l3 ?c3 ?k3) (.of ?n4 ?l4 ?c4 ?k4) (.of ?n5 ?l5 ?c5 ?k5) (.of ?n6 ?l6 ?c6 ?k6) ?c ?z1 ?z2 ?z3 ?z4 ?z5 ?z6 ?z7 ?z8 ?z9 ?z10 ?z11
    (case n1 => k_is); (case l1 => k_is); (case c1 => k_is); (case k1 => k_is)
    (case n2 => k_is); (case l2 => k_is); (case c2 => k_is); (case k2 => k_is)
    (case n3 => k_is); (case l3 => k_is); (case c3 => k_is); (case k3 => k_is)
    (case n4 => k_is); (case l4 => k_is); (case c4 => k_is); (case k4 => k_is)
    (case n5 => k_is); (case l5 => k_is); (case c5 => k_is); (case k5 => k_is)
    (case n6 => k_is); (case l6 => k_is); (case c6 => k_is); (case k6 => k_is)
    (case c => k_is); (case z1 => k_is); (case z2 => k_is); (case z3 => k_is); (case z4 => k_is); (case z5 => k_is); (case z6 => k_is); (case z7 => k_is); (case z8 => k_is); (case z9 => k_is); (case z10 => k_is); (case z11 => k_is)
