import PyProof.Rows.All
import Wide.All
import OpenK.AllK
import Wide.FinOn
import PySem.Challenge.RW_crossheaps_k29_pages_emptied_by_all_sets
import HandS.ForMost
import HandS.Evl
import HandS.SortRule
import HandS.SortInts
import HandS.Conv
import HandS.Wide
import HandS.Steps
import KE.DataMinMax
import HandS.FStrTup
import KE.DatumOrd
set_option Elab.async false
set_option linter.all false
set_option maxRecDepth 100000
set_option maxHeartbeats 8000000
/-! Promises of defs that run where no repr is under way, the law's end for such a promise, repr of data. -/
namespace Gd
open PySem PySem.Spec PyProof.Rows L2
/-- a promise that is kept wherever no repr is under way -/
structure FnG (P : Program) (w : World) (K : PySem.W.Frag) (mg : Str → Option Value) (base : Heap) (CX : CXT) (k : Nat) (f : Addr) (fd : FuncData) (ps : List Str) (sp : Sp) : Prop where
  arity : ∀ vs H Q E, sp vs H Q E → vs.length = ps.length
  go : ∀ A, Room k A → A.guards = some [] → ∀ outer s H args us vs Q E, Env0 P w K mg base A outer s H →
    BindsTo s fd args (ps.zip us) → Vals vs us → sp vs H Q E →
      codeAny (model P w) A (.call (.ref f) args) (CR CX outer P w H s Q E) s
section
variable {P : Program} {w : World} {K : PySem.W.Frag} {mg : Str → Option Value} {base : Heap} {CX : CXT} {k : Nat} {f : Addr} {fd : FuncData} {ps : List Str} {sp : Sp}
theorem FnG.of (F : FnOk P w K mg base CX k f fd ps sp) : FnG P w K mg base CX k f fd ps sp :=
  ⟨F.len, fun A r _ outer s H args us vs Q E e b v p => F.run A outer s H args us vs Q E r e b v p⟩
theorem FnG.up {j : Nat} (F : FnG P w K mg base CX j f fd ps sp) (h : j ≤ k) : FnG P w K mg base CX k f fd ps sp :=
  ⟨F.arity, fun A r g => F.go A (r.mono h) g⟩
/-- from the body, which may know that no repr is under way -/
theorem fng_of {x qual : Str} {st : Stmt} {N : List Str} (F : Fun K x qual st f fd) (S : FnScope N ps (defScope st)) (ar : ∀ vs H Q E, sp vs H Q E → vs.length = ps.length)
    (body : ∀ (cdv : Value) (A : Around) (outer : List Env) (s : Shared) (H : Hp) (vs : List V) (Q : VK) (E : XK), Room k (A.deeper (envOfC qual (defScope st) s.heap.objs.size f cdv)) → A.guards = some [] → sp vs H Q E →
      ∃ t, PSs (cxOf CX P w K mg base N qual (defScope st) f cdv A outer s H E) (defBody st) t ∧ t { nx := fun _ H' => Q .non H', rt := Q } (start N vs) H) :
    FnG P w K mg base CX (k + 1) f fd ps sp := by
  obtain ⟨⟨oc, od, kV, doc, pm, an, cdv, ct, osl, rfl, look, code⟩, _⟩ := F
  refine ⟨ar, fun A room gd outer s H args us vs Q E env bind rel want => ?_⟩
  have inK : K.In s.heap := env.mod.kin.keeps (fun b o h => (env.bs b o h).1)
  have free : s.heap.NoLimit := env.mod.nolimit.keeps (fun b o h => (env.bs b o h).1)
  have hv := ar vs H Q E want
  refine Att.call_fn inK free look code room.depth bind ?_ (fun s1 inside => ?_) S.co S.gen S.kind
  · refine List.all_eq_true.mpr fun y hy => ?_
    have hp := S.par y.1 (List.of_mem_zip (show (y.1, y.2) ∈ ps.zip us from hy)).1
    rcases hp with q | q
    · rw [q]; rfl
    · rw [q]; rfl
  · obtain ⟨t, derive, reads⟩ := body cdv A outer s H vs Q E (room.deeper _) gd want
    have inv := inv_start (CX := CX) (E := E) S room.hd env hv rel inside
    refine wpAny_mono (derive.run [] s1 (start N vs) H _ inv reads) ?_ (fun _ _ left => left)
    intro flow s2 post
    cases flow with
    | brk => exact (post.choose_spec.choose_spec).2.elim
    | cont => exact (post.choose_spec.choose_spec).2.elim
    | next =>
      obtain ⟨_, H2, J, q⟩ := post
      exact ⟨.non, H2, J.os, J.bare, J.base, J.hok, rfl, q⟩
    | ret u =>
      obtain ⟨v, _, H2, J, rv, q⟩ := post
      exact ⟨v, H2, J.os, J.bare, J.base, J.hok, rv, q⟩
end
end Gd
namespace Gd
open PySem PySem.Spec PyProof.Rows L2
section
variable {X : Cx} {CX : CXT} {k : Nat} {f : Addr} {fd : FuncData} {ps : List Str} {sp : Sp} {dvs : List V} {ds : List Value} {E : XK}
/-- the callee runs, as run_fn says it, where no repr is under way -/
theorem runG {pins : List (Addr × Obj)} {σ : L2.St} {H : Hp} {s : Shared} {Q : VK} {us : List Value} {vs : List V} (F : FnG X.prog X.w X.K X.mg X.base CX k f fd ps sp) (room : Room k X.A) (gd : X.A.guards = some [])
    (bind : Binds X.K fd ps ds) (dflt : Vals dvs ds) (pass : Passes CX X E) (I : Inv X pins σ H s) (rel : Vals vs us) (want : sp (vs ++ dvs) H Q E) :
    wpAny (model X.prog X.w) X.A (call (.ref f) us) (EP X pins σ Q) X.xe s := by
  have rel2 := rel.append dflt
  have many : (us ++ ds).length = ps.length := rel2.length.symm.trans (F.arity _ _ _ _ want)
  have ran := F.go X.A room gd X.stack s H ⟨us, []⟩ _ _ Q E I.env0 (bind s us I.kIn many) rel2 want
  refine wpAny_call (codeAny_mono ran ?_)
  intro r s2 post
  rcases r with err | flow
  · exact pass _ _ _ _ _ _ I post
  · cases flow with
    | ret u => exact I.after post
    | next => exact post.elim
    | brk => exact post.elim
    | cont => exact post.elim
theorem pe_callG {x : Str} {p pos : Pos} {e : Expr} {es : List Expr} {t : TA} (F : FnG X.prog X.w X.K X.mg X.base CX k f fd ps sp) (room : Room k X.A) (gd : X.A.guards = some []) (isGl : Gl X x) (at_ : X.mg x = some (.ref f))
    (kept : PySem.W.keepIn X.K (.ref f) = true) (bind : Binds X.K fd ps ds) (dflt : Vals dvs ds) (pass : Passes CX X E)
    (args : PA X (e :: es) t) (nodbg : (x == ("__debug__" : Str)) = false := by decide) (star : starEach (e :: es) X.env = (false, eval e X.env) :: starEach es X.env := by rfl) (plain : (backTo pos (starEach es X.env)).any (·.1) = false := by rfl) :
    PE X (.Call (.Name x p) (e :: es) [] pos) (tCall sp dvs E t) := by
  constructor
  intro pins s σ H Q I want
  refine wpAny_Call_Name_kw (ld_glob I isGl at_ ?_ nodbg)
  refine PySem.W.callWith_K (h₀ := X.base) I.ok.mod.kin kept ?_ star plain
  refine thn (args.run pos pins s σ H _ I want) ?_
  rintro us s1 ⟨vs, H1, I1, rel, q⟩
  exact ⟨I1.kIn, runG F room gd bind dflt pass I1 rel q⟩
end
/-! ### the law's end -/
/-- the script as the only thing that is tracked -/
def scriptAt (a : Addr) (o : Obj) (xs : List V) : Hp := fun b => if b = a then some (.frz o (.lst xs)) else none
theorem scriptAt_same {a : Addr} {o : Obj} {xs : List V} : scriptAt a o xs a = some (.frz o (.lst xs)) := if_pos rfl
theorem scriptAt_some {a b : Addr} {o : Obj} {xs : List V} {u : HO} (h : scriptAt a o xs b = some u) : b = a ∧ u = .frz o (.lst xs) := by
  unfold scriptAt at h
  by_cases e : b = a
  · rw [if_pos e] at h
    exact ⟨e, (Option.some.inj h).symm⟩
  · rw [if_neg e] at h
    cases h
theorem scriptAt_ne {a b : Addr} {o : Obj} {xs : List V} (h : b ≠ a) : scriptAt a o xs b = none := if_neg h
section
variable {P : Program} {w : World} {K : PySem.W.Frag} {mg mb : Str → Option Value} {CX : CXT} {k : Nat} {fa a : Addr} {fd : FuncData} {x : Str} {sp : Sp} {s1 : Shared} {vs : List Value} {ns : List Int}
/-- the law's call, from an abstract heap that tracks at most the script -/
theorem law_from {H : Hp} {o : Obj} (own : ∀ b u, H b = some u → b = a ∧ u = .frz o (.lst (ns.map V.int))) (offK : H a ≠ none → K.lookup a = none)
    (inK : K.In s1.heap) (glob : s1.heap.Ns mainGlobals mg) (blt : s1.heap.Ns builtinsNs mb) (std : ∀ x : Str, x ≠ "__name__" → mb x = bootBuiltins x) (free : s1.heap.NoLimit) (nogen : s1.gens = #[])
    (here : s1.heap.get? a = some { cls := .type "list", data := .seq vs.toArray }) (ho : o = { cls := .type "list", data := .seq vs.toArray }) (ok : HOk P w H s1.heap) (room : Room k callerA)
    (F : ∀ base : Heap, K.In base → base.Ns mainGlobals mg → FnG P w K mg base CX k fa fd [x] sp) (bind : ∀ (s : Shared) (u : Value), BindsTo s fd ⟨[u], []⟩ [(x, u)])
    (want : sp [.ref a] H (fun v _ => v = .bl true) fun _ _ _ => False) (noX : ∀ e s2, CX [] H s1 (fun _ _ _ => False) e s2 → False) :
    codeAny (model P w) callerA (.call (.ref fa) ⟨[.ref a], []⟩) (fun r s2 => r = .ok (.ret (.bool true)) ∧ OldK s1.heap s2.heap ∧ s2.os = s1.os ∧ AllBare s2.gens) s1 := by
  have dicts : ∀ {b : Addr} {m : Str → Option Value}, s1.heap.Ns b m → (hidT s1.heap H).Ns b m := by
    rintro b m ⟨ob, es, ep, gb, isD, r⟩
    refine ⟨ob, es, ep, hidT_get gb ?_, isD, r⟩
    cases hb : H b with
    | none => rfl
    | some u =>
      obtain ⟨rfl, _⟩ := own b u hb
      rw [here] at gb
      have e := Option.some.inj gb
      rw [← e] at isD
      cases isD
  have inB : K.In (hidT s1.heap H) := by
    intro b ob hb
    refine hidT_get (inK b ob hb) ?_
    cases hh : H b with
    | none => rfl
    | some u =>
      obtain ⟨rfl, _⟩ := own b u hh
      rw [offK (by rw [hh]; exact Option.some_ne_none _)] at hb
      cases hb
  have md : Mod K mg (hidT s1.heap H) := ⟨inB, dicts glob, ⟨mb, dicts blt, std⟩, free.imp fun _ h => ⟨dicts h.1, h.2⟩⟩
  have env : Env0 P w K mg (hidT s1.heap H) callerA [] s1 H := by
    refine ⟨rfl, md, fun b ob hb => of_hidT hb, Nat.le_of_eq (hidT_size _ _), trivial, ?_, ok, .of_eq nogen⟩
    intro b hb
    cases hb
  have ran := (F _ inB (dicts glob)).go callerA room rfl [] s1 H ⟨[.ref a], []⟩ [.ref a] [.ref a] _ _ env (bind s1 (.ref a)) (.cons rfl .nil) want
  refine codeAny_mono ran ?_
  intro r s2 post
  rcases r with err | flow
  · exact (noX _ _ post).elim
  · cases flow with
    | next => exact post.elim
    | brk => exact post.elim
    | cont => exact post.elim
    | ret u =>
      obtain ⟨v, H2, eos, eb, ch, ok2, rv, rfl⟩ := post
      have eu : u = Value.bool true := rv
      refine ⟨by rw [eu], OldK.of_keep (fun b ob hb => ?_), eos, eb⟩
      cases hh : H b with
      | none => exact ch.keep b ob hb hh (fun z => nomatch z) (fun z => nomatch z)
      | some u2 =>
        obtain ⟨rfl, rfl⟩ := own b u2 hh
        have a1 := (ok b _ hh).1
        have a2 := (ok2 b _ (ch.frzs b o _ hh)).1
        rw [hb] at a1
        exact a2.trans a1.symm
theorem law_callG (inK : K.In s1.heap) (glob : s1.heap.Ns mainGlobals mg) (blt : s1.heap.Ns builtinsNs mb) (std : ∀ x : Str, x ≠ "__name__" → mb x = bootBuiltins x) (free : s1.heap.NoLimit) (nogen : s1.gens = #[])
    (here : s1.heap.get? a = some { cls := .type "list", data := .seq vs.toArray }) (isI : IntsAre vs ns) (many : ns.length ≤ sizeLine) (room : Room k callerA)
    (F : ∀ base : Heap, K.In base → base.Ns mainGlobals mg → FnG P w K mg base CX k fa fd [x] sp) (bind : ∀ (s : Shared) (u : Value), BindsTo s fd ⟨[u], []⟩ [(x, u)])
    (want : ∀ H : Hp, Only H → SqL K H a (ns.map V.int) → sp [.ref a] H (fun v _ => v = .bl true) fun _ _ _ => False) (noX : ∀ H e s2, CX [] H s1 (fun _ _ _ => False) e s2 → False) :
    codeAny (model P w) callerA (.call (.ref fa) ⟨[.ref a], []⟩) (fun r s2 => r = .ok (.ret (.bool true)) ∧ OldK s1.heap s2.heap ∧ s2.os = s1.os ∧ AllBare s2.gens) s1 := by
  have rel := vals_ints isI
  cases inMod : K.lookup a with
  | some o =>
    have same : o = { cls := .type "list", data := .seq vs.toArray } := Option.some.inj ((inK a o inMod).symm.trans here)
    subst same
    have sq : SqL K (fun _ => none) a (ns.map V.int) := .inr ⟨_, vs.toArray, _, inMod, rfl, rfl, rfl, by rw [List.size_toArray, isI.length]; exact many, by simpa using rel⟩
    refine law_from (H := fun _ => none) (o := { cls := .type "list", data := .seq vs.toArray }) (ns := ns) (fun _ _ h => nomatch h) (fun h => absurd rfl h) inK glob blt std free nogen here rfl (fun _ _ h => nomatch h) room F bind (want _ (fun _ => .inl rfl) sq) (noX _)
  | none =>
    refine law_from (H := scriptAt a { cls := .type "list", data := .seq vs.toArray } (ns.map V.int)) (fun _ _ h => scriptAt_some h) (fun _ => inMod) inK glob blt std free nogen here rfl ?_ room F bind (want _ (fun b => ?_) (.inl (.inr ⟨_, scriptAt_same⟩))) (noX _)
    · intro b u h
      obtain ⟨rfl, rfl⟩ := scriptAt_some h
      exact ⟨here, by rw [List.length_map]; exact many, vs, _, rel, here⟩
    · cases h : scriptAt a { cls := .type "list", data := .seq vs.toArray } (ns.map V.int) b with
      | none => exact .inl rfl
      | some u => exact .inr ⟨_, _, by rw [(scriptAt_some h).2]⟩
end
/-- what k_head leaves, from a promise that is kept where no repr is under way -/
theorem walkG {l : PySem.W.OpenLaw} {n k : Nat} {q : Program} {loose : List Str} {XP : (Str → Option Value) → Heap → Prop} {YP : World → Heap → Prop} {d : DefRec} {K : Params → PySem.W.Frag} {CX : World → CXT} {sp : World → Sp} {x : Str}
    (most : l.most = some n) (small : n ≤ sizeLine) (nodef : d.params.defaults = []) (room : Room k callerA) (kin : ∀ (w : World) (h : Heap), YP w h → (K w.params).In h)
    (F : ∀ (w : World) (mg : Str → Option Value) (fa : Addr) (h : Heap), (K w.params).In h → h.Ns mainGlobals mg → mg d.name = some (.ref fa) →
      ∃ fd : FuncData, (∀ (s : Shared) (u : Value), BindsTo s fd ⟨[u], []⟩ [(x, u)]) ∧ ∀ base : Heap, (K w.params).In base → base.Ns mainGlobals mg → FnG l.prog w (K w.params) mg base (CX w) k fa fd [x] (sp w))
    (want : ∀ (w : World) (H : Hp) (a : Addr) (ns : List Int), ns.length ≤ n → Only H → SqL (K w.params) H a (ns.map V.int) → sp w [.ref a] H (fun v _ => v = .bl true) fun _ _ _ => False)
    (noX : ∀ (w : World) (H : Hp) (s : Shared) (e : Value) (s2 : Shared), CX w [] H s (fun _ _ _ => False) e s2 → False) :
    PySem.W.WalkO q loose XP YP l.row.toRowW d [] (fun f vs => PySem.call f vs) := by
  apply Att.attach_call most nodef
  intro w s0 s1 mg mb fa o pm cd doc a vs ns G Y go isF code named here isI many nogen
  have inK := kin w _ Y
  obtain ⟨fd, bind, hF⟩ := F w mg fa _ inK G.T.g named
  exact law_callG inK G.T.g G.T.b G.T.builtins G.T.nolimit nogen here isI (Nat.le_trans many small) room hF bind (fun H only sq => want w H a ns many only sq) (fun H e s2 => noX w H s1 e s2)
section
variable {X : Cx}
/-- repr of data without dicts -/
def rReprD (K : PySem.W.Frag) : List V → Hp → VK → Prop := fun xs H Q => ∃ x d, xs = [x] ∧ Dp K H x d ∧ d.showable = true ∧ d.hasDict = false ∧ d.depth ≤ 40 ∧ d.shown.length ≤ sizeLine ∧ Q (.str d.shown) H
theorem call_reprD (gd : X.A.guards = some []) (un : X.A.units + 64 < cLine) : CallR X (.builtin "repr") (rReprD X.K) := by
  rintro pins s σ H xs us Q I rel ⟨x, d, rfl, hd, sh, nod, dep, sz, q⟩
  obtain ⟨u, rfl, rv⟩ := vals1 rel
  obtain ⟨as, reads⟩ := Dp.reads I d x u hd rv
  cases hd with
  | non =>
    cases rv
    refine PySem.P.repr_of_none ?_
    exact ⟨.str "None", H, I.tok _, ⟨_, rfl⟩, q⟩
  | bl b =>
    cases rv
    refine PySem.P.repr_of_bool ?_
    exact ⟨.str (if b then "True" else "False"), H, I.tok _, ⟨_, rfl⟩, q⟩
  | int i =>
    obtain ⟨t, rfl⟩ := rv
    refine PySem.P.repr_of_int ?_ ⟨.str _, H, I.tok _, ⟨_, rfl⟩, q⟩
    simpa [PyData.showable] using sh
  | str z =>
    obtain ⟨t, rfl⟩ := rv
    exact PySem.P.repr_of_str ⟨.str _, H, I.tok _, ⟨_, rfl⟩, q⟩ sz
  | lst h1 h2 =>
    cases rv
    exact repr_of_reads' reads sh (PyData.noDict_hsm nod) gd (by omega) (fun _ _ e => e) (fun h2 u2 tk keep => ⟨.str _, H, I.kept keep, ⟨u2, rfl⟩, q⟩) sz
  | tup h1 h2 =>
    cases rv
    exact repr_of_reads' reads sh (PyData.noDict_hsm nod) gd (by omega) (fun _ _ e => e) (fun h2 u2 tk keep => ⟨.str _, H, I.kept keep, ⟨u2, rfl⟩, q⟩) sz
end
end Gd
/-! Greedy emptying of pages, as plain functions over (page, objects, pinned). -/
namespace Pg
abbrev Row := Int × Int × Bool
def leP (x y : Int × Int) : Bool := decide (x.1 < y.1) || (decide (x.1 = y.1) && decide (x.2 ≤ y.2))
def pairsOf (rows : List Row) : List (Int × Int) := (rows.filter fun r => !r.2.2).map fun r => (r.2.1, r.1)
def loads (rows : List Row) : List (Int × Int) := (pairsOf rows).mergeSort leP
def total (rows : List Row) : Int := (rows.map fun r => r.2.1).sum
def bound (rows : List Row) : Int := rows.length - (total rows + 8 - 1) / 8
/-- the first ones, as long as fewer than so many are taken and the moves are enough -/
def taken (B : Int) : Int → Nat → List (Int × Int) → List (Int × Int)
  | _, _, [] => []
  | left, c, p :: r => if (c : Int) = B ∨ left < p.1 then [] else p :: taken B (left - p.1) (c + 1) r
def leI (x y : Int) : Bool := decide (x ≤ y)
def pages (t : List (Int × Int)) : List Int := (t.map (·.2)).mergeSort leI
def emp (rows : List Row) (moves : Int) : List Int := pages (taken (bound rows) moves 0 (loads rows))
def paid (t : List (Int × Int)) : Int := (t.map (·.1)).sum
theorem leP_trans (a b c : Int × Int) (h1 : leP a b = true) (h2 : leP b c = true) : leP a c = true := by
  simp only [leP, Bool.or_eq_true, Bool.and_eq_true, decide_eq_true_eq] at *
  omega
theorem leP_total (a b : Int × Int) : (leP a b || leP b a) = true := by
  simp only [leP, Bool.or_eq_true, Bool.and_eq_true, decide_eq_true_eq]
  omega
theorem leP_anti (a b : Int × Int) (h1 : leP a b = true) (h2 : leP b a = true) : a = b := by
  obtain ⟨a1, a2⟩ := a
  obtain ⟨b1, b2⟩ := b
  simp only [leP, Bool.or_eq_true, Bool.and_eq_true, decide_eq_true_eq] at *
  have h1' : a1 = b1 := by omega
  have h2' : a2 = b2 := by omega
  rw [h1', h2']
theorem loads_perm (rows : List Row) : (loads rows).Perm (pairsOf rows) := List.mergeSort_perm _ _
theorem loads_uniq {rows : List Row} {l : List (Int × Int)} (p : l.Perm (pairsOf rows)) (s : l.Pairwise fun a b => leP a b = true) : l = loads rows :=
  List.Perm.eq_of_pairwise (le := fun a b => leP a b = true) (fun a b _ _ h1 h2 => leP_anti a b h1 h2) s (List.pairwise_mergeSort leP_trans leP_total _) (p.trans (loads_perm rows).symm)
theorem leI_trans (a b c : Int) (h1 : leI a b = true) (h2 : leI b c = true) : leI a c = true := by
  simp only [leI, decide_eq_true_eq] at *
  omega
theorem leI_total (a b : Int) : (leI a b || leI b a) = true := by
  simp only [leI, Bool.or_eq_true, decide_eq_true_eq]
  omega
theorem sort_uniq {xs l : List Int} (p : l.Perm xs) (s : l.Pairwise (· ≤ ·)) : l = xs.mergeSort leI :=
  List.Perm.eq_of_pairwise (le := fun a b => leI a b = true) (fun a b _ _ h1 h2 => by
    simp only [leI, decide_eq_true_eq] at h1 h2
    omega) (s.imp fun h => decide_eq_true h) (List.pairwise_mergeSort leI_trans leI_total _) (p.trans (List.mergeSort_perm _ _).symm)
theorem taken_cons {B left : Int} {c : Nat} {p : Int × Int} {r : List (Int × Int)} : taken B left c (p :: r) = if (c : Int) = B ∨ left < p.1 then [] else p :: taken B (left - p.1) (c + 1) r := rfl
theorem taken_sub {B : Int} : ∀ (l : List (Int × Int)) (left : Int) (c : Nat), (taken B left c l).Sublist l
  | [], _, _ => List.Sublist.refl _
  | p :: r, left, c => by
    rw [taken_cons]
    split
    · exact List.nil_sublist _
    · exact (taken_sub r _ _).cons₂ p
theorem taken_le {B : Int} : ∀ (l : List (Int × Int)) (left : Int) (c : Nat), 0 ≤ left → paid (taken B left c l) ≤ left
  | [], left, c, h => h
  | p :: r, left, c, h => by
    rw [taken_cons]
    split
    · exact h
    · have ih := taken_le (B := B) r (left - p.1) (c + 1) (by omega)
      show p.1 + paid _ ≤ left
      omega
theorem paid_nn : ∀ (l : List (Int × Int)), (∀ p ∈ l, 1 ≤ p.1) → (l.length : Int) ≤ paid l
  | [], _ => by show ((0 : Nat) : Int) ≤ 0; omega
  | p :: r, h => by
    have ih := paid_nn r fun q hq => h q (List.mem_cons_of_mem _ hq)
    have h1 := h p List.mem_cons_self
    show ((r.length + 1 : Nat) : Int) ≤ p.1 + paid r
    omega
theorem taken_pos {B left : Int} {c : Nat} {l : List (Int × Int)} (h : ∀ p ∈ l, 1 ≤ p.1) : ∀ p ∈ taken B left c l, 1 ≤ p.1 := fun p hp => h p ((taken_sub l left c).mem hp)
theorem taken_paid {B : Int} : ∀ (l : List (Int × Int)) (left : Int) (c : Nat), (∀ p ∈ l, 1 ≤ p.1) → taken B (paid (taken B left c l)) c l = taken B left c l
  | [], _, _, _ => rfl
  | p :: r, left, c, h => by
    by_cases q : (c : Int) = B ∨ left < p.1
    · have e : taken B left c (p :: r) = [] := by
        rw [taken_cons]
        rw [if_pos q]
      rw [e]
      have h1 := h p List.mem_cons_self
      rw [taken_cons]
      rw [if_pos (show (c : Int) = B ∨ paid [] < p.1 from .inr (by show (0 : Int) < p.1; omega))]
    · have e : taken B left c (p :: r) = p :: taken B (left - p.1) (c + 1) r := by
        rw [taken_cons]
        rw [if_neg q]
      rw [e]
      have hr := fun q hq => h q (List.mem_cons_of_mem p hq)
      have nn := paid_nn _ (taken_pos (B := B) (left := left - p.1) (c := c + 1) hr)
      have s : paid (p :: taken B (left - p.1) (c + 1) r) = p.1 + paid (taken B (left - p.1) (c + 1) r) := rfl
      rw [s]
      have ih := taken_paid (B := B) r (left - p.1) (c + 1) hr
      rw [taken_cons]
      rw [if_neg (show ¬ ((c : Int) = B ∨ p.1 + paid (taken B (left - p.1) (c + 1) r) < p.1) by omega)]
      rw [show p.1 + paid (taken B (left - p.1) (c + 1) r) - p.1 = paid (taken B (left - p.1) (c + 1) r) by omega, ih]
theorem taken_less {B : Int} : ∀ (l : List (Int × Int)) (left : Int) (c : Nat), (∀ p ∈ l, 1 ≤ p.1) → 0 < paid (taken B left c l) → (taken B (paid (taken B left c l) - 1) c l).length + 1 = (taken B left c l).length
  | [], _, _, _, h => absurd h (by show ¬ (0 : Int) < 0; omega)
  | p :: r, left, c, h, h0 => by
    by_cases q : (c : Int) = B ∨ left < p.1
    · have e : taken B left c (p :: r) = [] := by
        rw [taken_cons]
        rw [if_pos q]
      rw [e] at h0
      exact absurd h0 (by show ¬ (0 : Int) < 0; omega)
    · have e : taken B left c (p :: r) = p :: taken B (left - p.1) (c + 1) r := by
        rw [taken_cons]
        rw [if_neg q]
      rw [e]
      have hr := fun q hq => h q (List.mem_cons_of_mem p hq)
      have hT := taken_pos (B := B) (left := left - p.1) (c := c + 1) hr
      have nn := paid_nn _ hT
      have s : paid (p :: taken B (left - p.1) (c + 1) r) = p.1 + paid (taken B (left - p.1) (c + 1) r) := rfl
      rw [s]
      by_cases z : 0 < paid (taken B (left - p.1) (c + 1) r)
      · have ih := taken_less (B := B) r (left - p.1) (c + 1) hr z
        have e2 : taken B (p.1 + paid (taken B (left - p.1) (c + 1) r) - 1) c (p :: r) = p :: taken B (paid (taken B (left - p.1) (c + 1) r) - 1) (c + 1) r := by
          rw [taken_cons]
          rw [if_neg (show ¬ ((c : Int) = B ∨ p.1 + paid (taken B (left - p.1) (c + 1) r) - 1 < p.1) by omega)]
          rw [show p.1 + paid (taken B (left - p.1) (c + 1) r) - 1 - p.1 = paid (taken B (left - p.1) (c + 1) r) - 1 by omega]
        rw [e2]
        simp only [List.length_cons]
        omega
      · have e2 : taken B (p.1 + paid (taken B (left - p.1) (c + 1) r) - 1) c (p :: r) = [] := by
          rw [taken_cons]
          rw [if_pos (show (c : Int) = B ∨ p.1 + paid (taken B (left - p.1) (c + 1) r) - 1 < p.1 from .inr (by omega))]
        rw [e2]
        simp only [List.length_cons, List.length_nil]
        omega
/-- a turn of the greedy loop -/
theorem taken_at {B left : Int} {c : Nat} {l : List (Int × Int)} {p : Int × Int} (h : l[c]? = some p) : taken B left c (l.drop c) = if (c : Int) = B ∨ left < p.1 then [] else p :: taken B (left - p.1) (c + 1) (l.drop (c + 1)) := by
  have hc : c < l.length := (List.getElem?_eq_some_iff.mp h).1
  have e : l.drop c = p :: l.drop (c + 1) := by
    rw [List.drop_eq_getElem_cons hc]
    have := (List.getElem?_eq_some_iff.mp h).2
    rw [this]
  rw [e, taken_cons]
def room (rows : List Row) : Int := (rows.map fun r => 8 - r.2.1).sum
theorem room_eq : ∀ rows : List Row, room rows = 8 * (rows.length : Int) - total rows
  | [] => by show (0 : Int) = 8 * ((0 : Nat) : Int) - 0; omega
  | r :: rs => by
    have ih := room_eq rs
    have e1 : room (r :: rs) = (8 - r.2.1) + room rs := rfl
    have e2 : total (r :: rs) = r.2.1 + total rs := rfl
    rw [e1, e2, ih, List.length_cons]
    omega
theorem total_le : ∀ rows : List Row, (∀ r ∈ rows, 1 ≤ r.2.1 ∧ r.2.1 ≤ 8) → 0 ≤ total rows ∧ total rows ≤ 8 * (rows.length : Int)
  | [], _ => by constructor <;> (show (_ : Int) ≤ _; simp [total])
  | r :: rs, h => by
    have ih := total_le rs fun q hq => h q (List.mem_cons_of_mem _ hq)
    have h1 := h r List.mem_cons_self
    have e2 : total (r :: rs) = r.2.1 + total rs := rfl
    rw [e2, List.length_cons]
    omega
theorem full_iff {rows : List Row} (h : ∀ r ∈ rows, 1 ≤ r.2.1 ∧ r.2.1 ≤ 8) {c : Nat} (hc : (c : Int) ≤ bound rows) : (c : Int) = bound rows ↔ room rows < 8 * (c : Int) + 8 := by
  have h1 := room_eq rows
  have h2 := total_le rows h
  unfold bound at *
  omega
theorem bound_nn {rows : List Row} (h : ∀ r ∈ rows, 1 ≤ r.2.1 ∧ r.2.1 ≤ 8) : 0 ≤ bound rows := by
  have h2 := total_le rows h
  unfold bound
  omega
theorem loads_pos {rows : List Row} (h : ∀ r ∈ rows, 1 ≤ r.2.1 ∧ r.2.1 ≤ 8) : ∀ p ∈ loads rows, 1 ≤ p.1 := by
  intro p hp
  have hp' := (loads_perm rows).mem_iff.mp hp
  unfold pairsOf at hp'
  obtain ⟨r, hr, rfl⟩ := List.mem_map.mp hp'
  exact (h r (List.mem_filter.mp hr).1).1
theorem emp_len (rows : List Row) (m : Int) : (emp rows m).length ≤ rows.length := by
  unfold emp pages
  rw [(List.mergeSort_perm _ _).length_eq, List.length_map]
  refine Nat.le_trans (taken_sub _ _ _).length_le ?_
  rw [(loads_perm rows).length_eq]
  unfold pairsOf
  rw [List.length_map]
  exact List.length_filter_le _ _
theorem emp_mem {rows : List Row} {m x : Int} (h : x ∈ emp rows m) : ∃ r ∈ rows, r.1 = x := by
  unfold emp pages at h
  have h1 := (List.mergeSort_perm _ _).mem_iff.mp h
  obtain ⟨p, hp, rfl⟩ := List.mem_map.mp h1
  have h2 := (loads_perm rows).mem_iff.mp ((taken_sub _ _ _).mem hp)
  unfold pairsOf at h2
  obtain ⟨r, hr, rfl⟩ := List.mem_map.mp h2
  exact ⟨r, (List.mem_filter.mp hr).1, rfl⟩
theorem perm_sum {l m : List Int} (h : l.Perm m) : l.sum = m.sum := by
  induction h with
  | nil => rfl
  | cons x _ ih => rw [List.sum_cons, List.sum_cons, ih]
  | swap x y l =>
    simp only [List.sum_cons]
    omega
  | trans _ _ a b => rw [a, b]
/-- what the pages hold, summed by the page's objects -/
theorem paid_by {rows : List Row} {m : Int} {f : Int → Int} (h : ∀ r ∈ rows, f r.1 = r.2.1) : ((emp rows m).map f).sum = paid (taken (bound rows) m 0 (loads rows)) := by
  unfold emp pages paid
  rw [perm_sum ((List.mergeSort_perm _ _).map f), List.map_map]
  congr 1
  refine List.map_congr_left fun p hp => ?_
  have h2 := (loads_perm rows).mem_iff.mp ((taken_sub _ _ _).mem hp)
  unfold pairsOf at h2
  obtain ⟨r, hr, rfl⟩ := List.mem_map.mp h2
  exact h r (List.mem_filter.mp hr).1
end Pg
namespace Pg
open PySem PySem.Spec PyProof.Rows L2 Evl Gd
/-- rows as they lie: a tuple of tuples (page, objects, pinned) -/
def RowsAt (K : PySem.W.Frag) (H : Hp) (a : Addr) (rs : List (Addr × Row)) : Prop :=
  SqT K H a (rs.map fun r => V.ref r.1) ∧ ∀ r ∈ rs, SqT K H r.1 [.int r.2.1, .int r.2.2.1, .bl r.2.2.2]
theorem RowsAt.ex {K : PySem.W.Frag} {H H' : Hp} {a : Addr} {rs : List (Addr × Row)} (e : Ex H H') (h : RowsAt K H a rs) : RowsAt K H' a rs :=
  ⟨ex_t e h.1, fun r hr => ex_t e (h.2 r hr)⟩
theorem rows_at {rs : List (Addr × Row)} {i : Nat} {x : V} (h : (rs.map fun r => V.ref r.1)[i]? = some x) : ∃ r, rs[i]? = some r ∧ x = .ref r.1 := by
  rw [List.getElem?_map] at h
  cases e : rs[i]? with
  | none => rw [e] at h; cases h
  | some r =>
    rw [e] at h
    exact ⟨r, rfl, (Option.some.inj h).symm⟩
abbrev g3 (K : PySem.W.Frag) (i j k : Nat) : TG := gTup K 3 (gCons (gName i) (gCons (gName j) (gCons (gName k) gNil)))
theorem take_succ_map {α β : Type} {l : List α} {i : Nat} {x : α} (f : α → β) (h : l[i]? = some x) : (l.take (i + 1)).map f = (l.take i).map f ++ [f x] := by
  rw [List.take_add_one, h, List.map_append]
  rfl
/-- [e for x in a tuple] -/
theorem el_lcT {K : PySem.W.Frag} {a : Addr} {xs ys : List V} {tl te : TE} {σ : L2.St} {H : Hp} {j : Nat} {vs : List Nat}
    (h : Ev tl σ H (.ref a)) (hx : SqT K H a xs) (hl : ys.length = xs.length) (hz : xs.length ≤ 40000) (hw : ∀ x, wipe ((wipe σ vs).set j (some x)) vs = wipe σ vs)
    (he : ∀ (i : Nat) x y, xs[i]? = some x → ys[i]? = some y → ∀ H1, Ex H H1 → Ev te ((wipe σ vs).set j (some x)) H1 y) :
    EvL (tLc (iTup K tl) (gName j) tYes te vs) σ H ys := by
  intro H0 e Q q
  refine h H0 e _ fun H1 e1 => ?_
  have hx1 := ex_t (e.trans e1) hx
  refine ⟨a, rfl, ⟨_, hx1⟩, fun D hD => lc_tup (xs := xs) (fun n H' => Ex H1 H' ∧ H' D = some (.lst (ys.take n))) ⟨Ex.new hD, upd_same⟩ (fun n H' _ p => ex_t p.1 hx1) ?_ ?_⟩
  · intro n x H' hn p
    have hlt := (List.getElem?_eq_some_iff.mp hn).1
    have hy : ys[n]? = some (ys[n]'(by omega)) := List.getElem?_eq_getElem _
    refine ⟨hw _, ?_⟩
    show te _ H' _
    refine he n x _ hn hy H' ((e.trans e1).trans p.1) H' (Ex.refl H') _ fun H3 e3 => ?_
    refine ⟨_, e3 D _ p.2, sz_lt (by rw [List.length_take]; omega), Ex.mut (p.1.trans e3) hD, ?_⟩
    rw [upd_same, List.take_add_one, hy]
    rfl
  · intro H' p
    rw [← hl, List.take_length] at p
    exact q D H' (fresh_back e1 hD) (e1.trans p.1) p.2
/-- sum of a new list of ints -/
theorem ev_sumL {K : PySem.W.Frag} {te : TE} {σ : L2.St} {H : Hp} {ns : List Int} (h : EvL te σ H (ns.map V.int)) : Ev (tCB (rSum K) (tCons te tNil)) σ H (.int ns.sum) := by
  intro H1 e Q q
  refine h H1 e _ fun p H2 _ e2 hp => ?_
  exact ⟨p, ns, rfl, sq_of hp, q H2 e2⟩
/-- [e for page, objects, pinned in rows], e an int -/
theorem el_rowsI {K : PySem.W.Frag} {a : Addr} {rs : List (Addr × Row)} {tl te : TE} {σ : L2.St} {H : Hp} {i j k : Nat} {vs : List Nat} (f : Row → Int)
    (h : Ev tl σ H (.ref a)) (hR : RowsAt K H a rs) (hz : rs.length ≤ 40000) (hw : ∀ x y z, wipe ((((wipe σ vs).set i (some x)).set j (some y)).set k (some z)) vs = wipe σ vs)
    (he : ∀ r ∈ rs, ∀ H1, Ex H H1 → Ev te ((((wipe σ vs).set i (some (.int r.2.1))).set j (some (.int r.2.2.1))).set k (some (.bl r.2.2.2))) H1 (.int (f r.2))) :
    EvL (tLc (iTup K tl) (g3 K i j k) tYes te vs) σ H ((rs.map fun r => f r.2).map V.int) := by
  intro H0 e Q q
  refine h H0 e _ fun H1 e1 => ?_
  have hR1 := hR.ex (e.trans e1)
  refine ⟨a, rfl, ⟨_, hR1.1⟩, fun D hD => lc_tup (xs := rs.map fun r => V.ref r.1) (fun n H' => Ex H1 H' ∧ H' D = some (.lst (((rs.take n).map fun r => f r.2).map V.int))) ⟨Ex.new hD, upd_same⟩ (fun n H' _ p => ex_t p.1 hR1.1) ?_ ?_⟩
  · intro n x H' hx p
    obtain ⟨r, hr, rfl⟩ := rows_at hx
    have hm : r ∈ rs := List.mem_of_getElem? hr
    have hlt := (List.getElem?_eq_some_iff.mp hr).1
    refine ⟨r.1, _, rfl, ex_t p.1 (hR1.2 r hm), rfl, .int r.2.1, _, rfl, .int r.2.2.1, _, rfl, .bl r.2.2.2, [], rfl, rfl, hw _ _ _, ?_⟩
    show te _ H' _
    refine he r hm H' ((e.trans e1).trans p.1) H' (Ex.refl H') _ fun H3 e3 => ?_
    refine ⟨_, e3 D _ p.2, sz_lt (by rw [List.length_map, List.length_map, List.length_take]; omega), Ex.mut (p.1.trans e3) hD, ?_⟩
    rw [upd_same, take_succ_map _ hr, List.map_append]
    rfl
  · intro H' p
    have el : rs.take (rs.map fun r => V.ref r.1).length = rs := List.take_of_length_le (by rw [List.length_map]; omega)
    rw [el] at p
    exact q D H' (fresh_back e1 hD) (e1.trans p.1) p.2
/-- the pair that lies at an address -/
def kOf (H : Hp) (x : V) : Int × Int :=
  match x with
  | .ref t => (match H t with | some (.tup [.int i, .int j]) => (i, j) | _ => (0, 0))
  | _ => (0, 0)
theorem kOf_eq {H : Hp} {t : Addr} {i j : Int} (h : H t = some (.tup [.int i, .int j])) : kOf H (.ref t) = (i, j) := by
  show (match H t with | some (.tup [.int i, .int j]) => (i, j) | _ => (0, 0)) = (i, j)
  rw [h]
/-- pairs as they lie -/
def PairsIn (H : Hp) (xs : List V) : Prop := ∀ x ∈ xs, ∃ t, x = V.ref t ∧ H t = some (.tup [.int (kOf H x).1, .int (kOf H x).2])
theorem kOf_ex {H H' : Hp} (e : Ex H H') {xs : List V} (h : PairsIn H xs) : ∀ x ∈ xs, kOf H' x = kOf H x := by
  intro x hx
  obtain ⟨t, rfl, ht⟩ := h x hx
  exact kOf_eq (e t _ ht)
theorem PairsIn.ex {H H' : Hp} (e : Ex H H') {xs : List V} (h : PairsIn H xs) : PairsIn H' xs := by
  intro x hx
  have hk := kOf_ex e h x hx
  obtain ⟨t, rfl, ht⟩ := h x hx
  exact ⟨t, rfl, by rw [hk]; exact e t _ ht⟩
theorem pairs_snoc {rs : List (Addr × Row)} {n : Nat} {r : Addr × Row} (h : rs[n]? = some r) : pairsOf ((rs.take (n + 1)).map (·.2)) = pairsOf ((rs.take n).map (·.2)) ++ (if r.2.2.2 then [] else [(r.2.2.1, r.2.1)]) := by
  rw [take_succ_map _ h]
  unfold pairsOf
  rw [List.filter_append, List.map_append]
  obtain ⟨ad, p, m, b⟩ := r
  cases b <;> rfl
theorem pairsOf_len (rows : List Row) : (pairsOf rows).length ≤ rows.length := by
  unfold pairsOf
  rw [List.length_map]
  exact List.length_filter_le _ _
/-- sorted([(objects, page) for page, objects, pinned in rows if not pinned]) -/
theorem el_loads {K : PySem.W.Frag} {a : Addr} {rs : List (Addr × Row)} {tl : TE} {σ : L2.St} {H : Hp} {i j k : Nat} {vs : List Nat}
    (h : Ev tl σ H (.ref a)) (hR : RowsAt K H a rs) (hz : rs.length ≤ 40000) (hw : ∀ x y z, wipe ((((wipe σ vs).set i (some x)).set j (some y)).set k (some z)) vs = wipe σ vs)
    (hi : ∀ x y z, ((((wipe σ vs).set i (some x)).set j (some y)).set k (some z))[i]? = some (some x)) (hj : ∀ x y z, ((((wipe σ vs).set i (some x)).set j (some y)).set k (some z))[j]? = some (some y)) (hk : ∀ x y z, ((((wipe σ vs).set i (some x)).set j (some y)).set k (some z))[k]? = some (some z)) :
    ∀ H0, Ex H H0 → ∀ Q : VK, (∀ p H2 xs, H0 p = none → Ex H0 H2 → H2 p = some (.lst xs) → PairsIn H2 xs → xs.map (kOf H2) = loads (rs.map (·.2)) → Q (.ref p) H2) →
      tCB (rSortedPO K) (tCons (tLc (iTup K tl) (g3 K i j k) (tNot (tB (tVar k))) (tTup (tCons (tVar j) (tCons (tVar i) tNil))) vs) tNil) σ H0 Q := by
  intro H0 e Q q
  refine h H0 e _ fun H1 e1 => ?_
  have hR1 := hR.ex (e.trans e1)
  refine ⟨a, rfl, ⟨_, hR1.1⟩, fun D hD => lc_tup (xs := rs.map fun r => V.ref r.1) (fun n H' => Ex H1 H' ∧ ∃ xs, H' D = some (.lst xs) ∧ PairsIn H' xs ∧ D ∉ xs.filterMap (fun x => match x with | .ref t => some t | _ => none) ∧ xs.map (kOf H') = pairsOf ((rs.take n).map (·.2)))
    ⟨Ex.new hD, [], upd_same, fun x hx => absurd hx List.not_mem_nil, List.not_mem_nil, rfl⟩ (fun n H' _ p => ex_t p.1 hR1.1) ?_ ?_⟩
  · rintro n x H' hx ⟨p1, xs, p2, p3, p4, p5⟩
    obtain ⟨r, hr, rfl⟩ := rows_at hx
    have hm : r ∈ rs := List.mem_of_getElem? hr
    have hlt := (List.getElem?_eq_some_iff.mp hr).1
    have hps := pairs_snoc hr
    refine ⟨r.1, _, rfl, ex_t p1 (hR1.2 r hm), rfl, .int r.2.1, _, rfl, .int r.2.2.1, _, rfl, .bl r.2.2.2, [], rfl, rfl, hw _ _ _, ?_⟩
    refine ⟨_, hk _ _ _, r.2.2.2, rfl, ?_⟩
    cases hb : r.2.2.2 with
    | true =>
      rw [hb] at hps
      rw [if_neg (show ¬ (!true) = true from Bool.false_ne_true)]
      refine ⟨p1, xs, p2, p3, p4, ?_⟩
      rw [p5, hps]
      simp
    | false =>
      rw [hb] at hps
      rw [if_pos (show (!false) = true from rfl)]
      refine ⟨_, hj _ _ _, _, hi _ _ _, by show 2 ≤ sizeLine; decide, fun p hp => ?_⟩
      have hpD : D ≠ p := ne_of_none p2 hp
      have ep : Ex H' (upd H' p (.tup [.int r.2.2.1, .int r.2.1])) := Ex.new hp
      have hxl : xs.length ≤ 40000 := by
        have h1 := congrArg List.length p5
        rw [List.length_map] at h1
        have h2 := pairsOf_len ((rs.take n).map (·.2))
        rw [List.length_map, List.length_take] at h2
        omega
      refine ⟨xs, ep D _ p2, sz_lt (by omega), Ex.mut (p1.trans ep) hD, xs ++ [.ref p], upd_same, ?_, ?_, ?_⟩
      · intro y hy
        have hyD : ∀ t, y = .ref t → t ≠ D := by
          rintro t rfl e
          rcases List.mem_append.mp hy with m | m
          · exact p4 (List.mem_filterMap.mpr ⟨_, m, by rw [e]⟩)
          · have := List.mem_singleton.mp m
            cases this
            exact hpD e.symm
        rcases List.mem_append.mp hy with m | m
        · obtain ⟨t, rfl, ht⟩ := (p3.ex ep) y m
          have hn : (upd (upd H' p (.tup [.int r.2.2.1, .int r.2.1])) D (.lst (xs ++ [.ref p]))) t = (upd H' p (.tup [.int r.2.2.1, .int r.2.1])) t := upd_ne (hyD t rfl)
          refine ⟨t, rfl, ?_⟩
          rw [kOf_eq (hn.trans ht)]
          exact hn.trans ht
        · have := List.mem_singleton.mp m
          subst this
          have hn : (upd (upd H' p (.tup [.int r.2.2.1, .int r.2.1])) D (.lst (xs ++ [.ref p]))) p = some (.tup [.int r.2.2.1, .int r.2.1]) := by
            rw [upd_ne (hyD p rfl), upd_same]
          refine ⟨p, rfl, ?_⟩
          rw [kOf_eq hn]
          exact hn
      · intro hm2
        obtain ⟨y, hy, e⟩ := List.mem_filterMap.mp hm2
        rcases List.mem_append.mp hy with m | m
        · exact p4 (List.mem_filterMap.mpr ⟨y, m, e⟩)
        · have := List.mem_singleton.mp m
          subst this
          exact hpD (Option.some.inj e).symm
      · rw [List.map_append, hps]
        congr 1
        · rw [← p5]
          refine List.map_congr_left fun y hy => ?_
          obtain ⟨t, rfl, ht⟩ := p3 y hy
          have hne : t ≠ D := fun e => p4 (List.mem_filterMap.mpr ⟨_, hy, by rw [e]⟩)
          refine kOf_eq ?_
          rw [upd_ne hne]
          exact ep t _ ht
        · show [kOf _ _] = [_]
          rw [kOf_eq (i := r.2.2.1) (j := r.2.1)]
          rw [upd_ne hpD.symm, upd_same]
  · rintro H' ⟨p1, xs, p2, p3, p4, p5⟩
    have el : rs.take (rs.map fun r => V.ref r.1).length = rs := List.take_of_length_le (by rw [List.length_map]; omega)
    rw [el] at p5
    refine ⟨D, xs, kOf H', rfl, sq_of p2, p3, fun ys p srt stb hp => ?_⟩
    have ep : Ex H' (upd H' p (.lst ys)) := Ex.new hp
    have py : PairsIn H' ys := fun y hy => p3 y (stb.perm.mem_iff.mp hy)
    refine q p _ ys (fresh_back (e1.trans p1) hp) ((e1.trans p1).trans ep) upd_same (py.ex ep) ?_
    have hke : ys.map (kOf (upd H' p (.lst ys))) = ys.map (kOf H') := List.map_congr_left fun y hy => kOf_ex ep py y hy
    rw [hke]
    refine loads_uniq ?_ ?_
    · rw [← p5]
      exact stb.perm.map _
    · refine List.pairwise_map.mpr (srt.imp fun {x y} hxy => ?_)
      have h1 := SrtO.lexB_no.mp hxy
      simp only [leP, Bool.or_eq_true, Bool.and_eq_true, decide_eq_true_eq]
      omega
theorem s_loads {K : PySem.W.Frag} {a : Addr} {rs : List (Addr × Row)} {tl : TE} {σ : L2.St} {D : Ends} {H H0 : Hp} {i j k n : Nat} {vs : List Nat}
    (h : Ev tl σ H (.ref a)) (hR : RowsAt K H a rs) (e : Ex H H0) (hz : rs.length ≤ 40000) (hw : ∀ x y z, wipe ((((wipe σ vs).set i (some x)).set j (some y)).set k (some z)) vs = wipe σ vs)
    (hi : ∀ x y z, ((((wipe σ vs).set i (some x)).set j (some y)).set k (some z))[i]? = some (some x)) (hj : ∀ x y z, ((((wipe σ vs).set i (some x)).set j (some y)).set k (some z))[j]? = some (some y)) (hk : ∀ x y z, ((((wipe σ vs).set i (some x)).set j (some y)).set k (some z))[k]? = some (some z))
    (q : ∀ p H2 xs, H0 p = none → Ex H0 H2 → H2 p = some (.lst xs) → PairsIn H2 xs → xs.map (kOf H2) = loads (rs.map (·.2)) → D.nx (σ.set n (some (.ref p))) H2) :
    tAsg (tCB (rSortedPO K) (tCons (tLc (iTup K tl) (g3 K i j k) (tNot (tB (tVar k))) (tTup (tCons (tVar j) (tCons (tVar i) tNil))) vs) tNil)) (gName n) D σ H0 :=
  el_loads h hR hz hw hi hj hk H0 e _ q
/-- len of a tuple -/
theorem ev_lenT {K : PySem.W.Frag} {ta : TE} {σ : L2.St} {H : Hp} {p : Addr} {xs : List V} (ha : Ev ta σ H (.ref p)) (h : SqT K H p xs) : Ev (tCB (rLenS K) (tCons ta tNil)) σ H (.int (xs.length : Int)) := fun H1 e Q q =>
  ha H1 e _ fun H2 e2 => ⟨p, xs, rfl, Or.inr (ex_t (e.trans e2) h), q H2 e2⟩
def rTupS (K : PySem.W.Frag) : List V → Hp → VK → Prop := fun xs H Q => ∃ p ys, xs = [.ref p] ∧ ((SqL K H p ys ∧ ∀ l, H l = none → Q (.ref l) (upd H l (.tup ys))) ∨ (SqT K H p ys ∧ Q (.ref p) H))
/-- return tuple(sorted(found)) -/
theorem s_retSorted {K : PySem.W.Frag} {σ : L2.St} {D : Ends} {H : Hp} {i : Nat} {o : Addr} {ns : List Int} (hi : σ[i]? = some (some (.ref o))) (ho : H o = some (.lst (ns.map V.int)))
    (k : ∀ p H', H p = none → Ex H H' → H' p = some (.tup ((ns.mergeSort leI).map V.int)) → D.rt (.ref p) H') :
    tRet (tCB (rTupS K) (tCons (tCB (rSortedI K) (tCons (tVar i) tNil)) tNil)) D σ H := by
  refine ⟨.ref o, hi, o, ns, rfl, sq_of ho, fun ys p hp hs hn => ?_⟩
  have e : ys = ns.mergeSort leI := sort_uniq hp hs
  subst e
  have e1 : Ex H (upd H p (.lst ((ns.mergeSort leI).map V.int))) := Ex.new hn
  refine ⟨p, _, rfl, .inl ⟨sq_of upd_same, fun l hl => ?_⟩⟩
  exact k l _ (fresh_back e1 hl) (e1.trans (Ex.new hl)) upd_same
/-- a list may change beside the pairs -/
theorem PairsIn.off {H : Hp} {xs zs : List V} {o : Addr} {u : HO} (h : PairsIn H xs) (ho : H o = some (.lst zs)) : PairsIn (upd H o u) xs ∧ ∀ x ∈ xs, kOf (upd H o u) x = kOf H x := by
  have key : ∀ x ∈ xs, ∃ t, x = V.ref t ∧ (upd H o u) t = some (.tup [.int (kOf H x).1, .int (kOf H x).2]) := by
    intro x hx
    obtain ⟨t, rfl, ht⟩ := h x hx
    have ne : t ≠ o := fun e => by
      rw [e, ho] at ht
      cases ht
    exact ⟨t, rfl, by rw [upd_ne ne]; exact ht⟩
  have ks : ∀ x ∈ xs, kOf (upd H o u) x = kOf H x := by
    intro x hx
    obtain ⟨t, rfl, ht⟩ := key x hx
    exact kOf_eq ht
  refine ⟨fun x hx => ?_, ks⟩
  obtain ⟨t, rfl, ht⟩ := key x hx
  exact ⟨t, rfl, by rw [ks _ hx]; exact ht⟩
end Pg
namespace Pg
open PySem PySem.Spec PyProof.Rows L2 Evl Gd
def topS (i : Nat) : Stmt := PySem.Challenge.pw_crossheaps_k29_pages_emptied_by_all_sets.main.body.getD i (.Pass ⟨0, 0, 0, 0⟩)
abbrev sEmp : Stmt := topS 2
abbrev nEmp : List Str := ["pages", "moves", "total", "bound", "page", "objects", "loads", "found", "left", "row", "pinned"]
theorem scEmp : FnScope nEmp ["pages", "moves"] (defScope sEmp) := ⟨rfl, rfl, rfl, by decide +kernel, rfl, by decide +kernel, by decide +kernel⟩
def spEmp (K : PySem.W.Frag) : Sp := fun vs H Q _ => ∃ (a : Addr) (rs : List (Addr × Row)) (m : Int), vs = [.ref a, .int m] ∧ RowsAt K H a rs ∧ rs.length ≤ 1000 ∧
  ∀ H' p, Ex H H' → H p = none → H' p = some (.tup ((emp (rs.map (·.2)) m).map V.int)) → Q (.ref p) H'
section
variable {P : Program} {w : World} {K : PySem.W.Frag} {mg : Str → Option Value} {base : Heap}
/-- the greedy loop's word -/
def LoopE (H : Hp) (l o : Addr) (rows : List Row) (B m : Int) (xs : List V) (i : Nat) (left : Int) (H' : Hp) : Prop :=
  Ex H H' ∧ H' l = some (.lst xs) ∧ PairsIn H' xs ∧ xs.map (kOf H') = loads rows ∧ H' o = some (.lst ((((loads rows).take i).map (·.2)).map V.int)) ∧
    taken B m 0 (loads rows) = (loads rows).take i ++ taken B left i ((loads rows).drop i)
theorem ok_emp {f : Addr} {fd : FuncData} (F : Fun K "emptied" "emptied" sEmp f fd) {tk : Tok} (mC : mg "CELLS" = some (.int 8 tk)) (mS : mg "sum" = none) (mL : mg "len" = none) (mO : mg "sorted" = none) (mT : mg "tuple" = none) : FnOk P w K mg base CX0 1 f fd ["pages", "moves"] (spEmp K) := by
  refine F.ok scEmp (fun vs H Q E h => ?_) (fun cdv A outer s H vs Q E hr h => ?_)
  · obtain ⟨a, rs, m, rfl, _⟩ := h
    rfl
  · obtain ⟨a, rs, m, rfl, hR, hz, q⟩ := h
    refine ⟨_, pss_cons (ps_set (i := 2) scEmp.nd rfl (.inl rfl) (pe_callB (cr_sum rfl) (by rfl) mS boot_sum (pa_cons
        (pe_lc (own := [("row", 9)]) (g := gName 9) (tt := tYes) (te := tOp (rIxT K) (tVar 9) (tC (.int 1))) rfl scEmp.nd (pi_tup (pv 0)) (blkOk_by (N := nEmp) (sc := defScope sEmp) (by decide +kernel)) (fun _ _ _ _ _ => pg_name (i := 9) scEmp.nd rfl (.inl rfl)) (fun _ _ _ _ _ => pts_nil) (fun _ _ _ _ _ => pe_ix ix_tup (pv 9) pe_int (fun _ _ => rfl))) pa_nil)))
      (pss_cons (ps_set (i := 3) scEmp.nd rfl (.inl rfl) (pe_op op_sub (pe_callB call_len_seq (by rfl) mL PySem.boot_len (pa_cons (pv 0) pa_nil)) (pe_op op_fdiv (pe_op op_sub (pe_op op_add (pv 2) (pe_glob (v := .int 8) rfl mC ⟨_, rfl⟩)) pe_int) (pe_glob (v := .int 8) rfl mC ⟨_, rfl⟩))))
      (pss_cons (ps_set (i := 6) scEmp.nd rfl (.inl rfl) (pe_callB cr_sortedPO (by rfl) mO boot_sorted (pa_cons
        (pe_lc (own := [("page", 4), ("objects", 5), ("pinned", 10)]) (g := g3 K 4 5 10) (tt := tNot (tB (tVar 10))) (te := tTup (tCons (tVar 5) (tCons (tVar 4) tNil))) rfl scEmp.nd (pi_tup (pv 0)) (blkOk_by (N := nEmp) (sc := defScope sEmp) (by decide +kernel))
          (fun _ _ _ _ _ => pg_tup rfl (pgs_cons (pg_name (i := 4) scEmp.nd rfl (.inl rfl)) (pgs_cons (pg_name (i := 5) scEmp.nd rfl (.inl rfl)) (pgs_cons (pg_name (i := 10) scEmp.nd rfl (.inl rfl)) pgs_nil))))
          (fun _ _ _ _ _ => pts_one (pt_not (pt_val (pv 10)))) (fun _ _ _ _ _ => pe_tup (pa_cons (pv 5) (pa_cons (pv 4) pa_nil)))) pa_nil)))
      (pss_cons (ps_set (i := 7) scEmp.nd rfl (.inl rfl) (pe_lst pa_nil))
      (pss_cons (ps_set (i := 8) scEmp.nd rfl (.inl rfl) (pv 1))
      (pss_cons (ps_for PassesOwn.never rfl (pi_list (pv 6)) (pg_tup (n := 2) rfl (pgs_cons (pg_name (i := 5) scEmp.nd rfl (.inl rfl)) (pgs_cons (pg_name (i := 4) scEmp.nd rfl (.inl rfl)) pgs_nil)))
        (pss_cons (ps_if (pw_or (pt_cmpR op_eq (pe_callB call_len_seq (by rfl) mL PySem.boot_len (pa_cons (pv 7) pa_nil)) (pv 3) (nomark _)) (pw_or1 (pt_cmpR op_gt (pv 5) (pv 8) (nomark _)))).pt (pss_one ps_break) pss_nil)
        (pss_cons (ps_aug (i := 8) scEmp.nd rfl (.inl rfl) (pv 5) ip_sub)
        (pss_one (ps_expr (pe_bm PySem.F.plainAttrs_list PySem.F.slot_list_append PySem.F.type_list_append mt_append (pv 7) (pa_cons (pv 4) pa_nil)))))))
      (pss_one (ps_ret (pe_callTy call_tuple_of (by rfl) mT boot_tuple (pa_cons (pe_callB cr_sortedI (by rfl) mO boot_sorted (pa_cons (pv 7) pa_nil)) pa_nil))))))))), ?_⟩
    have hI : ∀ H1, Ex H H1 → RowsAt K H1 a rs := fun H1 e => hR.ex e
    have hlen : (rs.map fun r => V.ref r.1).length = rs.length := List.length_map _
    -- total
    refine s_asg (i := 2) (v := .int (total (rs.map (·.2)))) (ev_sumL (ns := (rs.map (·.2)).map fun r => r.2.1) (el_lcT (ev_var rfl) hR.1 (by simp) (by rw [hlen]; omega) (fun _ => rfl) fun i x y hx hy H1 e => ?_)) fun H1 e1 => ?_
    · obtain ⟨r, hr, rfl⟩ := rows_at hx
      rw [List.getElem?_map, List.getElem?_map, List.getElem?_map, hr] at hy
      have ey : y = .int r.2.2.1 := (Option.some.inj hy).symm
      subst ey
      exact ev_op (ev_var rfl) ev_c (rv_ixT (ex_t e (hR.2 r (List.mem_of_getElem? hr))) rfl)
    -- bound
    dsimp only
    refine st_seq (s_asg (i := 3) (v := .int (bound (rs.map (·.2)))) ?_ fun H2 e2 => ?_)
    · have ee : ((rs.map fun r => V.ref r.1).length : Int) - (total (rs.map (·.2)) + 8 - 1) / 8 = bound (rs.map (·.2)) := by
        unfold bound
        rw [List.length_map, List.length_map]
      rw [← ee]
      exact ev_op (ev_lenT (ev_var rfl) (hI H1 e1).1) (ev_op (ev_op (ev_op (ev_var rfl) ev_c rv_I0) ev_c rv_I0) ev_c (rv_I ⟨by decide, by decide⟩)) rv_I0
    -- loads
    have e12 : Ex H H2 := e1.trans e2
    dsimp only
    refine st_seq (s_loads (i := 4) (j := 5) (k := 10) (ev_var rfl) hR e12 (by omega) (fun _ _ _ => rfl) (fun _ _ _ => rfl) (fun _ _ _ => rfl) (fun _ _ _ => rfl) fun l H3 xs hl e3 h3 p3 k3 => ?_)
    -- found = [], left = moves
    dsimp only
    refine st_seq (s_asgL (i := 7) (el_lst ea_nil (Nat.zero_le _)) fun o H4 ho e4 h4 => ?_)
    dsimp only
    refine st_seq (s_asg (i := 8) (v := .int m) (ev_var rfl) fun H5 e5 => ?_)
    have e35 : Ex H3 H5 := e4.trans e5
    have e05 : Ex H H5 := (e12.trans e3).trans e35
    have hol : o ≠ l := fun e => by
      rw [e, h3] at ho
      cases ho
    have hoN : H o = none := fresh_back (e12.trans e3) ho
    have hlN : H l = none := fresh_back e12 hl
    have hPos : (loads (rs.map (·.2))).length = xs.length := by rw [← k3, List.length_map]
    have hXs : xs.length ≤ 1000 := by
      have h1 := pairsOf_len (rs.map (·.2))
      rw [← hPos, (loads_perm _).length_eq]
      rw [List.length_map] at h1
      omega
    -- the loop
    dsimp only
    refine st_seq (s_forL (a := l) (xs := xs) (ev_var rfl) (sq_of (e35 l _ h3)) (fun i σ' H' => ∃ y4 y5 left, σ' = [some (.ref a), some (.int m), some (.int (total (rs.map (·.2)))), some (.int (bound (rs.map (·.2)))), y4, y5, some (.ref l), some (.ref o), some (.int left), none, none] ∧
      LoopE H l o (rs.map (·.2)) (bound (rs.map (·.2))) m xs i left H') (fun H6 e6 => ?_) (fun i σ' H' _ p => ?_) (fun i x σ' H' hx p => ?_) (fun σ' H' p => ?_))
    · refine ⟨none, none, m, rfl, e05.trans e6, e6 l _ (e35 l _ h3), (p3.ex e35).ex e6, ?_, ?_, ?_⟩
      · rw [← k3]
        exact List.map_congr_left fun y hy => (kOf_ex (e35.trans e6) p3 y hy)
      · exact e6 o _ (e5 o _ h4)
      · rfl
    · obtain ⟨_, _, _, _, _, q2, _⟩ := p
      exact sq_of q2
    · obtain ⟨y4, y5, left, rfl, q1, q2, q3, q4, q5, q6⟩ := p
      have hi : i < xs.length := (List.getElem?_eq_some_iff.mp hx).1
      have hpr : (loads (rs.map (·.2)))[i]? = some (kOf H' x) := by rw [← q4, List.getElem?_map, hx]; rfl
      obtain ⟨t, rfl, ht⟩ := q3 x (List.mem_of_getElem? hx)
      rw [taken_at hpr] at q6
      have hfl : (((loads (rs.map (·.2))).take i).map (·.2)).length = i := by
        rw [List.length_map, List.length_take, hPos]
        omega
      refine ⟨t, _, rfl, st_of ht, rfl, .int (kOf H' (.ref t)).1, _, rfl, .int (kOf H' (.ref t)).2, [], rfl, rfl, ?_⟩
      refine st_seq (s_if (et_or (et_test (ev_op (ev_len (ev_var rfl) (sq_of q5)) (ev_var rfl) (rv_eq rfl))) fun _ => et_test (ev_op (ev_var rfl) (ev_var rfl) rv_I0)) (fun hb H6 e6 => ?_) (fun hb H6 e6 => ?_))
      · -- break
        dsimp only
        refine s_retSorted (i := 7) rfl (e6 o _ q5) fun p H7 hp e7 h7 => ?_
        have hc : (i : Int) = bound (rs.map (·.2)) ∨ left < (kOf H' (.ref t)).1 := by
          rw [List.length_map, hfl] at hb
          simpa using hb
        rw [if_pos hc, List.append_nil] at q6
        have q7 := (q1.trans e6).trans e7
        refine q H7 p q7 (fresh_back (q1.trans e6) hp) ?_
        rw [h7]
        unfold emp pages
        rw [q6]
      · -- on
        have hc : ¬ ((i : Int) = bound (rs.map (·.2)) ∨ left < (kOf H' (.ref t)).1) := by
          rw [List.length_map, hfl] at hb
          simpa using hb
        rw [if_neg hc] at q6
        dsimp only [tNext]
        refine st_seq (s_aug (i := 8) rfl (ev_var rfl) fun H7 e7 => ?_)
        dsimp only
        have e67 := e6.trans e7
        refine s_app (e67 o _ q5) (ev_var rfl) (ev_var rfl) (by rw [List.length_map, hfl]; omega) fun H8 e8 => ?_
        dsimp only
        have e68 := e67.trans e8
        refine ⟨_, _, left - (kOf H' (.ref t)).1, rfl, Ex.mut (q1.trans e68) hoN, ?_, ?_, ?_, ?_, ?_⟩
        · rw [upd_ne hol.symm]
          exact e68 l _ q2
        · exact ((q3.ex e68).off (e68 o _ q5)).1
        · rw [← q4]
          refine List.map_congr_left fun y hy => ?_
          rw [((q3.ex e68).off (e68 o _ q5)).2 y hy]
          exact kOf_ex e68 q3 y hy
        · rw [upd_same, take_succ_map _ hpr, List.map_append]
          rfl
        · rw [q6, List.take_add_one, hpr]
          simp
    · obtain ⟨y4, y5, left, rfl, q1, q2, q3, q4, q5, q6⟩ := p
      dsimp only
      refine s_retSorted (i := 7) rfl q5 fun p H7 hp e7 h7 => ?_
      refine q H7 p (q1.trans e7) (fresh_back q1 hp) ?_
      rw [h7]
      unfold emp pages
      rw [q6, ← hPos, List.drop_length]
      show some (HO.tup _) = some (HO.tup (List.map V.int (List.mergeSort (List.map _ (_ ++ [])) leI)))
      rw [List.append_nil]
end
end Pg
namespace Pg
open PySem PySem.Spec PyProof.Rows L2 Evl Gd
abbrev sDraws : Stmt := topS 4
abbrev sBelow : Stmt := topS 5
theorem scDraws : FnScope ["_law_script", "_law_k", "_law_cell", "_law_great"] ["_law_script", "_law_k"] (defScope sDraws) := ⟨rfl, rfl, rfl, by decide +kernel, rfl, by decide +kernel, by decide +kernel⟩
theorem scBelow : FnScope ["_law_draws_here", "_law_many", "_law_digit", "_law_nth", "_law_prime", "_law_mixed"] ["_law_draws_here", "_law_many"] (defScope sBelow) := ⟨rfl, rfl, rfl, by decide +kernel, rfl, by decide +kernel, by decide +kernel⟩
def CPowW (i j : Int) : Prop := 0 ≤ j ∧ (Builtin.Int.intBits i : Int) * j ≤ bitsLine
theorem op_powW {X : Cx} : OpR X (binaryOp .Pow) (rI CPowW fun i j => .int (i ^ j.toNat)) := opI fun _ _ _ _ _ _ _ hc q => pow_int hc.1 hc.2 q
def big : Int := 1000000000000000000000000000000000000000000000000000000000000 ^ 5
/-- the well of draws: at most n draws so far -/
def Pot (H : Hp) (d : Addr) (n : Int) : Prop := ∃ g b m : Int, H d = some (.lst [.int g, .int b, .int m]) ∧ 0 ≤ g ∧ g < big ∧ 0 ≤ b ∧ b < 2305843009213693952 ∧ 0 ≤ m ∧ m ≤ n
theorem Pot.up {H : Hp} {d : Addr} {n k : Int} (h : Pot H d n) (e : n ≤ k) : Pot H d k := by
  obtain ⟨g, b, m, h0, h1, h2, h3, h4, h5, h6⟩ := h
  exact ⟨g, b, m, h0, h1, h2, h3, h4, h5, by omega⟩
theorem Pot.ex {H H' : Hp} {d : Addr} {n : Int} (e : Ex H H') (h : Pot H d n) : Pot H' d n := by
  obtain ⟨g, b, m, h0, h⟩ := h
  exact ⟨g, b, m, e d _ h0, h⟩
/-- all but the well stays -/
def Off (d : Addr) (H H' : Hp) : Prop := ∀ a o, a ≠ d → H a = some o → H' a = some o
theorem Off.refl (d : Addr) (H : Hp) : Off d H H := fun _ _ _ h => h
theorem Off.of {d : Addr} {H H' : Hp} (e : Ex H H') : Off d H H' := fun a o _ h => e a o h
theorem Off.trans {d : Addr} {H H1 H2 : Hp} (a : Off d H H1) (b : Off d H1 H2) : Off d H H2 := fun x o n h => b x o n (a x o n h)
theorem Off.upd {d : Addr} {H H' : Hp} {o : HO} (e : Off d H H') : Off d H (upd H' d o) := fun a u n h => by
  rw [upd_ne n]
  exact e a u n h
def spDraws (K : PySem.W.Frag) : Sp := fun vs H Q _ => ∃ (a : Addr) (ns : List Int) (k : Int), vs = [.ref a, .int k] ∧ SqL K H a (ns.map V.int) ∧ ns.length ≤ 63 ∧ 0 ≤ k ∧ k ≤ 2 ∧
  ∀ H' d, Ex H H' → H d = none → Pot H' d 0 → Q (.ref d) H'
def spBelow : Sp := fun vs H Q _ => ∃ (d : Addr) (n many : Int), vs = [.ref d, .int many] ∧ Pot H d n ∧ n ≤ 1000000 ∧ 0 < many ∧ many ≤ 1000000 ∧
  ∀ H' r, Off d H H' → Pot H' d (n + 1) → 0 ≤ r → r < many → Q (.int r) H'
section
variable {P : Program} {w : World} {K : PySem.W.Frag} {mg : Str → Option Value} {base : Heap}
theorem ok_draws {f : Addr} {fd : FuncData} (F : Fun K "_law_draws" "_law_draws" sDraws f fd) (mL : mg "len" = none) (mA : mg "abs" = none) (mI : mg "int" = none) : FnOk P w K mg base CX0 1 f fd ["_law_script", "_law_k"] (spDraws K) := by
  refine F.ok scDraws (fun vs H Q E h => ?_) (fun cdv A outer s H vs Q E hr h => ?_)
  · obtain ⟨a, ns, k, rfl, _⟩ := h
    rfl
  · obtain ⟨a, ns, k, rfl, hS, hz, h0, h2, q⟩ := h
    refine ⟨_, pss_cons (ps_set (i := 2) scDraws.nd rfl (.inl rfl) (pe_ifExp (pt_cmpR op_lt (pv 1) (pe_callB call_len_seq (by rfl) mL PySem.boot_len (pa_cons (pv 0) pa_nil)) (nomark _)) (pe_ix ix_list (pv 0) (pv 1) (fun _ _ => rfl)) (pe_op op_add (pe_op op_mul pe_int (pv 1)) pe_int)))
      (pss_cons (ps_set (i := 3) scDraws.nd rfl (.inl rfl) (pe_op op_mul (pe_op op_mod (pe_callB call_abs (by rfl) mA (by decide +kernel) (pa_cons (pv 2) pa_nil)) (pe_op op_powW (pe_op op_pow pe_int pe_int) pe_int))
          (pe_callTy call_int1 (by rfl) mI (by decide +kernel) (pa_cons (pe_cmpR op_ge (pe_callB call_abs (by rfl) mA (by decide +kernel) (pa_cons (pv 2) pa_nil)) (pe_op op_pow pe_int pe_int) (nomark _)) pa_nil))))
      (pss_one (ps_ret (pe_lst (pa_cons (pv 3) (pa_cons (pe_op op_mod (pe_op op_mul (pe_op op_add (pe_op op_add (pe_op op_mod (pv 2) pe_int) (pe_op op_mul (pe_op op_mul pe_int (pv 1)) (pv 1))) pe_int) pe_int) pe_int) (pa_cons pe_int pa_nil))))))), ?_⟩
    let c : Int := if h : k.toNat < ns.length then ns[k.toNat] else 7 * k + 3
    refine s_asg (i := 2) (v := .int c) (ev_if (et_test (ev_op (ev_var rfl) (ev_len (ev_var rfl) hS) rv_I0)) (fun hb => ?_) (fun hb => ?_)) fun H1 e1 => ?_
    · have hk : k < ((ns.map V.int).length : Int) := of_decide_eq_true hb
      rw [List.length_map] at hk
      have hk2 : k.toNat < ns.length := by omega
      refine ev_op (ev_var rfl) (ev_var rfl) (rv_ixL hS ?_)
      have e0 : k = ((k.toNat : Nat) : Int) := by omega
      rw [e0]
      refine atI_nat ?_
      rw [List.getElem?_map, List.getElem?_eq_getElem hk2]
      show some (V.int _) = some (V.int c)
      rw [show c = ns[k.toNat] from dif_pos hk2]
    · have hk : ¬ k < ((ns.map V.int).length : Int) := of_decide_eq_false hb
      rw [List.length_map] at hk
      rw [show c = 7 * k + 3 from dif_neg (by omega)]
      exact ev_op (ev_op ev_c (ev_var rfl) (rv_I (.inl ⟨by decide, by decide⟩))) ev_c rv_I0
    clear_value c
    have evAbs : ∀ H2 : Hp, Ev (tCB (fun xs H Q => ∃ i, xs = [V.int i] ∧ Q (.int (if i < 0 then -i else i)) H) (tCons (tVar 2) tNil)) ((L2.start ["_law_script", "_law_k", "_law_cell", "_law_great"] [V.ref a, V.int k]).set 2 (some (.int c))) H2 (.int (if c < 0 then -c else c)) :=
      fun H2 => ev_cb (ea_cons (ev_var rfl) ea_nil) fun H3 _ Q q => ⟨c, rfl, q H3 (Ex.refl H3)⟩
    let g : Int := (if c < 0 then -c else c) % big * (if decide ((10 : Int) ^ (18 : Int).toNat ≤ (if c < 0 then -c else c)) = true then 1 else 0)
    have hbig : (0 : Int) < big := by decide +kernel
    have hg : 0 ≤ g ∧ g < big := by
      have h1 := Int.emod_nonneg (if c < 0 then -c else c) (b := big) (by omega)
      have h2 := Int.emod_lt_of_pos (if c < 0 then -c else c) hbig
      show 0 ≤ _ * _ ∧ _ * _ < big
      generalize decide ((10 : Int) ^ (18 : Int).toNat ≤ (if c < 0 then -c else c)) = z
      cases z
      · rw [if_neg Bool.false_ne_true, Int.mul_zero]
        omega
      · rw [if_pos rfl, Int.mul_one]
        exact ⟨h1, h2⟩
    dsimp only
    refine st_seq (s_asg (i := 3) (v := .int g) (ev_op (ev_op (evAbs H1) (ev_op (ev_op ev_c ev_c (rv_I ⟨by decide, by decide, by decide⟩)) ev_c (rv_I ⟨by decide +kernel, by decide +kernel⟩)) (rv_I (by decide +kernel))) (ev_cb (ea_cons (ev_op (evAbs H1) (ev_op ev_c ev_c (rv_I ⟨by decide, by decide, by decide⟩)) rv_I0) ea_nil) fun H3 _ Q q => .inr ⟨_, rfl, q H3 (Ex.refl H3)⟩) (rv_I (.inr ?_))) fun H2 e2 => ?_)
    · generalize decide ((10 : Int) ^ (18 : Int).toNat ≤ (if c < 0 then -c else c)) = z
      cases z <;> decide
    clear_value g
    dsimp only
    let b : Int := (c % 2305843009213693951 + 7919 * k * k + 17) * 48271 % 2305843009213693921
    have hb1 := Int.emod_nonneg ((c % 2305843009213693951 + 7919 * k * k + 17) * 48271) (b := 2305843009213693921) (by decide)
    have hb2 := Int.emod_lt_of_pos ((c % 2305843009213693951 + 7919 * k * k + 17) * 48271) (b := 2305843009213693921) (by decide)
    refine s_retL (xs := [.int g, .int b, .int 0]) (el_lst (ea_cons (ev_var rfl) (ea_cons (ev_op (ev_op (ev_op (ev_op (ev_op (ev_var rfl) ev_c (rv_I (by decide))) (ev_op (ev_op ev_c (ev_var rfl) (rv_I (.inl ⟨by decide, by decide⟩))) (ev_var rfl) (rv_I (.inr ⟨by omega, by omega⟩))) rv_I0) ev_c rv_I0) ev_c (rv_I (.inr ⟨by decide, by decide⟩))) ev_c (rv_I (by decide))) (ea_cons ev_c ea_nil))) (by show 3 ≤ 100000; decide)) fun p H3 hp e3 h3 => ?_
    exact q H3 p ((e1.trans e2).trans e3) (fresh_back (e1.trans e2) hp) ⟨g, b, 0, h3, hg.1, hg.2, hb1, by omega, Int.le_refl 0, Int.le_refl 0⟩
theorem ok_below {f : Addr} {fd : FuncData} (F : Fun K "_law_below" "_law_below" sBelow f fd) : FnOk P w K mg base CX0 1 f fd ["_law_draws_here", "_law_many"] spBelow := by
  refine F.ok scBelow (fun vs H Q E h => ?_) (fun cdv A outer s H vs Q E hr h => ?_)
  · obtain ⟨a, n, k, rfl, _⟩ := h
    rfl
  · obtain ⟨d, n, many, rfl, hP, hn, h0, h1, q⟩ := h
    refine ⟨_, pss_cons (ps_if (pt_cmpR op_gt (pe_ix ix_list (pv 0) pe_int (fun _ _ => rfl)) pe_int (nomark _))
        (pss_cons (ps_set (i := 2) scBelow.nd rfl (.inl rfl) (pe_op op_mod (pe_ix ix_list (pv 0) pe_int (fun _ _ => rfl)) (pv 1)))
        (pss_cons (ps_asg (pe_op op_fdivW (pe_ix ix_list (pv 0) pe_int (fun _ _ => rfl)) (pv 1)) (pg_sub (pv 0) pe_int set_list))
        (pss_one (ps_ret (pv 2))))) pss_nil)
      (pss_cons (ps_set (i := 3) scBelow.nd rfl (.inl rfl) (pe_op op_add (pe_ix ix_list (pv 0) pe_int (fun _ _ => rfl)) pe_int))
      (pss_cons (ps_asg (pv 3) (pg_sub (pv 0) pe_int set_list))
      (pss_cons (ps_set (i := 4) scBelow.nd rfl (.inl rfl) (pe_ix ix_list (pe_lst (pa_cons pe_int (pa_cons pe_int (pa_cons pe_int (pa_cons pe_int pa_nil))))) (pe_op op_mod (pv 3) pe_int) (fun _ _ => rfl)))
      (pss_cons (ps_set (i := 5) scBelow.nd rfl (.inl rfl) (pe_op op_mod (pe_op op_add (pe_op op_add (pe_ix ix_list (pv 0) pe_int (fun _ _ => rfl)) (pe_op op_mul (pe_op op_mul pe_int (pv 3)) (pv 3))) (pe_op op_mul pe_int (pv 3))) (pv 4)))
      (pss_cons (ps_set (i := 5) scBelow.nd rfl (.inl rfl) (pe_op op_mod (pe_op op_pow (pv 5) pe_int) (pv 4)))
      (pss_one (ps_ret (pe_op op_mod (pe_op op_add (pe_op op_fdiv (pv 5) pe_int) (pe_op op_mul (pe_op op_fdiv (pv 5) pe_int) pe_int)) (pv 1))))))))), ?_⟩
    obtain ⟨g, b, m, hd, hg0, hg1, hb0, hb1, hm0, hm1⟩ := hP
    have at0 : ∀ x y z : Int, atI [V.int x, .int y, .int z] 0 = some (.int x) := fun x y z => atI_nat (j := 0) rfl
    have at1 : ∀ x y z : Int, atI [V.int x, .int y, .int z] 1 = some (.int y) := fun x y z => atI_nat (j := 1) rfl
    have at2 : ∀ x y z : Int, atI [V.int x, .int y, .int z] 2 = some (.int z) := fun x y z => atI_nat (j := 2) rfl
    have ix : ∀ j : Nat, j < 3 → ixN 3 (j : Int) = some j := fun j h => ixN_nat h
    refine s_if (b := decide (0 < g)) (et_test (ev_op (ev_op (ev_var rfl) ev_c (rv_ixL (sq_of hd) (at0 _ _ _))) ev_c rv_I0)) (fun hb H1 e1 => ?_) (fun hb H1 e1 => ?_)
    · have hg : 0 < g := of_decide_eq_true hb
      have d1 := e1 d _ hd
      refine st_seq (s_asg (i := 2) (v := .int (g % many)) (ev_op (ev_op (ev_var rfl) ev_c (rv_ixL (sq_of d1) (at0 _ _ _))) (ev_var rfl) (rv_I h0)) fun H2 e2 => ?_)
      have d2 := e2 d _ d1
      dsimp only
      have wd : CDivW g many := wide_div h0 (b := 64) (by omega) (by decide) (by decide)
      refine st_seq (s_setL (j := 0) d2 (ev_op (ev_op (ev_var rfl) ev_c (rv_ixL (sq_of d2) (at0 _ _ _))) (ev_var rfl) (rv_I wd)) (ev_var rfl) ev_c (show 0 < 3 by decide) fun H3 e3 => ?_)
      dsimp only
      refine s_ret (v := .int (g % many)) (ev_var rfl) fun H4 e4 => ?_
      have h5 : Off d H H3 := Off.of ((e1.trans e2).trans e3)
      have nn := Int.ediv_nonneg hg0 (show 0 ≤ many by omega)
      have le : g / many ≤ g := Int.ediv_le_self many hg0
      refine q H4 _ ((h5.upd).trans (Off.of e4)) ⟨g / many, b, m, e4 d _ upd_same, nn, by omega, hb0, hb1, hm0, by omega⟩ (Int.emod_nonneg _ (by omega)) (Int.emod_lt_of_pos _ h0)
    · have d1 := e1 d _ hd
      dsimp only [tNext]
      refine st_seq (s_asg (i := 3) (v := .int (m + 1)) (ev_op (ev_op (ev_var rfl) ev_c (rv_ixL (sq_of d1) (at2 _ _ _))) ev_c rv_I0) fun H2 e2 => ?_)
      have d2 := e2 d _ d1
      dsimp only
      refine st_seq (s_setL (j := 2) d2 (ev_var rfl) (ev_var rfl) ev_c (show 2 < 3 by decide) fun H3 e3 => ?_)
      dsimp only
      have d3 : (upd H3 d (.lst ([V.int g, .int b, .int m].set 2 (.int (m + 1))))) d = some (.lst [V.int g, .int b, .int (m + 1)]) := upd_same
      have o3 : Off d H (upd H3 d (.lst ([V.int g, .int b, .int m].set 2 (.int (m + 1))))) := (Off.of ((e1.trans e2).trans e3)).upd
      generalize upd H3 d (.lst ([V.int g, .int b, .int m].set 2 (.int (m + 1)))) = H3' at d3 o3 ⊢
      have hn4 : ∃ p : Int, atI [V.int 2305843009213693951, .int 999999999989, .int 1000000000039, .int 67280421310721] ((m + 1) % 4) = some (.int p) ∧ 0 < p ∧ p < 2305843009213693952 := by
        have l1 := Int.emod_nonneg (m + 1) (show (4 : Int) ≠ 0 by decide)
        have l2 := Int.emod_lt_of_pos (m + 1) (show (0 : Int) < 4 by decide)
        have cs : (m + 1) % 4 = 0 ∨ (m + 1) % 4 = 1 ∨ (m + 1) % 4 = 2 ∨ (m + 1) % 4 = 3 := by omega
        rcases cs with e | e | e | e <;> rw [e]
        · exact ⟨_, atI_nat (j := 0) rfl, by decide, by decide⟩
        · exact ⟨_, atI_nat (j := 1) rfl, by decide, by decide⟩
        · exact ⟨_, atI_nat (j := 2) rfl, by decide, by decide⟩
        · exact ⟨_, atI_nat (j := 3) rfl, by decide, by decide⟩
      obtain ⟨p, hp, p0, p1⟩ := hn4
      refine st_seq (s_asg (i := 4) (v := .int p) ?_ fun H4 e4 => ?_)
      · intro Ha ea Qa ka
        refine el_lst (ea_cons ev_c (ea_cons ev_c (ea_cons ev_c (ea_cons ev_c ea_nil)))) (by show 4 ≤ 100000; decide) Ha (Ex.refl Ha) _ fun l Hb _ eb hl => ?_
        exact ⟨_, rfl, m + 1, 4, rfl, rfl, (show (0 : Int) < 4 by decide), l, _, _, _, rfl, rfl, sq_of hl, hp, ka Hb eb⟩
      have d4 := e4 d _ d3
      dsimp only
      have m0 : (0 : Int) ≤ m + 1 := by omega
      refine st_seq (s_asg (i := 5) (v := .int ((b + 7919 * (m + 1) * (m + 1) + 65537 * (m + 1)) % p)) (ev_op (ev_op (ev_op (ev_op (ev_var rfl) ev_c (rv_ixL (sq_of d4) (at1 _ _ _))) (ev_op (ev_op ev_c (ev_var rfl) (rv_I (.inl ⟨by decide, by decide⟩))) (ev_var rfl) (rv_I (.inr ⟨by omega, by omega⟩))) rv_I0) (ev_op ev_c (ev_var rfl) (rv_I (.inl ⟨by decide, by decide⟩))) rv_I0) (ev_var rfl) (rv_I p0)) fun H5 e5 => ?_)
      generalize hy : (b + 7919 * (m + 1) * (m + 1) + 65537 * (m + 1)) % p = y
      have y0 : 0 ≤ y := by rw [← hy]; exact Int.emod_nonneg _ (by omega)
      have y1 : y < p := by rw [← hy]; exact Int.emod_lt_of_pos _ p0
      dsimp only
      refine st_seq (s_asg (i := 5) (v := .int (y ^ (5 : Int).toNat % p)) (ev_op (ev_op (ev_var rfl) ev_c (rv_I ⟨by decide, by decide, by omega⟩)) (ev_var rfl) (rv_I p0)) fun H6 e6 => ?_)
      generalize hz : y ^ (5 : Int).toNat % p = z
      have z0 : 0 ≤ z := by rw [← hz]; exact Int.emod_nonneg _ (by omega)
      have z1 : z < p := by rw [← hz]; exact Int.emod_lt_of_pos _ p0
      dsimp only
      refine s_ret (v := .int ((z / 4099 + z / 1000003 * 7) % many)) (ev_op (ev_op (ev_op (ev_var rfl) ev_c (rv_I ⟨by decide, by decide⟩)) (ev_op (ev_op (ev_var rfl) ev_c (rv_I ⟨by decide, by decide⟩)) ev_c (rv_I (.inr ⟨by decide, by decide⟩))) rv_I0) (ev_var rfl) (rv_I h0)) fun H7 e7 => ?_
      have e47 := ((e4.trans e5).trans e6).trans e7
      exact q H7 _ (o3.trans (Off.of e47)) ⟨g, b, m + 1, e47 d _ d3, hg0, hg1, hb0, hb1, m0, by omega⟩ (Int.emod_nonneg _ (by omega)) (Int.emod_lt_of_pos _ h0)
end
end Pg
/-! The greedy pages are the best of all sets. -/
namespace Pk
open Pg
def setsOf {α : Type} (l : List α) : List (List α) := l.foldl (fun f x => f ++ f.map (· ++ [x])) [[]]
theorem setsOf_snoc {α : Type} (l : List α) (x : α) : setsOf (l ++ [x]) = setsOf l ++ (setsOf l).map (· ++ [x]) := by
  unfold setsOf
  rw [List.foldl_append]
  rfl
theorem setsOf_len {α : Type} : ∀ (n : Nat) (l : List α), l.length = n → (setsOf l).length = 2 ^ n
  | 0, l, h => by
    have : l = [] := List.length_eq_zero_iff.mp h
    subst this
    rfl
  | n + 1, l, h => by
    rcases List.eq_nil_or_concat l with e | ⟨l', b, e⟩
    · rw [e] at h
      cases h
    · rw [List.concat_eq_append] at e
      subst e
      rw [List.length_append] at h
      have hl : l'.length = n := by simpa using h
      rw [setsOf_snoc, List.length_append, List.length_map, setsOf_len n l' hl, Nat.pow_succ]
      omega
theorem mem_sets {α : Type} : ∀ (n : Nat) (l s : List α), l.length = n → (s ∈ setsOf l ↔ s.Sublist l)
  | 0, l, s, h => by
    have : l = [] := List.length_eq_zero_iff.mp h
    subst this
    show s ∈ [[]] ↔ _
    rw [List.mem_singleton, List.sublist_nil]
  | n + 1, l, s, h => by
    rcases List.eq_nil_or_concat l with e | ⟨l', b, e⟩
    · rw [e] at h
      cases h
    · rw [List.concat_eq_append] at e
      subst e
      rw [List.length_append] at h
      have hl : l'.length = n := by simpa using h
      have ih := fun t => mem_sets n l' t hl
      rw [setsOf_snoc, List.mem_append, List.mem_map, ih s, List.sublist_append_iff]
      constructor
      · rintro (h1 | ⟨t, ht, rfl⟩)
        · exact ⟨s, [], by simp, h1, List.nil_sublist _⟩
        · exact ⟨t, [b], rfl, (ih t).mp ht, List.Sublist.refl _⟩
      · rintro ⟨s1, s2, rfl, h1, h2⟩
        cases h2 with
        | cons _ h3 =>
          cases h3
          left
          simpa using h1
        | cons_cons _ h3 =>
          cases h3
          right
          exact ⟨s1, (ih s1).mpr h1, rfl⟩
abbrev Key := Int × Int × List Int
def lexL : List Int → List Int → Bool
  | [], [] => false
  | [], _ :: _ => true
  | _ :: _, [] => false
  | x :: xs, y :: ys => if x = y then lexL xs ys else decide (x < y)
def kLt (a b : Key) : Bool := if a.1 = b.1 then (if a.2.1 = b.2.1 then lexL a.2.2 b.2.2 else decide (a.2.1 < b.2.1)) else decide (a.1 < b.1)
theorem lexL_tri : ∀ a b : List Int, lexL a b = false → a ≠ b → lexL b a = true
  | [], [], _, h => absurd rfl h
  | [], _ :: _, h, _ => by cases h
  | _ :: _, [], _, _ => rfl
  | x :: xs, y :: ys, h, ne => by
    unfold lexL at h ⊢
    by_cases e : x = y
    · subst e
      rw [if_pos rfl] at h ⊢
      exact lexL_tri xs ys h fun e => ne (by rw [e])
    · rw [if_neg e] at h
      rw [if_neg fun z => e z.symm]
      have := of_decide_eq_false h
      exact decide_eq_true (by omega)
theorem kLt_tri (a b : Key) (h : kLt a b = false) (ne : a ≠ b) : kLt b a = true := by
  obtain ⟨a1, a2, a3⟩ := a
  obtain ⟨b1, b2, b3⟩ := b
  unfold kLt at h ⊢
  dsimp only at h ⊢
  by_cases e1 : a1 = b1
  · subst e1
    rw [if_pos rfl] at h ⊢
    by_cases e2 : a2 = b2
    · subst e2
      rw [if_pos rfl] at h ⊢
      exact lexL_tri _ _ h fun e => ne (by rw [e])
    · rw [if_neg e2] at h
      rw [if_neg fun z => e2 z.symm]
      have := of_decide_eq_false h
      exact decide_eq_true (by omega)
  · rw [if_neg e1] at h
    rw [if_neg fun z => e1 z.symm]
    have := of_decide_eq_false h
    exact decide_eq_true (by omega)
/-- the first of the least -/
def bestStep (b : Option Key) (k : Key) : Option Key := some (match b with | none => k | some b => if kLt k b then k else b)
def bestK (l : List Key) : Option Key := l.foldl bestStep none
theorem best_stay {g : Key} : ∀ l : List Key, (∀ k ∈ l, kLt k g = false) → l.foldl bestStep (some g) = some g
  | [], _ => rfl
  | k :: r, h => by
    show r.foldl bestStep (some (if kLt k g then k else g)) = _
    rw [h k List.mem_cons_self]
    exact best_stay r fun k hk => h k (List.mem_cons_of_mem _ hk)
theorem best_get {g : Key} : ∀ (l : List Key) (b : Option Key), (∀ k ∈ l, kLt k g = false) → (∀ x, b = some x → kLt x g = false) → g ∈ l → l.foldl bestStep b = some g
  | k :: r, b, h, hb, hm => by
    have hr := fun k' hk => h k' (List.mem_cons_of_mem k hk)
    by_cases e : k = g
    · subst e
      have st : bestStep b k = some k := by
        unfold bestStep
        cases b with
        | none => rfl
        | some x =>
          dsimp only
          by_cases ex : x = k
          · rw [ex]
            split <;> rfl
          · rw [kLt_tri x k (hb x rfl) ex]
            rfl
      show r.foldl bestStep (bestStep b k) = _
      rw [st]
      exact best_stay r hr
    · have hm2 : g ∈ r := by
        rcases List.mem_cons.mp hm with z | z
        · exact absurd z.symm e
        · exact z
      show r.foldl bestStep (bestStep b k) = _
      refine best_get r _ hr (fun x hx => ?_) hm2
      unfold bestStep at hx
      have hx := Option.some.inj hx
      cases b with
      | none =>
        subst hx
        exact h k List.mem_cons_self
      | some y =>
        dsimp only at hx
        by_cases z : kLt k y = true
        · rw [if_pos z] at hx
          subst hx
          exact h k List.mem_cons_self
        · rw [if_neg z] at hx
          subst hx
          exact hb y rfl
/-! ### sums of the first ones -/
theorem sum_take_le {α : Type} (f : α → Int) : ∀ (l s : List α), l.Pairwise (fun a b => f a ≤ f b) → s.Sublist l → ((l.take s.length).map f).sum ≤ (s.map f).sum
  | _, [], _, _ => by simp
  | [], x :: s, _, h => by cases h
  | a :: l, x :: s, hp, h => by
    obtain ⟨h1, h2⟩ := List.pairwise_cons.mp hp
    cases h with
    | cons _ h' =>
      have hx : x ∈ l := h'.mem List.mem_cons_self
      have ih := sum_take_le f l s h2 ((List.sublist_cons_self x s).trans h')
      have := h1 x hx
      simp only [List.length_cons, List.take_succ_cons, List.map_cons, List.sum_cons]
      omega
    | cons_cons _ h' =>
      have ih := sum_take_le f l s h2 h'
      simp only [List.length_cons, List.take_succ_cons, List.map_cons, List.sum_cons]
      omega
/-- the greedy ones are a first part, as long as can be -/
theorem taken_take {B : Int} : ∀ (l : List (Int × Int)) (left : Int) (c : Nat), taken B left c l = l.take (taken B left c l).length
  | [], _, _ => rfl
  | p :: r, left, c => by
    rw [taken_cons]
    split
    · rfl
    · rw [List.length_cons, List.take_succ_cons, ← taken_take r]
theorem taken_most {B : Int} : ∀ (l : List (Int × Int)) (left : Int) (c k : Nat), (∀ p ∈ l, 1 ≤ p.1) → k ≤ l.length → (c : Int) + k ≤ B → paid (l.take k) ≤ left → k ≤ (taken B left c l).length
  | _, _, _, 0, _, _, _, _ => Nat.zero_le _
  | [], _, _, k + 1, _, h, _, _ => by simp at h
  | p :: r, left, c, k + 1, hp, hk, hB, hs => by
    have hr := fun q hq => hp q (List.mem_cons_of_mem p hq)
    have hs' : p.1 + paid (r.take k) ≤ left := hs
    have nn := paid_nn (r.take k) fun q hq => hr q (List.mem_of_mem_take hq)
    rw [taken_cons, if_neg (by push_cast at hB; omega), List.length_cons]
    have ih := taken_most (B := B) r (left - p.1) (c + 1) k hr (by simpa using hk) (by push_cast at hB ⊢; omega) (by omega)
    omega
theorem taken_few {B : Int} : ∀ (l : List (Int × Int)) (left : Int) (c : Nat), (c : Int) ≤ B → (c : Int) + (taken B left c l).length ≤ B
  | [], _, _, h => by simpa [taken] using h
  | p :: r, left, c, h => by
    rw [taken_cons]
    split
    · simpa using h
    · rename_i q
      have ih := taken_few (B := B) r (left - p.1) (c + 1) (by push_cast; omega)
      rw [List.length_cons]
      push_cast at ih ⊢
      omega
/-! ### pages as binary digits -/
def pw (p : Int) : Int := 2 ^ (63 - p.toNat)
def bin (l : List Int) : Int := (l.map pw).sum
theorem pw_pos (p : Int) : 0 < pw p := Int.pow_pos (by decide)
theorem bin_nn : ∀ l : List Int, 0 ≤ bin l
  | [] => Int.le_refl 0
  | p :: r => by
    have := pw_pos p
    have := bin_nn r
    show 0 ≤ pw p + bin r
    omega
theorem pw_half {p q : Int} (hp : 0 ≤ p) (hq : q ≤ 63) (h : p < q) : 2 * pw q ≤ pw p := by
  unfold pw
  obtain ⟨d, hd⟩ : ∃ d, 63 - p.toNat = (63 - q.toNat) + (d + 1) := ⟨q.toNat - p.toNat - 1, by omega⟩
  rw [hd, Int.pow_add, Int.pow_succ]
  have h1 : (0 : Int) < 2 ^ (63 - q.toNat) := Int.pow_pos (by decide)
  have h2 : (1 : Int) ≤ 2 ^ d := Int.pow_pos (by decide)
  have h3 : (2 : Int) ^ (63 - q.toNat) * 1 ≤ 2 ^ (63 - q.toNat) * 2 ^ d := Int.mul_le_mul_of_nonneg_left h2 (Int.le_of_lt h1)
  rw [← Int.mul_assoc]
  omega
theorem bin_lt : ∀ (l : List Int), l.Pairwise (· < ·) → (∀ p ∈ l, 0 ≤ p ∧ p ≤ 63) → ∀ a ∈ l.head?, bin l < 2 * pw a
  | [], _, _, a, h => by cases h
  | [p], _, _, a, h => by
    have e : p = a := Option.some.inj h
    subst e
    have := pw_pos p
    show pw p + 0 < _
    omega
  | p :: q :: r, hp, hb, a, h => by
    have e : p = a := Option.some.inj h
    subst e
    obtain ⟨h1, h2⟩ := List.pairwise_cons.mp hp
    have ih := bin_lt (q :: r) h2 (fun x hx => hb x (List.mem_cons_of_mem _ hx)) q rfl
    have := pw_half (hb p List.mem_cons_self).1 (hb q (List.mem_cons_of_mem _ List.mem_cons_self)).2 (h1 q List.mem_cons_self)
    show pw p + bin (q :: r) < _
    omega
theorem bin_lex : ∀ (a b : List Int), a.Pairwise (· < ·) → b.Pairwise (· < ·) → (∀ p ∈ a, 0 ≤ p ∧ p ≤ 63) → (∀ p ∈ b, 0 ≤ p ∧ p ≤ 63) → a.length = b.length → lexL a b = true → bin b < bin a
  | [], [], _, _, _, _, _, h => by cases h
  | [], _ :: _, _, _, _, _, hl, _ => by cases hl
  | _ :: _, [], _, _, _, _, hl, _ => by cases hl
  | x :: xs, y :: ys, ha, hb, ba, bb, hl, h => by
    unfold lexL at h
    have ha' := (List.pairwise_cons.mp ha).2
    have hb' := (List.pairwise_cons.mp hb).2
    have ba' := fun p hp => ba p (List.mem_cons_of_mem x hp)
    have bb' := fun p hp => bb p (List.mem_cons_of_mem y hp)
    by_cases e : x = y
    · subst e
      rw [if_pos rfl] at h
      have ih := bin_lex xs ys ha' hb' ba' bb' (by simpa using hl) h
      show pw x + bin ys < pw x + bin xs
      omega
    · rw [if_neg e] at h
      have hxy := of_decide_eq_true h
      have h1 := bin_lt (y :: ys) hb bb y rfl
      have h2 := pw_half (ba x List.mem_cons_self).1 (bb y List.mem_cons_self).2 hxy
      have h3 := bin_nn xs
      show _ < pw x + bin xs
      omega
/-! ### rows as this law draws them -/
def Asc (rows : List Row) : Prop := (rows.map (·.1)).Pairwise (· < ·) ∧ ∀ r ∈ rows, 0 ≤ r.1 ∧ r.1 ≤ 63 ∧ 1 ≤ r.2.1 ∧ r.2.1 ≤ 8
def free (rows : List Row) : List Row := rows.filter fun r => !r.2.2
def keyOf (s : List Row) : Key := (0 - s.length, total s, s.map (·.1))
def sw (r : Row) : Int × Int := (r.2.1, r.1)
def fits (rows : List Row) (m : Int) (s : List Row) : Bool := decide (total s ≤ m) && decide (total rows ≤ 8 * ((rows.length : Int) - s.length))
def wt (p : Int × Int) : Int := p.1 * 18446744073709551616 - pw p.2
theorem paid_sw : ∀ s : List Row, paid (s.map sw) = total s
  | [] => rfl
  | r :: s => by
    have ih := paid_sw s
    show r.2.1 + paid (s.map sw) = r.2.1 + total s
    rw [ih]
theorem wt_sw : ∀ s : List Row, ((s.map sw).map wt).sum = total s * 18446744073709551616 - bin (s.map (·.1))
  | [] => by decide
  | r :: s => by
    have ih := wt_sw s
    show (r.2.1 * 18446744073709551616 - pw r.1) + ((s.map sw).map wt).sum = (r.2.1 + total s) * 18446744073709551616 - (pw r.1 + bin (s.map (·.1)))
    rw [ih]
    omega
theorem perm_paid {a b : List (Int × Int)} (h : a.Perm b) : paid a = paid b := perm_sum (h.map _)
theorem pw_le (p : Int) (h : 0 ≤ p) : pw p ≤ 9223372036854775808 := by
  by_cases e : p = 0
  · subst e
    decide
  · by_cases e2 : p ≤ 63
    · have := pw_half (p := 0) (q := p) (by omega) e2 (by omega)
      have e3 : pw 0 = 9223372036854775808 := by decide
      have := pw_pos p
      omega
    · unfold pw
      rw [show 63 - p.toNat = 0 by omega]
      decide
theorem wt_mono {a b : Int × Int} (ha : 0 ≤ a.2 ∧ a.2 ≤ 63) (hb : 0 ≤ b.2 ∧ b.2 ≤ 63) (h : leP a b = true) : wt a ≤ wt b := by
  simp only [leP, Bool.or_eq_true, Bool.and_eq_true, decide_eq_true_eq] at h
  have h1 := pw_pos a.2
  have h2 := pw_pos b.2
  have h3 := pw_le a.2 ha.1
  have h4 := pw_le b.2 hb.1
  unfold wt
  rcases h with h | ⟨h, h'⟩
  · omega
  · rw [h]
    by_cases e : a.2 = b.2
    · rw [e]
      omega
    · have := pw_half ha.1 hb.2 (show a.2 < b.2 by omega)
      omega
theorem bin_top {l : List Int} (h : l.Pairwise (· < ·)) (hb : ∀ p ∈ l, 0 ≤ p ∧ p ≤ 63) : bin l < 18446744073709551616 := by
  cases l with
  | nil => decide
  | cons p r =>
    have h1 := bin_lt (p :: r) h hb p rfl
    have h2 := pw_le p (hb p List.mem_cons_self).1
    omega
theorem pairs_free (rows : List Row) : pairsOf rows = (free rows).map sw := rfl
theorem loads_asc (rows : List Row) : (loads rows).Pairwise fun a b => leP a b = true := List.pairwise_mergeSort leP_trans leP_total _
/-- the greedy ones as a set of rows -/
theorem greedy_set {rows : List Row} (h : Asc rows) (m : Int) : ∃ g : List Row, g.Sublist (free rows) ∧ (g.map sw).Perm (taken (bound rows) m 0 (loads rows)) ∧ g.map (·.1) = emp rows m := by
  have hs := taken_sub (B := bound rows) (loads rows) m 0
  obtain ⟨t, ht1, ht2⟩ := List.exists_perm_sublist hs (loads_perm rows)
  rw [pairs_free] at ht2
  obtain ⟨g, hg, rfl⟩ := List.sublist_map_iff.mp ht2
  refine ⟨g, hg, ht1, ?_⟩
  refine sort_uniq ?_ ?_
  · have e : g.map (·.1) = (g.map sw).map (·.2) := by
      rw [List.map_map]
      rfl
    rw [e]
    exact ht1.map _
  · have h1 : g.Sublist rows := hg.trans List.filter_sublist
    exact ((h.1.sublist (h1.map _)).imp fun h => Int.le_of_lt h)
theorem best_of {rows : List Row} (h : Asc rows) {m : Int} (m0 : 0 ≤ m) : bestK (((setsOf (free rows)).filter (fits rows m)).map keyOf) = some (0 - ((emp rows m).length : Int), paid (taken (bound rows) m 0 (loads rows)), emp rows m) := by
  have hB : ∀ r ∈ rows, 1 ≤ r.2.1 ∧ r.2.1 ≤ 8 := fun r hr => ⟨(h.2 r hr).2.2.1, (h.2 r hr).2.2.2⟩
  have hpos := loads_pos hB
  have htl := total_le rows hB
  obtain ⟨g, g1, g2, g3⟩ := greedy_set h m
  have sub : ∀ {s : List Row}, s.Sublist (free rows) → (s.map (·.1)).Pairwise (· < ·) ∧ ∀ p ∈ s.map (·.1), 0 ≤ p ∧ p ≤ 63 := by
    intro s hs
    have h1 : s.Sublist rows := hs.trans List.filter_sublist
    refine ⟨h.1.sublist (h1.map _), fun p hp => ?_⟩
    obtain ⟨r, hr, rfl⟩ := List.mem_map.mp hp
    have := h.2 r (h1.mem hr)
    exact ⟨this.1, this.2.1⟩
  have glen : (emp rows m).length = g.length := by rw [← g3, List.length_map]
  have gT : (taken (bound rows) m 0 (loads rows)).length = g.length := by rw [← g2.length_eq, List.length_map]
  have gpaid : paid (taken (bound rows) m 0 (loads rows)) = total g := by rw [← perm_paid g2, paid_sw]
  have gk : keyOf g = (0 - ((emp rows m).length : Int), paid (taken (bound rows) m 0 (loads rows)), emp rows m) := by
    unfold keyOf
    rw [glen, gpaid, g3]
  rw [← gk]
  have few := taken_few (B := bound rows) (loads rows) m 0 (by have := bound_nn hB; omega)
  have le := taken_le (B := bound rows) (loads rows) m 0 m0
  unfold bestK
  refine best_get _ none ?_ (fun x hx => nomatch hx) ?_
  · intro k hk
    obtain ⟨s, hs, rfl⟩ := List.mem_map.mp hk
    obtain ⟨hs1, hs2⟩ := List.mem_filter.mp hs
    have hsub : s.Sublist (free rows) := (mem_sets _ _ s rfl).mp hs1
    unfold fits at hs2
    rw [Bool.and_eq_true] at hs2
    have c1 := of_decide_eq_true hs2.1
    have c2 := of_decide_eq_true hs2.2
    have hsw : (s.map sw).Sublist (pairsOf rows) := by
      rw [pairs_free]
      exact hsub.map _
    obtain ⟨s', p1, p2⟩ := List.exists_perm_sublist hsw (loads_perm rows).symm
    have sl : s'.length = s.length := by rw [p1.length_eq, List.length_map]
    have spaid : paid s' = total s := by rw [perm_paid p1, paid_sw]
    have asc1 : (loads rows).Pairwise fun a b => a.1 ≤ b.1 := (loads_asc rows).imp fun {a b} hab => by
      simp only [leP, Bool.or_eq_true, Bool.and_eq_true, decide_eq_true_eq] at hab
      omega
    have st := sum_take_le (fun p : Int × Int => p.1) (loads rows) s' asc1 p2
    have st' : paid ((loads rows).take s.length) ≤ total s := by
      rw [← spaid, ← sl]
      exact st
    have kB : (s.length : Int) ≤ bound rows := by
      unfold bound
      omega
    have kg := taken_most (B := bound rows) (loads rows) m 0 s.length hpos (by rw [← sl]; exact p2.length_le) (by omega) (by omega)
    rw [gT] at kg
    unfold kLt keyOf
    dsimp only
    by_cases e : s.length = g.length
    · rw [e, if_pos rfl]
      -- by weights
      have page : ∀ p ∈ loads rows, 0 ≤ p.2 ∧ p.2 ≤ 63 := by
        intro p hp
        have := (loads_perm rows).mem_iff.mp hp
        rw [pairs_free] at this
        obtain ⟨r, hr, rfl⟩ := List.mem_map.mp this
        have hr2 := h.2 r (List.mem_filter.mp hr).1
        exact ⟨hr2.1, hr2.2.1⟩
      have asc2 : (loads rows).Pairwise fun a b => wt a ≤ wt b := (loads_asc rows).imp_of_mem fun {a b} ha hb hab => wt_mono (page a ha) (page b hb) hab
      have w1 := sum_take_le wt (loads rows) s' asc2 p2
      rw [sl, e, ← gT, ← taken_take, perm_sum (g2.symm.map wt), perm_sum (p1.map wt), wt_sw, wt_sw] at w1
      have sb := sub hsub
      have gb := sub g1
      have b1 := bin_nn (s.map (·.1))
      have b2 := bin_top gb.1 gb.2
      have b3 := bin_nn (g.map (·.1))
      have b4 := bin_top sb.1 sb.2
      by_cases e2 : total s = total g
      · rw [if_pos e2]
        cases hl : lexL (s.map (·.1)) (g.map (·.1)) with
        | false => rfl
        | true =>
          have := bin_lex _ _ sb.1 gb.1 sb.2 gb.2 (by rw [List.length_map, List.length_map, e]) hl
          omega
      · rw [if_neg e2]
        exact decide_eq_false (by omega)
    · rw [if_neg (by omega)]
      exact decide_eq_false (by omega)
  · refine List.mem_map.mpr ⟨g, List.mem_filter.mpr ⟨(mem_sets _ _ g rfl).mpr g1, ?_⟩, rfl⟩
    unfold fits
    rw [Bool.and_eq_true]
    refine ⟨decide_eq_true (by omega), decide_eq_true ?_⟩
    rw [gT] at few
    unfold bound at few
    omega
end Pk
namespace Gd
open PySem PySem.Spec PyProof.Rows L2
/-- f(k = v, ..), keywords alone -/
theorem pe_kwOnly {X : Cx} {CX : CXT} {k : Nat} {f : Addr} {fd : FuncData} {ps ks : List Str} {sp : Sp} {E : XK} {x : Str} {p pos : Pos} {kws : List Keyword} {tk : TA} {g : List Value → List Value → List Value} {gV : List V → List V → List V}
    (F : FnOk X.prog X.w X.K X.mg X.base CX k f fd ps sp) (room : Room k X.A) (isGl : Gl X x) (at_ : X.mg x = some (.ref f)) (kept : PySem.W.keepIn X.K (.ref f) = true) (bind : KBinds X.K fd ps ks g gV) (pass : Passes CX X E)
    (words : PK X kws tk) (every : (backToKw pos (keywordEach kws X.env)).all (·.1.isSome) = true := by rfl) (names : (backToKw pos (keywordEach kws X.env)).filterMap (·.1) = ks := by rfl) (nodbg : (x == ("__debug__" : Str)) = false := by decide)
    (plain : ((backTo pos (starEach [] X.env)).any (·.1) || (backToKw pos (keywordEach kws X.env)).any (·.1.isNone)) = false := by rfl) :
    PE X (.Call (.Name x p) [] kws pos) (tCallK sp gV E tNil tk) := by
  constructor
  intro pins s σ H Q I want
  refine wpAny_Call_Name_kw (ld_glob I isGl at_ ?_ nodbg)
  refine PySem.W.callWith_KW0 (h₀ := X.base) I.ok.mod.kin kept every ?_ plain
  refine thn (words.run pos pins s σ H _ I want) ?_
  rintro ws s2 ⟨zs, H2, I2, rel, q⟩
  refine ⟨I2.kIn, ?_⟩
  rw [names]
  exact run_fnk (us := []) (vs := []) F room bind pass I2 .nil rel q
end Gd
namespace Gd
open PySem PySem.Spec PyProof.Rows L2
/-- as fng_of, where nothing leaves the body -/
theorem fng0_of {P : Program} {w : World} {K : PySem.W.Frag} {mg : Str → Option Value} {base : Heap} {k : Nat} {f : Addr} {fd : FuncData} {ps : List Str} {sp : Sp} {x qual : Str} {st : Stmt} {N : List Str} (F : Fun K x qual st f fd) (S : FnScope N ps (defScope st)) (ar : ∀ vs H Q E, sp vs H Q E → vs.length = ps.length)
    (body : ∀ (cdv : Value) (A : Around) (outer : List Env) (s : Shared) (H : Hp) (vs : List V) (Q : VK) (E : XK), Room k (A.deeper (envOfC qual (defScope st) s.heap.objs.size f cdv)) → A.guards = some [] → sp vs H Q E →
      ∃ t, PSs (cxOf CX0 P w K mg base N qual (defScope st) f cdv A outer s H E).nox (defBody st) t ∧ t { nx := fun _ H' => Q .non H', rt := Q } (start N vs) H) :
    FnG P w K mg base CX0 (k + 1) f fd ps sp :=
  fng_of F S ar fun cdv A outer s H vs Q E room gd want => by
    obtain ⟨t, d, r⟩ := body cdv A outer s H vs Q E room gd want
    exact ⟨t, d.nox, r⟩
end Gd
namespace Gd
open PySem PySem.Spec PyProof.Rows L2
/-- min(a, b) of two data that are alike: b where it is less, else a -/
theorem min_pair {prog : Program} {w : World} {A : Around} {E : Value → Shared → Prop} {s : Shared} {a b : Value} {x y : PyData} {as bs : List Addr} {Q : Value → Shared → Prop} (cold : A.handled = none) (ra : Reads s.heap a x as) (rb : Reads s.heap b y bs)
    (al : PySem.W.AlikeAll [x, y]) (room : A.units + 1 + PyData.depthAll [x, y] < cLine)
    (k : ∀ v h2 tk, (v = if PySem.W.dataLt y x = true then b else a) → (∀ c o, s.heap.get? c = some o → h2.get? c = some o) → Q v { s with heap := h2, toks := tk }) :
    wpAny (model prog w) A (call (.builtin "min") [a, b]) Q E s := by
  have nm : (toString "min" ++ toString ".loop" : String) = "min.loop" := by decide
  apply call_function_tree F.kind_min F.plain_min F.entry_min (F.args_min2 a b)
  have bp : Builtin.Builtins.bindParams "min" ["key", "default"] 0 ⟨[], []⟩ = pure [none, none] := rfl
  show wpAny _ A.in1 (Builtin.Builtins.bindParams "min" ["key", "default"] 0 ⟨[], []⟩ >>= _) _ _ _
  refine wpAny_bind (wpAny_of_eq bp ?_)
  show wpAny _ A.in1 (newTuple [a, b] >>= _) _ _ _
  refine wpAny_bind (wpAny_newObj_type ?_)
  have old : ∀ c o, s.heap.get? c = some o → (s.heap.push { cls := .type "tuple", data := .seq #[a, b] }).get? c = some o := fun c o h => Heap.get?_push_of_some _ h
  have reads : ReadsAll (s.heap.push { cls := .type "tuple", data := .seq #[a, b] }) [a, b] [x, y] _ := .cons (PySem.W.reads_keeps old ra) (.cons (PySem.W.reads_keeps old rb) .nil)
  have isT : (s.heap.push { cls := .type "tuple", data := .seq #[a, b] }).IsTuple s.heap.objs.size #[a, b] := ⟨_, Heap.get?_push_size _ rfl, rfl, _, rfl⟩
  generalize hs0 : ({ s with heap := s.heap.push { cls := .type "tuple", data := .seq #[a, b] } } : Shared) = s0
  have e0 : s0.heap = s.heap.push { cls := .type "tuple", data := .seq #[a, b] } := by rw [← hs0]
  rw [← e0] at reads isT old
  refine wpAny_bind (PySem.W.iter_tupleW (A := A.in1) (s := s0) cold isT fun s2 made W start small off keep => ?_)
  refine wpAny_bind (wpAny_newObj_type ?_)
  have far : s2.heap.objs.size ∉ [s0.heap.objs.size, s.heap.objs.size] := fun hm => Nat.lt_irrefl _ (small _ hm)
  have cmp := PySem.W.cmpIn_lt (prog := prog) (w := w) (A := A.in1) (s := s0) (vs := #[a, b]) reads al (by show A.units + 1 + _ < _; exact room)
  rw [nm]
  refine wpAny_pure ⟨plainId_quiet F.plain_min_loop _, codeAny_min_loop_firstH W s0.heap off _ cmp s2.heap.objs.size far (fresh_in keep) _ (show 0 < 2 by decide) (fun c o h => Heap.get?_push_of_some _ (keep c o h)) (W.frame 0 s2 _ s2.toks start (Nat.le_refl _) fun c _ o h => Heap.get?_push_of_some _ h) (Heap.get?_push_size _ rfl) fun v s3 at_ moved => ?_⟩
  obtain ⟨h2, tk, es, kept⟩ := PySem.W.moved_old made rfl (Moved.drop_new (tk := s2.toks) moved (Nat.le_refl _))
  subst es
  rw [← hs0]
  refine k v h2 tk ?_ fun c o h => kept c o (old c o h)
  have at2 : (#[a, b] : Array Value)[argBest (fun i j => PySem.W.dataLt ([x, y].getD i .none) ([x, y].getD j .none)) 1]? = some v := at_
  unfold argBest at at2
  cases hd : PySem.W.dataLt y x with
  | true =>
    have e : PySem.W.dataLt ([x, y].getD (0 + 1) .none) ([x, y].getD (argBest (fun i j => PySem.W.dataLt ([x, y].getD i .none) ([x, y].getD j .none)) 0) .none) = true := hd
    rw [if_pos e] at at2
    exact (Option.some.inj at2).symm
  | false =>
    have e : PySem.W.dataLt ([x, y].getD (0 + 1) .none) ([x, y].getD (argBest (fun i j => PySem.W.dataLt ([x, y].getD i .none) ([x, y].getD j .none)) 0) .none) = false := hd
    rw [if_neg (by rw [e]; decide)] at at2
    exact (Option.some.inj at2).symm
section
variable {X : Cx}
def rMinD (K : PySem.W.Frag) : List V → Hp → VK → Prop := fun xs H Q => ∃ x y d e, xs = [x, y] ∧ Dp K H x d ∧ Dp K H y e ∧ PySem.W.AlikeAll [d, e] ∧ PyData.depthAll [d, e] ≤ 20 ∧ Q (if PySem.W.dataLt e d = true then y else x) H
theorem call_minD (calm : X.calm = true) (un : X.A.units + 64 < cLine) : CallR X (.builtin "min") (rMinD X.K) := by
  rintro pins s σ H xs us Q I rel ⟨x, y, d, e, rfl, hd, he, al, dep, q⟩
  obtain ⟨u1, u2, rfl, r1, r2⟩ := vals2 rel
  obtain ⟨as, ra⟩ := Dp.reads I d x u1 hd r1
  obtain ⟨bs, rb⟩ := Dp.reads I e y u2 he r2
  refine min_pair (I.ok.hd calm) ra rb al (by omega) fun v h2 tk ev keep => ?_
  subst ev
  refine ⟨if PySem.W.dataLt e d = true then y else x, H, I.kept keep, ?_, q⟩
  split
  · exact r2
  · exact r1
end
end Gd
namespace Gd
open PySem PySem.Spec PyProof.Rows L2
/-! Facts of the data of a tuple of small ints. -/
theorem ints_show : ∀ ns : List Int, (∀ n ∈ ns, n.natAbs < 10 ^ 9) → PyData.showableAll (ns.map .int) = true
  | [], _ => rfl
  | n :: r, h => by
    rw [List.map_cons, PyData.showableAll, ints_show r fun m hm => h m (List.mem_cons_of_mem _ hm), Bool.and_true]
    rw [PyData.showable]
    refine decide_eq_true ?_
    have h1 := h n List.mem_cons_self
    by_cases z : n.natAbs = 0
    · rw [z]
      decide
    · exact Nat.lt_of_lt_of_le ((Nat.log2_lt z).mpr (Nat.lt_of_lt_of_le h1 (by decide : (10 : Nat) ^ 9 ≤ 2 ^ 30))) (by decide)
theorem ints_noDict : ∀ ns : List Int, PyData.hasDictAll (ns.map .int) = false
  | [] => rfl
  | n :: r => by
    rw [List.map_cons, PyData.hasDictAll, ints_noDict r, PyData.hasDict]
    rfl
theorem ints_depth : ∀ ns : List Int, PyData.depthAll (ns.map .int) = 0
  | [] => rfl
  | n :: r => by
    rw [List.map_cons, PyData.depthAll, ints_depth r, PyData.depth]
    rfl
theorem ints_lay : ∀ ns : List Int, PyData.canLayAll0 (ns.map .int) = true
  | [] => rfl
  | n :: r => by
    rw [List.map_cons, PyData.canLayAll0, ints_lay r, PyData.canLay0]
    rfl
theorem int_len {n : Int} (h : n.natAbs < 10 ^ 9) : ((toString n : String) : Str).length ≤ 10 := by
  have e := int_text_length_le10 (a := n) (k := 9) (by decide) h
  rw [PySem.ofString_length]
  exact e
theorem ints_piled : ∀ ns : List Int, (∀ n ∈ ns, n.natAbs < 10 ^ 9) → piled (PyData.shownAll (ns.map .int)) ≤ 12 * ns.length
  | [], _ => Nat.le_refl _
  | n :: r, h => by
    have ih := ints_piled r fun m hm => h m (List.mem_cons_of_mem _ hm)
    have h1 := int_len (h n List.mem_cons_self)
    rw [List.map_cons, PyData.shownAll, piled_cons, PyData.shown, List.length_cons]
    omega
theorem tupI_facts {ns : List Int} (h : ∀ n ∈ ns, n.natAbs < 10 ^ 9) (hl : ns.length ≤ 1000000) : (PyData.tuple (ns.map .int)).showable = true ∧ (PyData.tuple (ns.map .int)).hasDict = false ∧ (PyData.tuple (ns.map .int)).depth ≤ 40 ∧ (PyData.tuple (ns.map .int)).shown.length ≤ sizeLine := by
  refine ⟨?_, ?_, ?_, ?_⟩
  · rw [PyData.showable]
    exact ints_show ns h
  · rw [PyData.hasDict]
    exact ints_noDict ns
  · rw [PyData.depth, ints_depth]
    decide
  · rw [PyData.shown]
    have h1 := fmt_text (PyData.shownAll (ns.map .int))
    have h2 := ints_piled ns h
    have h3 : sizeLine = 2 ^ 24 := rfl
    omega
theorem tupI_shaped (ns : List Int) : SeqAt.shaped (PyData.tuple (ns.map .int)) = true := by
  unfold SeqAt.shaped
  rw [PyData.canLay0, ints_lay, PyData.depth, ints_depth]
  rfl
theorem tupI_eqv (ns : List Int) : PyData.eqv (PyData.tuple (ns.map .int)) (PyData.tuple (ns.map .int)) = true := PySem.SeqAt.eqv_refl _ (by rw [PyData.canLay0]; exact ints_lay ns)
theorem dp_ints {K : PySem.W.Frag} {H : Hp} : ∀ ns : List Int, DpAll K H (ns.map V.int) (ns.map .int)
  | [] => .nil
  | n :: r => .cons (.int n) (dp_ints r)
theorem dp_tupI {K : PySem.W.Frag} {H : Hp} {p : Addr} {ns : List Int} (h : SqT K H p (ns.map V.int)) : Dp K H (.ref p) (.tuple (ns.map .int)) := .tup h (dp_ints ns)
end Gd
namespace Pg
open PySem PySem.Spec PyProof.Rows L2 Evl Gd
theorem Off.mut {d p : Addr} {H H' : Hp} {o : HO} (e : Off d H H') (h : H p = none) : Off d H (L2.upd H' p o) := fun a u n ha => by
  rw [upd_ne (ne_of_none ha h)]
  exact e a u n ha
theorem Pot.ne {H : Hp} {d p : Addr} {n : Int} (h : Pot H d n) (hp : H p = none) : p ≠ d := fun e => by
  obtain ⟨g, b, m, h0, _⟩ := h
  rw [e, h0] at hp
  cases hp
theorem Pot.neT {H : Hp} {d p : Addr} {n : Int} {xs : List V} (h : Pot H d n) (hp : H p = some (.tup xs)) : p ≠ d := fun e => by
  obtain ⟨g, b, m, h0, _⟩ := h
  rw [e, h0] at hp
  cases hp
theorem Off.ex {d : Addr} {H H' : Hp} (h : H d = none) (o : Off d H H') : Ex H H' := fun a u e => o a u (ne_of_none e h) e
theorem Off.rd {d a : Addr} {H H' : Hp} {n : Int} {u : HO} (pot : Pot H d n) (o : Off d H H') (hu : ∀ xs, u ≠ .lst xs) (h : Rd H a u) : Rd H' a u := by
  obtain ⟨g, b, m, h0, _⟩ := pot
  rcases h with h | ⟨x, h⟩
  · refine .inl (o a _ (fun e => ?_) h)
    rw [e, h0] at h
    exact hu _ (Option.some.inj h).symm
  · refine .inr ⟨x, o a _ (fun e => ?_) h⟩
    rw [e, h0] at h
    cases h
theorem Off.sqt {K : PySem.W.Frag} {d a : Addr} {H H' : Hp} {n : Int} {xs : List V} (pot : Pot H d n) (o : Off d H H') (h : SqT K H a xs) : SqT K H' a xs := by
  rcases h with h | h
  · exact .inl (o.rd pot (fun _ e => nomatch e) h)
  · exact .inr h
theorem RowsAt.off {K : PySem.W.Frag} {d a : Addr} {H H' : Hp} {n : Int} {rs : List (Addr × Row)} (pot : Pot H d n) (o : Off d H H') (h : RowsAt K H a rs) : RowsAt K H' a rs :=
  ⟨o.sqt pot h.1, fun r hr => o.sqt pot (h.2 r hr)⟩
/-- f(d, many) -/
theorem rd_below {σ : L2.St} {H : Hp} {E : XK} {td tm : TE} {d : Addr} {n many : Int} {Q : VK} (hd : Ev td σ H (.ref d)) (hm : Ev tm σ H (.int many)) (hP : Pot H d n) (h1 : n ≤ 1000000) (h2 : 0 < many) (h3 : many ≤ 1000000)
    (k : ∀ H' r, Off d H H' → Pot H' d (n + 1) → 0 ≤ r → r < many → Q (.int r) H') : tCall spBelow [] E (tCons td (tCons tm tNil)) σ H Q := by
  refine hd H (Ex.refl H) _ fun H1 e1 => hm H1 e1 _ fun H2 e2 => ?_
  exact ⟨d, n, many, rfl, hP.ex (e1.trans e2), h1, h2, h3, fun H' r o p a b => k H' r ((Off.of (e1.trans e2)).trans o) p a b⟩
abbrev sPick : Stmt := topS 6
abbrev sSets : Stmt := topS 7
abbrev sBest : Stmt := topS 8
abbrev sRows : Stmt := topS 9
theorem scPick : FnScope ["_law_draws_here", "_law_items"] ["_law_draws_here", "_law_items"] (defScope sPick) := ⟨rfl, rfl, rfl, by decide +kernel, rfl, by decide +kernel, by decide +kernel⟩
abbrev nSets : List Str := ["_law_some", "_law_found", "_law_one", "_law_row"]
theorem scSets : FnScope nSets ["_law_some"] (defScope sSets) := ⟨rfl, rfl, rfl, by decide +kernel, rfl, by decide +kernel, by decide +kernel⟩
abbrev nRows : List Str := ["_law_draws_here", "_law_found", "_law_page", "_law_turn", "_law_many"]
theorem scRows : FnScope nRows ["_law_draws_here"] (defScope sRows) := ⟨rfl, rfl, rfl, by decide +kernel, rfl, by decide +kernel, by decide +kernel⟩
def spPick : Sp := fun vs H Q _ => ∃ (d l : Addr) (n : Int) (ns : List Int), vs = [.ref d, .ref l] ∧ Pot H d n ∧ n ≤ 1000000 ∧ l ≠ d ∧ H l = some (.lst (ns.map V.int)) ∧ 0 < ns.length ∧ ns.length ≤ 1000 ∧
  ∀ H' v, v ∈ ns → Off d H H' → Pot H' d (n + 1) → Q (.int v) H'
def spSets : Sp := fun vs H Q _ => ∃ (l : Addr) (us : List Addr), vs = [.ref l] ∧ H l = some (.lst (us.map V.ref)) ∧ us.length ≤ 10 ∧
  ∀ H' p (ss : List (Addr × List Addr)), Ex H H' → H' p = some (.lst (ss.map fun s => V.ref s.1)) → (∀ s ∈ ss, H' s.1 = some (.lst (s.2.map V.ref))) → ss.map (·.2) = Pk.setsOf us → Q (.ref p) H'
def spRows (K : PySem.W.Frag) : Sp := fun vs H Q _ => ∃ (d : Addr) (n : Int), vs = [.ref d] ∧ Pot H d n ∧ n ≤ 900000 ∧
  ∀ H' a rs, Off d H H' → Pot H' d (n + 200) → RowsAt K H' a rs → rs.length ≤ 8 → Pk.Asc (rs.map (·.2)) → Q (.ref a) H'
section
variable {P : Program} {w : World} {K : PySem.W.Frag} {mg : Str → Option Value} {base : Heap}
theorem ok_pick {f fB : Addr} {fd fdB : FuncData} (F : Fun K "_law_pick" "_law_pick" sPick f fd) (FB : Fun K "_law_below" "_law_below" sBelow fB fdB) (bB : Binds K fdB ["_law_draws_here", "_law_many"] []) (gB : mg "_law_below" = some (.ref fB)) (mL : mg "len" = none) :
    FnOk P w K mg base CX0 2 f fd ["_law_draws_here", "_law_items"] spPick := by
  have GB : FnOk P w K mg base CX0 1 fB fdB ["_law_draws_here", "_law_many"] spBelow := ok_below FB
  refine F.ok scPick (fun vs H Q E h => ?_) (fun cdv A outer s H vs Q E hr h => ?_)
  · obtain ⟨d, l, n, ns, rfl, _⟩ := h
    rfl
  · obtain ⟨d, l, n, ns, rfl, hP, hn, hne, hl, h0, h1, q⟩ := h
    refine ⟨_, pss_one (ps_ret (pe_ix ix_list (pv 1) (pe_call GB hr (by rfl) gB FB.kp bB .nil pass0 (pa_cons (pv 0) (pa_cons (pe_callB call_len_seq (by rfl) mL PySem.boot_len (pa_cons (pv 1) pa_nil)) pa_nil))) (fun _ _ => rfl))), ?_⟩
    refine ⟨_, rfl, ?_⟩
    have hL : ((ns.map V.int).length : Int) = ns.length := by rw [List.length_map]
    refine rd_below (ev_var rfl) (ev_len (ev_var rfl) (sq_of hl)) hP hn (by omega) (by omega) fun H' r off pot r0 r1 => ?_
    obtain ⟨j, hj⟩ : ∃ j : Nat, r = j := ⟨r.toNat, by omega⟩
    subst hj
    have hj : j < ns.length := by omega
    refine ⟨l, _, _, .int ns[j], rfl, rfl, sq_of (off _ _ hne hl), atI_nat ?_, ?_⟩
    · rw [List.getElem?_map, List.getElem?_eq_getElem hj]
      rfl
    · exact q H' _ (List.getElem_mem hj) off pot
theorem ok_sets {f : Addr} {fd : FuncData} (F : Fun K "_law_sets" "_law_sets" sSets f fd) : FnOk P w K mg base CX0 1 f fd ["_law_some"] spSets := by
  refine F.ok scSets (fun vs H Q E h => ?_) (fun cdv A outer s H vs Q E hr h => ?_)
  · obtain ⟨l, us, rfl, _⟩ := h
    rfl
  · obtain ⟨l, us, rfl, hl, hz, q⟩ := h
    refine ⟨_, pss_cons (ps_set (i := 1) scSets.nd rfl (.inl rfl) (pe_lst (pa_cons (pe_lst pa_nil) pa_nil)))
      (pss_cons (ps_for PassesOwn.never rfl (pi_list (pv 0)) (pg_name (i := 2) scSets.nd rfl (.inr rfl))
        (pss_one (ps_set (i := 1) scSets.nd rfl (.inl rfl) (pe_op op_cat (pv 1) (pe_lc (own := [("_law_row", 3)]) (g := gName 3) (tt := tYes) (te := tOp rCat (tVar 3) (tLst (tCons (tVar 2) tNil))) rfl scSets.nd (pi_list (pv 1)) (blkOk_by (N := nSets) (sc := defScope sSets) (by decide +kernel))
          (fun _ _ _ _ _ => pg_name (i := 3) scSets.nd rfl (.inl rfl)) (fun _ _ _ _ _ => pts_nil) (fun _ _ _ _ _ => pe_op op_cat (pv 3) (pe_lst (pa_cons (pv 2) pa_nil))))))))
      (pss_one (ps_ret (pv 1)))), ?_⟩
    refine ⟨Nat.zero_le _, fun p0 hp0 => ?_⟩
    have e0 : Ex H (upd H p0 (.lst [])) := Ex.new hp0
    refine ⟨by show 1 ≤ sizeLine; decide, fun p1 hp1 => ?_⟩
    have e1 : Ex (upd H p0 (.lst [])) (upd (upd H p0 (.lst [])) p1 (.lst [V.ref p0])) := Ex.new hp1
    dsimp only [gName]
    refine st_seq (s_forL (a := l) (xs := us.map V.ref) (ev_var rfl) (sq_of (e1 _ _ (e0 _ _ hl))) (fun i σ' H' => ∃ p y2 y3, σ' = [some (.ref l), some (.ref p), y2, y3] ∧ Ex H H' ∧ ∃ ss : List (Addr × List Addr), H' p = some (.lst (ss.map fun s => V.ref s.1)) ∧ (∀ s ∈ ss, H' s.1 = some (.lst (s.2.map V.ref))) ∧ ss.map (·.2) = Pk.setsOf (us.take i))
      (fun H2 e2 => ?_) (fun i σ' H' _ p => ?_) (fun i x σ' H' hx p => ?_) (fun σ' H' p => ?_))
    · refine ⟨p1, none, none, rfl, (e0.trans e1).trans e2, [(p0, [])], e2 _ _ upd_same, fun s hs => ?_, rfl⟩
      have := List.mem_singleton.mp hs
      subst this
      exact e2 _ _ (e1 _ _ upd_same)
    · obtain ⟨_, _, _, _, e, _⟩ := p
      exact sq_of (e _ _ hl)
    · obtain ⟨p, y2, y3, rfl, e, ss, h1, h2, h3⟩ := p
      have hi : i < us.length := by
        have := (List.getElem?_eq_some_iff.mp hx).1
        rwa [List.length_map] at this
      rw [List.getElem?_map, List.getElem?_eq_getElem hi] at hx
      have ex : x = .ref us[i] := (Option.some.inj hx).symm
      subst ex
      have hsl : ss.length ≤ 1024 := by
        have := congrArg List.length h3
        rw [List.length_map, Pk.setsOf_len _ _ rfl, List.length_take] at this
        rw [this]
        exact Nat.le_trans (Nat.pow_le_pow_right (by decide) (show min i us.length ≤ 10 by omega)) (by decide)
      have small : ∀ s ∈ ss, s.2.length ≤ 10 := by
        intro s hs
        have hm : s.2 ∈ Pk.setsOf (us.take i) := by
          rw [← h3]
          exact List.mem_map.mpr ⟨s, hs, rfl⟩
        have := ((Pk.mem_sets _ _ _ rfl).mp hm).length_le
        rw [List.length_take] at this
        omega
      dsimp only [gName]
      -- found + [row + [one] for row in found]
      refine ⟨_, rfl, ?_⟩
      refine ⟨.ref p, rfl, p, rfl, ⟨_, sq_of h1⟩, fun D hD => lc_list (xs := ss.map fun s => V.ref s.1) (fun n H1 => Ex H' H1 ∧ ∃ ts : List (Addr × List Addr), H1 D = some (.lst (ts.map fun s => V.ref s.1)) ∧ (∀ s ∈ ts, s.1 ≠ D ∧ H1 s.1 = some (.lst (s.2.map V.ref))) ∧ ts.map (·.2) = (ss.take n).map (fun s => s.2 ++ [us[i]]))
        ⟨Ex.new hD, [], upd_same, fun s hs => absurd hs List.not_mem_nil, rfl⟩ (fun n H1 _ p => sq_of (p.1 _ _ h1)) ?_ ?_⟩
      · rintro n x H1 hx ⟨e1, ts, t1, t2, t3⟩
        rw [List.getElem?_map] at hx
        cases hg : ss[n]? with
        | none => rw [hg] at hx; cases hx
        | some s =>
          rw [hg] at hx
          have ex : x = .ref s.1 := (Option.some.inj hx).symm
          subst ex
          have hs := List.mem_of_getElem? hg
          have hn := (List.getElem?_eq_some_iff.mp hg).1
          refine ⟨rfl, ?_⟩
          unfold tYes
          dsimp only
          rw [if_pos rfl]
          refine ⟨_, rfl, _, rfl, by show 1 ≤ sizeLine; decide, fun b hb => ?_⟩
          have eb : Ex H1 (upd H1 b (.lst [V.ref us[i]])) := Ex.new hb
          refine ⟨s.1, b, s.2.map V.ref, [V.ref us[i]], rfl, rfl, eb _ _ (e1 _ _ (h2 s hs)), upd_same, sz_of (by have := small s hs; simp; omega), fun c hc => ?_⟩
          have ec : Ex (upd H1 b (.lst [V.ref us[i]])) (upd (upd H1 b (.lst [V.ref us[i]])) c (.lst (s.2.map V.ref ++ [V.ref us[i]]))) := Ex.new hc
          have ebc := eb.trans ec
          have hcc : (upd (upd H1 b (.lst [V.ref us[i]])) c (.lst (s.2.map V.ref ++ [V.ref us[i]]))) c = some (.lst (s.2.map V.ref ++ [V.ref us[i]])) := upd_same
          have cD : c ≠ D := fun e => by
            rw [e, eb _ _ t1] at hc
            cases hc
          generalize upd (upd H1 b (.lst [V.ref us[i]])) c (.lst (s.2.map V.ref ++ [V.ref us[i]])) = H2 at ec ebc hcc ⊢
          have tl : ts.length ≤ 1024 := by
            have := congrArg List.length t3
            rw [List.length_map, List.length_map, List.length_take] at this
            omega
          refine ⟨_, ebc _ _ t1, sz_lt (by rw [List.length_map]; omega), Ex.mut (e1.trans ebc) hD, ts ++ [(c, s.2 ++ [us[i]])], ?_, ?_, ?_⟩
          · rw [upd_same, List.map_append]
            rfl
          · intro t ht
            rcases List.mem_append.mp ht with m | m
            · refine ⟨(t2 t m).1, ?_⟩
              rw [upd_ne (t2 t m).1]
              exact ebc _ _ (t2 t m).2
            · have := List.mem_singleton.mp m
              subst this
              refine ⟨cD, ?_⟩
              rw [upd_ne cD, hcc, List.map_append]
              rfl
          · rw [List.map_append, t3, take_succ_map _ hg]
            rfl
      · rintro H1 ⟨e1, ts, t1, t2, t3⟩
        have el : ss.take (ss.map fun s => V.ref s.1).length = ss := List.take_of_length_le (by rw [List.length_map]; omega)
        rw [el] at t3
        have tl : ts.length ≤ 1024 := by
          have := congrArg List.length t3
          rw [List.length_map, List.length_map] at this
          omega
        refine ⟨p, D, _, _, rfl, rfl, e1 _ _ h1, t1, sz_of (by rw [List.length_map, List.length_map]; omega), fun c hc => ?_⟩
        have ec : Ex H1 (upd H1 c (.lst ((ss.map fun s => V.ref s.1) ++ ts.map fun s => V.ref s.1))) := Ex.new hc
        dsimp only [gName]
        refine ⟨c, _, _, rfl, e.trans (e1.trans ec), ss ++ ts, ?_, ?_, ?_⟩
        · rw [upd_same, List.map_append]
        · intro t ht
          rcases List.mem_append.mp ht with m | m
          · exact (e1.trans ec) _ _ (h2 t m)
          · exact ec _ _ (t2 t m).2
        · rw [List.map_append, h3, t3, List.take_add_one, List.getElem?_eq_getElem hi]
          show _ = Pk.setsOf (us.take i ++ [us[i]])
          rw [Pk.setsOf_snoc, ← h3, List.map_map]
          rfl
    · obtain ⟨p, y2, y3, rfl, e, ss, h1, h2, h3⟩ := p
      dsimp only
      refine s_ret (v := .ref p) (ev_var rfl) fun H2 e2 => ?_
      rw [List.length_map, List.take_length] at h3
      exact q H2 p ss (e.trans e2) (e2 _ _ h1) (fun s hs => e2 _ _ (h2 s hs)) h3
end
end Pg
namespace Pg
open PySem PySem.Spec PyProof.Rows L2 Evl Gd
section
variable {P : Program} {w : World} {K : PySem.W.Frag} {mg : Str → Option Value} {base : Heap}
/-- pick(d, a new list) -/
theorem rd_pick {σ : L2.St} {H : Hp} {E : XK} {td tl : TE} {d : Addr} {n : Int} {Q : VK} (hd : Ev td σ H (.ref d))
    (hl : ∀ H1, Ex H H1 → ∀ Q1 : VK, (∀ H2 l k (ns : List Int), Off d H1 H2 → Pot H2 d (n + k) → 0 ≤ k → k ≤ 5 → l ≠ d → H2 l = some (.lst (ns.map V.int)) → 0 < ns.length → ns.length ≤ 1000 → (∀ H3 v, v ∈ ns → Off d H2 H3 → Pot H3 d (n + 6) → Q (.int v) H3) → Q1 (.ref l) H2) → tl σ H1 Q1)
    (h1 : n ≤ 999990) : tCall spPick [] E (tCons td (tCons tl tNil)) σ H Q := by
  refine hd H (Ex.refl H) _ fun H1 e1 => hl H1 e1 _ fun H2 l k ns off pot k0 k1 ne h2 z0 z1 q => ?_
  exact ⟨d, l, n + k, ns, rfl, pot, by omega, ne, h2, z0, z1, fun H3 v hv o p => q H3 v hv o (p.up (by omega))⟩
theorem ok_rows {f fB fP : Addr} {fd fdB fdP : FuncData} (F : Fun K "_law_rows" "_law_rows" sRows f fd) (FB : Fun K "_law_below" "_law_below" sBelow fB fdB) (FP : Fun K "_law_pick" "_law_pick" sPick fP fdP)
    (bB : Binds K fdB ["_law_draws_here", "_law_many"] []) (bP : Binds K fdP ["_law_draws_here", "_law_items"] []) (gB : mg "_law_below" = some (.ref fB)) (gP : mg "_law_pick" = some (.ref fP))
    (mR : mg "range" = none) (mT : mg "tuple" = none) (mL : mg "len" = none) : FnOk P w K mg base CX0 3 f fd ["_law_draws_here"] (spRows K) := by
  have GB : FnOk P w K mg base CX0 2 fB fdB ["_law_draws_here", "_law_many"] spBelow := (ok_below FB).mono (by decide)
  have GP : FnOk P w K mg base CX0 2 fP fdP ["_law_draws_here", "_law_items"] spPick := ok_pick FP FB bB gB mL
  refine F.ok scRows (fun vs H Q E h => ?_) (fun cdv A outer s H vs Q E hr h => ?_)
  · obtain ⟨a, n, rfl, _⟩ := h
    rfl
  · obtain ⟨d, n, rfl, hP, hn, q⟩ := h
    refine ⟨_, pss_cons (ps_par (i := 1) (j := 2) rfl scRows.nd rfl rfl (by decide) rfl rfl (pa_cons (pe_lst pa_nil) (pa_cons pe_int pa_nil)) (by rfl))
      (pss_cons (ps_for PassesOwn.never rfl (pi_range1 (by rfl) mR (pa_cons (pe_call GB hr (by rfl) gB FB.kp bB .nil pass0 (pa_cons (pv 0) (pa_cons pe_int pa_nil))) pa_nil)) (pg_name (i := 3) scRows.nd rfl (.inl rfl))
        (pss_cons (ps_set (i := 2) scRows.nd rfl (.inl rfl) (pe_op op_add (pe_op op_add (pv 2) pe_int) (pe_call GP hr (by rfl) gP FP.kp bP .nil pass0 (pa_cons (pv 0) (pa_cons (pe_lst (pa_cons pe_int (pa_cons pe_int (pa_cons (pe_call GB hr (by rfl) gB FB.kp bB .nil pass0 (pa_cons (pv 0) (pa_cons pe_int pa_nil))) pa_nil)))) pa_nil)))))
        (pss_cons (ps_set (i := 4) scRows.nd rfl (.inl rfl) (pe_op op_add pe_int (pe_call GP hr (by rfl) gP FP.kp bP .nil pass0 (pa_cons (pv 0) (pa_cons (pe_lst (pa_cons (pe_call GB hr (by rfl) gB FB.kp bB .nil pass0 (pa_cons (pv 0) (pa_cons pe_int pa_nil))) (pa_cons (pe_call GB hr (by rfl) gB FB.kp bB .nil pass0 (pa_cons (pv 0) (pa_cons pe_int pa_nil))) (pa_cons pe_int pa_nil)))) pa_nil)))))
        (pss_one (ps_expr (pe_bm PySem.F.plainAttrs_list PySem.F.slot_list_append PySem.F.type_list_append mt_append (pv 1) (pa_cons (pe_tup (pa_cons (pv 2) (pa_cons (pv 4)
          (pa_cons (pe_cmpR op_eq (pe_call GB hr (by rfl) gB FB.kp bB .nil pass0 (pa_cons (pv 0) (pa_cons pe_int pa_nil))) pe_int (nomark _)) pa_nil)))) pa_nil)))))))
      (pss_one (ps_ret (pe_callTy call_tuple_of (by rfl) mT boot_tuple (pa_cons (pv 1) pa_nil))))), ?_⟩
    refine ⟨Nat.zero_le _, fun o ho => ?_⟩
    have od : o ≠ d := hP.ne ho
    have e1 : Ex H (upd H o (.lst [])) := Ex.new ho
    refine ⟨_, _, rfl, ?_⟩
    dsimp only
    refine rd_below (ev_var rfl) ev_c (hP.ex e1) (by omega) (by decide) (by decide) fun H3 r3 off3 pot3 r30 r31 => ?_
    have o3 : H3 o = some (.lst []) := off3 o _ od upd_same
    refine ⟨r3, rfl, by omega, by omega, ?_⟩
    refine for_range (lo := 0) (n := r3.toNat) (fun i σ' H' => ∃ pg y3 y4, σ' = [some (.ref d), some (.ref o), some (.int pg), y3, y4] ∧ Off d H H' ∧ Pot H' d (n + 1 + 13 * (i : Int)) ∧ 0 ≤ pg ∧ pg ≤ 5 * (i : Int) ∧
      ∃ rs : List (Addr × Row), H' o = some (.lst (rs.map fun r => V.ref r.1)) ∧ (∀ r ∈ rs, H' r.1 = some (.tup [.int r.2.1, .int r.2.2.1, .bl r.2.2.2])) ∧ rs.length = i ∧ Pk.Asc (rs.map (·.2)) ∧ ∀ r ∈ rs, r.2.1 ≤ pg) ?_ ?_ ?_
    · exact ⟨0, none, none, rfl, (Off.of e1).trans off3, pot3.up (by omega), Int.le_refl 0, by omega, [], o3, fun r h => absurd h List.not_mem_nil, rfl, ⟨List.Pairwise.nil, fun r h => absurd h List.not_mem_nil⟩, fun r h => absurd h List.not_mem_nil⟩
    · rintro i σ' H' hi ⟨pg, y3, y4, rfl, off, pot, pg0, pg1, rs, ho', hrs, hl, hD, hle⟩
      have hi2 : (i : Int) < 9 := by omega
      dsimp only [gName]
      refine st_seq ?_
      -- page + 1 + pick
      refine ⟨_, rfl, _, _, rfl, rfl, ?_⟩
      refine rd_pick (n := n + 1 + 13 * (i : Int)) (ev_var rfl) (fun H1 ex Q1 k => ?_) (by omega)
      · refine rd_below (ev_var rfl) ev_c (pot.ex ex) (by omega) (by decide) (by decide) fun H4 r4 off4 pot4 r40 r41 => ?_
        refine ⟨by show 3 ≤ sizeLine; decide, fun l hl4 => ?_⟩
        have el : Ex H4 (upd H4 l (.lst [V.int 0, .int 0, .int r4])) := Ex.new hl4
        refine k _ l 1 [0, 0, r4] (off4.trans (Off.of el)) (pot4.ex el) (by decide) (by decide) (pot4.ne hl4) upd_same (show 0 < 3 by decide) (by show 3 ≤ 1000; decide) fun H5 v hv off5 pot5 => ?_
        have hv' : 0 ≤ v ∧ v ≤ 4 := by
          simp only [List.mem_cons, List.not_mem_nil, or_false] at hv
          omega
        have off15 : Off d H' H5 := (Off.of ex).trans ((off4.trans (Off.of el)).trans off5)
        have keep : ∀ r ∈ rs, H5 r.1 = some (.tup [.int r.2.1, .int r.2.2.1, .bl r.2.2.2]) := fun r hr => off15 _ _ (pot.neT (hrs r hr)) (hrs r hr)
        have ho5 := off15 _ _ od ho'
        have offH := off.trans off15
        refine ⟨_, _, rfl, rfl, ?_⟩
        dsimp only [gName]
        -- many
        refine st_seq ?_
        refine rd_pick (n := n + 1 + 13 * (i : Int) + 6) (ev_var rfl) (fun H6 ex6 Q6 k6 => ?_) (by omega)
        refine rd_below (ev_var rfl) ev_c (pot5.ex ex6) (by omega) (by decide) (by decide) fun H7 r7 off7 pot7 r70 r71 => ?_
        refine rd_below (ev_var rfl) ev_c pot7 (by omega) (by decide) (by decide) fun H8 r8 off8 pot8 r80 r81 => ?_
        refine ⟨by show 3 ≤ sizeLine; decide, fun l2 hl2 => ?_⟩
        have el2 : Ex H8 (upd H8 l2 (.lst [V.int r7, .int r8, .int 7])) := Ex.new hl2
        refine k6 _ l2 2 [r7, r8, 7] ((off7.trans off8).trans (Off.of el2)) ((pot8.ex el2).up (by omega)) (by decide) (by decide) (pot8.ne hl2) upd_same (show 0 < 3 by decide) (by show 3 ≤ 1000; decide) fun H9 v9 hv9 off9 pot9 => ?_
        have hv9' : 0 ≤ v9 ∧ v9 ≤ 7 := by
          simp only [List.mem_cons, List.not_mem_nil, or_false] at hv9
          omega
        have off59 : Off d H5 H9 := (Off.of ex6).trans (((off7.trans off8).trans (Off.of el2)).trans off9)
        have keep9 : ∀ r ∈ rs, H9 r.1 = some (.tup [.int r.2.1, .int r.2.2.1, .bl r.2.2.2]) := fun r hr => off59 _ _ (pot5.neT (keep r hr)) (keep r hr)
        have ho9 := off59 _ _ od ho5
        refine ⟨1, v9, rfl, rfl, ?_⟩
        dsimp only [gName]
        -- append
        refine ⟨.ref o, rfl, .inl ⟨rfl, _, sq_of ho9⟩, ?_⟩
        refine ⟨_, rfl, _, rfl, ?_⟩
        refine rd_below (ev_var rfl) ev_c pot9 (by omega) (by decide) (by decide) fun HA rA offA potA rA0 rA1 => ?_
        refine ⟨rfl, ?_⟩
        refine ⟨by show 3 ≤ sizeLine; decide, fun p hp => ?_⟩
        have hoA := offA _ _ od ho9
        have keepA : ∀ r ∈ rs, HA r.1 = some (.tup [.int r.2.1, .int r.2.2.1, .bl r.2.2.2]) := fun r hr => offA _ _ (pot9.neT (keep9 r hr)) (keep9 r hr)
        have po : p ≠ o := fun e => by
          rw [e, hoA] at hp
          cases hp
        have ep : Ex HA (upd HA p (.tup [.int (pg + 1 + v), .int (1 + v9), .bl (decide (V.int rA = V.int 0))])) := Ex.new hp
        have hpp : (upd HA p (.tup [.int (pg + 1 + v), .int (1 + v9), .bl (decide (V.int rA = V.int 0))])) p = some (.tup [.int (pg + 1 + v), .int (1 + v9), .bl (decide (V.int rA = V.int 0))]) := upd_same
        have off8' := ((offH.trans off59).trans offA).trans (Off.of ep)
        have potB := potA.ex ep
        have hoB := ep _ _ hoA
        have keepB : ∀ r ∈ rs, _ := fun r hr => ep _ _ (keepA r hr)
        generalize upd HA p (.tup [.int (pg + 1 + v), .int (1 + v9), .bl (decide (V.int rA = V.int 0))]) = HB at ep hpp off8' potB hoB keepB ⊢
        have oN : H o = none := ho
        refine ⟨o, _, _, rfl, rfl, hoB, by rw [List.length_map]; exact sz_lt (by omega), ?_⟩
        refine ⟨_, _, _, rfl, off8'.mut oN, ?_, by omega, by push_cast; omega, rs ++ [(p, pg + 1 + v, 1 + v9, decide (V.int rA = V.int 0))], ?_, ?_, ?_, ?_, ?_⟩
        · obtain ⟨g, b, m, h0, h⟩ := potB
          refine ⟨g, b, m, ?_, h.1, h.2.1, h.2.2.1, h.2.2.2.1, h.2.2.2.2.1, by have := h.2.2.2.2.2; push_cast; omega⟩
          rw [upd_ne od.symm]
          exact h0
        · rw [upd_same, List.map_append]
          rfl
        · intro r hr
          have ne : ∀ {t : Addr} {u : List V}, HB t = some (.tup u) → t ≠ o := fun {t u} h e => by
            rw [e, hoB] at h
            cases h
          rcases List.mem_append.mp hr with h | h
          · rw [upd_ne (ne (keepB r h))]
            exact keepB r h
          · have := List.mem_singleton.mp h
            subst this
            rw [upd_ne po]
            exact hpp
        · rw [List.length_append, hl]
          rfl
        · obtain ⟨hd1, hd2⟩ := hD
          refine ⟨?_, ?_⟩
          · rw [List.map_append, List.map_append]
            refine List.pairwise_append.mpr ⟨hd1, List.pairwise_singleton _ _, ?_⟩
            intro x hx y hy
            have := List.mem_singleton.mp hy
            subst this
            obtain ⟨r, hr, rfl⟩ := List.mem_map.mp hx
            obtain ⟨r', hr', rfl⟩ := List.mem_map.mp hr
            have := hle r' hr'
            show r'.2.1 < pg + 1 + v
            omega
          · intro r hr
            rw [List.map_append] at hr
            rcases List.mem_append.mp hr with h | h
            · exact hd2 r h
            · have := List.mem_singleton.mp h
              subst this
              refine ⟨?_, ?_, ?_, ?_⟩ <;> (dsimp only; omega)
        · intro r hr
          rcases List.mem_append.mp hr with h | h
          · have := hle r h
            omega
          · have := List.mem_singleton.mp h
            subst this
            exact Int.le_refl _
    · rintro σ' H' ⟨pg, y3, y4, rfl, off, pot, pg0, pg1, rs, ho', hrs, hl, hD, hle⟩
      dsimp only
      refine ⟨_, rfl, o, _, rfl, .inl ⟨sq_of ho', fun a ha => ?_⟩⟩
      have ea : Ex H' (upd H' a (.tup (rs.map fun r => V.ref r.1))) := Ex.new ha
      refine q _ a rs (off.trans (Off.of ea)) ((pot.ex ea).up (by omega)) ⟨st_of upd_same, fun r hr => st_of (ea _ _ (hrs r hr))⟩ (by omega) hD
end
end Pg
namespace Pg
open PySem PySem.Spec PyProof.Rows L2 Evl Gd
/-! ### keys as data -/
abbrev dKey (k : Pk.Key) : PyData := .tuple [.int k.1, .int k.2.1, .tuple (k.2.2.map .int)]
theorem lexL_list : ∀ a b : List Int, PySem.W.listLt a b = Pk.lexL a b
  | [], [] => rfl
  | [], _ :: _ => rfl
  | _ :: _, [] => rfl
  | x :: xs, y :: ys => by
    unfold PySem.W.listLt Pk.lexL
    rw [lexL_list xs ys]
    rfl
theorem lex_ints (a b : List Int) : PyProof.Rows.lexLt itemOrd (PySem.W.keyToksAll (a.map .int)) (PySem.W.keyToksAll (b.map .int)) = Pk.lexL a b :=
  (PySem.W.lexAll_map (α := Int) a b).trans (lexL_list a b)
theorem alike_ints (a b : List Int) : PySem.W.alikeAll (a.map .int) (b.map .int) = true := PySem.W.alikeAll_map (α := Int) a b
theorem dkey_lt (a b : Pk.Key) : PySem.W.dataLt (dKey a) (dKey b) = Pk.kLt a b := by
  obtain ⟨a1, a2, a3⟩ := a
  obtain ⟨b1, b2, b3⟩ := b
  have i1 : ∀ x y : Int, PySem.W.alike (.int x) (.int y) = true := fun x y => by simp only [PySem.W.alike]
  have ie : ∀ x y : Int, PyData.eqv (.int x) (.int y) = decide (x = y) := fun x y => by
    rw [PyData.eqv]
    exact Bool.eq_iff_iff.mpr (by simp)
  have at3 : PySem.W.alike (.tuple (a3.map .int)) (.tuple (b3.map .int)) = true := by
    rw [PySem.W.alike]
    exact alike_ints a3 b3
  rw [PySem.W.dataLt_tuple]
  unfold Pk.kLt
  dsimp only
  by_cases e1 : a1 = b1
  · rw [if_pos e1, PySem.W.dataLt_all_yes (i1 _ _) (by rw [ie]; exact decide_eq_true e1)]
    by_cases e2 : a2 = b2
    · rw [if_pos e2, PySem.W.dataLt_all_yes (i1 _ _) (by rw [ie]; exact decide_eq_true e2)]
      cases h : PyData.eqv (.tuple (a3.map .int)) (.tuple (b3.map .int)) with
      | false => rw [PySem.W.dataLt_all_no at3 h, PySem.W.dataLt_tuple, lex_ints]
      | true =>
        rw [PySem.W.dataLt_all_yes at3 h]
        have tk := (PySem.W.toks_eqv _ _ at3).1 h
        rw [PySem.W.keyToks, PySem.W.keyToks] at tk
        have l1 := lex_ints a3 b3
        have self : ∀ d : PyData, PyProof.Rows.lexLt itemOrd (PySem.W.keyToks d) (PySem.W.keyToks d) = false := fun d => PySem.W.dataLt_self d
        have s1 := self (.tuple (b3.map .int))
        rw [PySem.W.keyToks] at s1
        rw [tk, s1] at l1
        rw [← l1]
        exact self (.list [])
    · rw [if_neg e2, PySem.W.dataLt_all_no (i1 _ _) (by rw [ie]; exact decide_eq_false e2), PySem.W.dataLt_int]
  · rw [if_neg e1, PySem.W.dataLt_all_no (i1 _ _) (by rw [ie]; exact decide_eq_false e1), PySem.W.dataLt_int]
theorem dkey_alike (a b : Pk.Key) : PySem.W.alike (dKey a) (dKey b) = true := by
  rw [PySem.W.alike, PySem.W.alikeAll, PySem.W.alikeAll, PySem.W.alikeAll, PySem.W.alike, PySem.W.alike, PySem.W.alike, alike_ints, PySem.W.alikeAll]
  rfl
theorem dkey_all (a b : Pk.Key) : PySem.W.AlikeAll [dKey a, dKey b] := by
  refine ⟨fun x hx y hy => ?_, fun x hx => ?_⟩
  · simp only [List.mem_cons, List.not_mem_nil, or_false] at hx hy
    rcases hx with rfl | rfl <;> rcases hy with rfl | rfl <;> exact dkey_alike _ _
  · simp only [List.mem_cons, List.not_mem_nil, or_false] at hx
    rcases hx with rfl | rfl <;> exact fun e => nomatch e
theorem dkey_depth (a b : Pk.Key) : PyData.depthAll [dKey a, dKey b] ≤ 20 := by
  have h : ∀ k : Pk.Key, (dKey k).depth = 2 := fun k => by
    rw [PyData.depth, PyData.depthAll, PyData.depthAll, PyData.depthAll, PyData.depth, PyData.depth, PyData.depth, ints_depth, PyData.depthAll]
    rfl
  rw [PyData.depthAll, PyData.depthAll, h, h, PyData.depthAll]
  decide
/-- a key as it lies -/
def KeyAt (H : Hp) (t : Addr) (k : Pk.Key) : Prop := ∃ u, H t = some (.tup [.int k.1, .int k.2.1, .ref u]) ∧ H u = some (.tup (k.2.2.map V.int))
theorem KeyAt.ex {H H' : Hp} {t : Addr} {k : Pk.Key} (e : Ex H H') (h : KeyAt H t k) : KeyAt H' t k := by
  obtain ⟨u, h1, h2⟩ := h
  exact ⟨u, e _ _ h1, e _ _ h2⟩
theorem KeyAt.dp {K : PySem.W.Frag} {H : Hp} {t : Addr} {k : Pk.Key} (h : KeyAt H t k) : Dp K H (.ref t) (dKey k) := by
  obtain ⟨u, h1, h2⟩ := h
  exact .tup (st_of h1) (.cons (.int _) (.cons (.int _) (.cons (dp_tupI (st_of h2)) .nil)))
def BestAt (H : Hp) (v : V) (o : Option Pk.Key) : Prop := match o with | none => v = .non | some k => ∃ t, v = .ref t ∧ KeyAt H t k
theorem BestAt.ex {H H' : Hp} {v : V} {o : Option Pk.Key} (e : Ex H H') (h : BestAt H v o) : BestAt H' v o := by
  cases o with
  | none => exact h
  | some k =>
    obtain ⟨t, e1, h⟩ := h
    exact ⟨t, e1, h.ex e⟩
theorem sets_map {α β : Type} (f : α → β) : ∀ (n : Nat) (l : List α), l.length = n → (Pk.setsOf l).map (List.map f) = Pk.setsOf (l.map f)
  | 0, l, h => by
    have : l = [] := List.length_eq_zero_iff.mp h
    subst this
    rfl
  | n + 1, l, h => by
    rcases List.eq_nil_or_concat l with e | ⟨l', b, e⟩
    · rw [e] at h
      cases h
    · rw [List.concat_eq_append] at e
      subst e
      rw [List.length_append] at h
      have hl : l'.length = n := by simpa using h
      have ih := sets_map f n l' hl
      rw [Pk.setsOf_snoc, List.map_append, List.map_append, List.map_singleton, Pk.setsOf_snoc, ih]
      congr 1
      rw [← ih, List.map_map, List.map_map]
      refine List.map_congr_left fun s _ => ?_
      show (s ++ [b]).map f = s.map f ++ [f b]
      rw [List.map_append]
      rfl
/-- [e for page, objects, pinned in some], some a list of rows, e an int -/
theorem el_rowsL {K : PySem.W.Frag} {a : Addr} {rs : List (Addr × Row)} {tl te : TE} {σ : L2.St} {H : Hp} {i j k : Nat} {vs : List Nat} (f : Row → Int)
    (h : Ev tl σ H (.ref a)) (hS : SqL K H a (rs.map fun r => V.ref r.1)) (hR : ∀ r ∈ rs, SqT K H r.1 [.int r.2.1, .int r.2.2.1, .bl r.2.2.2]) (hz : rs.length ≤ 40000) (hw : ∀ x y z, wipe ((((wipe σ vs).set i (some x)).set j (some y)).set k (some z)) vs = wipe σ vs)
    (he : ∀ r ∈ rs, ∀ H1, Ex H H1 → Ev te ((((wipe σ vs).set i (some (.int r.2.1))).set j (some (.int r.2.2.1))).set k (some (.bl r.2.2.2))) H1 (.int (f r.2))) :
    EvL (tLc (iList K tl) (g3 K i j k) tYes te vs) σ H ((rs.map fun r => f r.2).map V.int) := by
  intro H0 e Q q
  refine h H0 e _ fun H1 e1 => ?_
  have hS1 := ex_l (e.trans e1) hS
  have hR1 : ∀ r ∈ rs, SqT K H1 r.1 [.int r.2.1, .int r.2.2.1, .bl r.2.2.2] := fun r hr => ex_t (e.trans e1) (hR r hr)
  refine ⟨a, rfl, ⟨_, hS1⟩, fun D hD => lc_list (xs := rs.map fun r => V.ref r.1) (fun n H' => Ex H1 H' ∧ H' D = some (.lst (((rs.take n).map fun r => f r.2).map V.int))) ⟨Ex.new hD, upd_same⟩ (fun n H' _ p => ex_l p.1 hS1) ?_ ?_⟩
  · intro n x H' hx p
    obtain ⟨r, hr, rfl⟩ := rows_at hx
    have hm : r ∈ rs := List.mem_of_getElem? hr
    have hlt := (List.getElem?_eq_some_iff.mp hr).1
    refine ⟨r.1, _, rfl, ex_t p.1 (hR1 r hm), rfl, .int r.2.1, _, rfl, .int r.2.2.1, _, rfl, .bl r.2.2.2, [], rfl, rfl, hw _ _ _, ?_⟩
    show te _ H' _
    refine he r hm H' ((e.trans e1).trans p.1) H' (Ex.refl H') _ fun H3 e3 => ?_
    refine ⟨_, e3 D _ p.2, sz_lt (by rw [List.length_map, List.length_map, List.length_take]; omega), Ex.mut (p.1.trans e3) hD, ?_⟩
    rw [upd_same, take_succ_map _ hr, List.map_append]
    rfl
  · intro H' p
    have el : rs.take (rs.map fun r => V.ref r.1).length = rs := List.take_of_length_le (by rw [List.length_map]; omega)
    rw [el] at p
    exact q D H' (fresh_back e1 hD) (e1.trans p.1) p.2
/-- tuple(a new list), the last of some arguments -/
theorem ra_tupOf {K : PySem.W.Frag} {te : TE} {σ : L2.St} {H : Hp} {xs : List V} {Q : List V → Hp → Prop} (h : EvL te σ H xs) (k : ∀ u H2, Ex H H2 → H2 u = some (.tup xs) → Q [.ref u] H2) : tCons (tCB (rTupS K) (tCons te tNil)) tNil σ H Q :=
  h H (Ex.refl H) _ fun l H1 hl e1 h1 => ⟨l, xs, rfl, .inl ⟨sq_of h1, fun u hu => k u _ (e1.trans (Ex.new hu)) upd_same⟩⟩
abbrev nBest : List Str := ["_law_rows_here", "_law_moves", "_law_held", "_law_best_here", "_law_some", "_law_paid", "_law_here", "_law_page", "_law_many", "_law_is_pinned", "_law_row"]
theorem scBest : FnScope nBest ["_law_rows_here", "_law_moves"] (defScope sBest) := ⟨rfl, rfl, rfl, by decide +kernel, rfl, by decide +kernel, by decide +kernel⟩
def spBest (K : PySem.W.Frag) : Sp := fun vs H Q _ => ∃ (a : Addr) (rs : List (Addr × Row)) (m : Int), vs = [.ref a, .int m] ∧ RowsAt K H a rs ∧ rs.length ≤ 10 ∧ Pk.Asc (rs.map (·.2)) ∧ 0 ≤ m ∧
  ∀ H' p, Ex H H' → H' p = some (.tup ((emp (rs.map (·.2)) m).map V.int)) → Q (.ref p) H'
section
variable {P : Program} {w : World} {K : PySem.W.Frag} {mg : Str → Option Value} {base : Heap}
theorem ok_best {f fS : Addr} {fd fdS : FuncData} (F : Fun K "_law_best" "_law_best" sBest f fd) (FS : Fun K "_law_sets" "_law_sets" sSets fS fdS) (bS : Binds K fdS ["_law_some"] []) (gS : mg "_law_sets" = some (.ref fS))
    (mS : mg "sum" = none) (mL : mg "len" = none) (mT : mg "tuple" = none) (mN : mg "min" = none) : FnOk P w K mg base CX0 2 f fd ["_law_rows_here", "_law_moves"] (spBest K) := by
  have GS : FnOk P w K mg base CX0 1 fS fdS ["_law_some"] spSets := ok_sets FS
  refine F.ok scBest (fun vs H Q E h => ?_) (fun cdv A outer s H vs Q E hr h => ?_)
  · obtain ⟨a, rs, m, rfl, _⟩ := h
    rfl
  · obtain ⟨a, rs, m, rfl, hR, hz, hA, m0, q⟩ := h
    refine ⟨_, pss_cons (ps_set (i := 2) scBest.nd rfl (.inl rfl) (pe_callB (cr_sum rfl) (by rfl) mS boot_sum (pa_cons
        (pe_lc (own := [("_law_page", 7), ("_law_many", 8), ("_law_is_pinned", 9)]) (g := g3 K 7 8 9) (tt := tYes) (te := tVar 8) rfl scBest.nd (pi_tup (pv 0)) (blkOk_by (N := nBest) (sc := defScope sBest) (by decide +kernel))
          (fun _ _ _ _ _ => pg_tup rfl (pgs_cons (pg_name (i := 7) scBest.nd rfl (.inl rfl)) (pgs_cons (pg_name (i := 8) scBest.nd rfl (.inl rfl)) (pgs_cons (pg_name (i := 9) scBest.nd rfl (.inl rfl)) pgs_nil))))
          (fun _ _ _ _ _ => pts_nil) (fun _ _ _ _ _ => pv 8)) pa_nil)))
      (pss_cons (ps_set (i := 3) scBest.nd rfl (.inl rfl) pe_non)
      (pss_cons (ps_for PassesOwn.never rfl (pi_list (pe_call GS hr (by rfl) gS FS.kp bS .nil pass0 (pa_cons
          (pe_lc (own := [("_law_row", 10)]) (g := gName 10) (tt := tNot (tB (tOp (rIxT K) (tVar 10) (tC (.int 2))))) (te := tVar 10) rfl scBest.nd (pi_tup (pv 0)) (blkOk_by (N := nBest) (sc := defScope sBest) (by decide +kernel))
            (fun _ _ _ _ _ => pg_name (i := 10) scBest.nd rfl (.inl rfl)) (fun _ _ _ _ _ => pts_one (pt_not (pt_val (pe_ix ix_tup (pv 10) pe_int (fun _ _ => rfl))))) (fun _ _ _ _ _ => pv 10)) pa_nil))) (pg_name (i := 4) scBest.nd rfl (.inl rfl))
        (pss_cons (ps_set (i := 5) scBest.nd rfl (.inl rfl) (pe_callB (cr_sum rfl) (by rfl) mS boot_sum (pa_cons
          (pe_lc (own := [("_law_page", 7), ("_law_many", 8), ("_law_is_pinned", 9)]) (g := g3 K 7 8 9) (tt := tYes) (te := tVar 8) rfl scBest.nd (pi_list (pv 4)) (blkOk_by (N := nBest) (sc := defScope sBest) (by decide +kernel))
            (fun _ _ _ _ _ => pg_tup rfl (pgs_cons (pg_name (i := 7) scBest.nd rfl (.inl rfl)) (pgs_cons (pg_name (i := 8) scBest.nd rfl (.inl rfl)) (pgs_cons (pg_name (i := 9) scBest.nd rfl (.inl rfl)) pgs_nil))))
            (fun _ _ _ _ _ => pts_nil) (fun _ _ _ _ _ => pv 8)) pa_nil)))
        (pss_one (ps_if (pw_and (pt_cmpR op_le (pv 5) (pv 1) (nomark _)) (pw_and1 (pt_cmpR op_le (pv 2) (pe_op op_mul pe_int (pe_op op_sub (pe_callB call_len_seq (by rfl) mL PySem.boot_len (pa_cons (pv 0) pa_nil)) (pe_callB call_len_seq (by rfl) mL PySem.boot_len (pa_cons (pv 4) pa_nil)))) (nomark _)))).pt
          (pss_cons (ps_set (i := 6) scBest.nd rfl (.inl rfl) (pe_tup (pa_cons (pe_op op_sub pe_int (pe_callB call_len_seq (by rfl) mL PySem.boot_len (pa_cons (pv 4) pa_nil))) (pa_cons (pv 5) (pa_cons (pe_callTy call_tuple_of (by rfl) mT boot_tuple (pa_cons
            (pe_lc (own := [("_law_page", 7), ("_law_many", 8), ("_law_is_pinned", 9)]) (g := g3 K 7 8 9) (tt := tYes) (te := tVar 7) rfl scBest.nd (pi_list (pv 4)) (blkOk_by (N := nBest) (sc := defScope sBest) (by decide +kernel))
              (fun _ _ _ _ _ => pg_tup rfl (pgs_cons (pg_name (i := 7) scBest.nd rfl (.inl rfl)) (pgs_cons (pg_name (i := 8) scBest.nd rfl (.inl rfl)) (pgs_cons (pg_name (i := 9) scBest.nd rfl (.inl rfl)) pgs_nil))))
              (fun _ _ _ _ _ => pts_nil) (fun _ _ _ _ _ => pv 7)) pa_nil)) pa_nil)))))
          (pss_one (ps_set (i := 3) scBest.nd rfl (.inl rfl) (pe_ifExp (pt_cmpR op_isN (pv 3) pe_non (nomark _)) (pv 6) (pe_callB (call_minD rfl hr.units) (by rfl) mN boot_min (pa_cons (pv 3) (pa_cons (pv 6) pa_nil))))))) pss_nil))))
      (pss_one (ps_ret (pe_ix ix_tup (pv 3) pe_int (fun _ _ => rfl)))))), ?_⟩
    have wf : ∀ r ∈ rs, SqT K H r.1 [.int r.2.1, .int r.2.2.1, .bl r.2.2.2] := hR.2
    let fr : List (Addr × Row) := rs.filter fun r => !r.2.2.2
    have frl : fr.length ≤ 10 := Nat.le_trans (List.length_filter_le _ _) hz
    have frm : ∀ r ∈ fr, r ∈ rs := fun r hr => (List.mem_filter.mp hr).1
    have frf : Pk.free (rs.map (·.2)) = fr.map (·.2) := by
      unfold Pk.free
      rw [List.filter_map]
      rfl
    -- held
    refine s_asg (i := 2) (v := .int (total (rs.map (·.2)))) ?_ fun H1 e1 => ?_
    · have e : (rs.map fun r => r.2.2.1).sum = total (rs.map (·.2)) := by
        unfold total
        rw [List.map_map]
        rfl
      rw [← e]
      exact ev_sumL (el_rowsI (i := 7) (j := 8) (k := 9) (f := fun r => r.2.1) (ev_var rfl) hR (by omega) (fun _ _ _ => rfl) fun r hr H1 e => ev_var rfl)
    dsimp only
    refine st_seq (s_asg (i := 3) (v := .non) ev_c fun H2 e2 => ?_)
    dsimp only
    have e02 := e1.trans e2
    refine st_seq ?_
    -- the unpinned rows
    refine ⟨.ref a, rfl, a, rfl, ⟨_, ex_t e02 hR.1⟩, fun D hD => lc_tup (xs := List.map (fun r : Addr × Row => V.ref r.1) rs) (fun n H' => Ex H2 H' ∧ H' D = some (.lst ((((rs.take n).filter fun r => !r.2.2.2).map (·.1)).map V.ref))) ⟨Ex.new hD, upd_same⟩ (fun n H' _ p => ex_t (e02.trans p.1) hR.1) ?_ ?_⟩
    · rintro n x H' hx ⟨p1, p2⟩
      obtain ⟨r, hr, rfl⟩ := rows_at hx
      have hm : r ∈ rs := List.mem_of_getElem? hr
      have hlt := (List.getElem?_eq_some_iff.mp hr).1
      have tk : (rs.take (n + 1)).filter (fun r => !r.2.2.2) = (rs.take n).filter (fun r => !r.2.2.2) ++ (if r.2.2.2 then [] else [r]) := by
        rw [List.take_add_one, hr, List.filter_append]
        congr 1
        obtain ⟨ad, pg, mn, b⟩ := r
        cases b <;> rfl
      refine ⟨rfl, ?_⟩
      refine ⟨_, rfl, r.1, _, 2, .bl r.2.2.2, rfl, rfl, ex_t (e02.trans p1) (wf r hm), atI_nat (j := 2) rfl, _, rfl, ?_⟩
      cases hb : r.2.2.2 with
      | true =>
        rw [hb] at tk
        rw [if_neg (show ¬ (!true) = true from Bool.false_ne_true)]
        refine ⟨p1, ?_⟩
        rw [tk, if_pos rfl, List.append_nil]
        exact p2
      | false =>
        rw [hb] at tk
        rw [if_pos (show (!false) = true from rfl)]
        refine ⟨_, rfl, _, p2, sz_lt ?_, Ex.mut p1 hD, ?_⟩
        · rw [List.length_map, List.length_map]
          have := List.length_filter_le (fun r : Addr × Row => !r.2.2.2) (rs.take n)
          rw [List.length_take] at this
          omega
        · rw [upd_same, tk, if_neg Bool.false_ne_true, List.map_append, List.map_append]
          rfl
    rintro H3 ⟨e23, h3⟩
    have el : rs.take (rs.map fun r => V.ref r.1).length = rs := List.take_of_length_le (by rw [List.length_map]; omega)
    rw [el] at h3
    -- the sets
    refine ⟨D, fr.map (·.1), rfl, h3, by rw [List.length_map]; exact frl, fun H4 p ss e34 hp hs hss => ?_⟩
    refine ⟨p, rfl, ⟨_, sq_of hp⟩, ?_⟩
    have e04 := (e02.trans e23).trans e34
    let T : List (List (Addr × Row)) := Pk.setsOf fr
    have hT : ss.map (·.2) = T.map (List.map (·.1)) := hss.trans (sets_map (·.1) _ fr rfl).symm
    have hlT : ss.length = T.length := by
      have := congrArg List.length hT
      rwa [List.length_map, List.length_map] at this
    have Tsub : ∀ S ∈ T, S.Sublist fr := fun S hS => (Pk.mem_sets _ _ _ rfl).mp hS
    refine for_list (xs := ss.map fun s => V.ref s.1) (fun j σ' H' => ∃ b y4 y5 y6, σ' = [some (.ref a), some (.int m), some (.int (total (rs.map (·.2)))), some b, y4, y5, y6, none, none, none, none] ∧ Ex H4 H' ∧
      BestAt H' b (Pk.bestK ((((T.take j).map (List.map (·.2))).filter (Pk.fits (rs.map (·.2)) m)).map Pk.keyOf))) ⟨.non, none, none, none, rfl, Ex.refl H4, rfl⟩ (fun j σ' H' _ w => ?_) (fun j x σ' H' hx w => ?_) (fun σ' H' w => ?_)
    · obtain ⟨_, _, _, _, _, e, _⟩ := w
      exact sq_of (e _ _ hp)
    · obtain ⟨b, y4, y5, y6, rfl, e4, hb⟩ := w
      rw [List.getElem?_map] at hx
      cases hg : ss[j]? with
      | none => rw [hg] at hx; cases hx
      | some s =>
        rw [hg] at hx
        have ex : x = .ref s.1 := (Option.some.inj hx).symm
        subst ex
        have hjT : j < T.length := by
          rw [← hlT]
          exact (List.getElem?_eq_some_iff.mp hg).1
        obtain ⟨S, hS⟩ : ∃ S, T[j]? = some S := ⟨T[j], List.getElem?_eq_getElem hjT⟩
        have hSub := Tsub S (List.mem_of_getElem? hS)
        have hs2 : s.2 = S.map (·.1) := by
          have h1 : (ss.map (·.2))[j]? = some s.2 := by rw [List.getElem?_map, hg]; rfl
          rw [hT, List.getElem?_map, hS] at h1
          exact (Option.some.inj h1).symm
        have hSl : S.length ≤ 10 := Nat.le_trans hSub.length_le frl
        have e0' := e04.trans e4
        have hsl : H' s.1 = some (.lst (S.map fun r => V.ref r.1)) := by
          have := e4 _ _ (hs s (List.mem_of_getElem? hg))
          rw [hs2, List.map_map] at this
          exact this
        have hSr : ∀ {Ha : Hp}, Ex H Ha → ∀ r ∈ S, SqT K Ha r.1 [.int r.2.1, .int r.2.2.1, .bl r.2.2.2] := fun e r hr => ex_t e (wf r (frm r (hSub.mem hr)))
        have step : (((T.take (j + 1)).map (List.map (·.2))).filter (Pk.fits (rs.map (·.2)) m)).map Pk.keyOf = (((T.take j).map (List.map (·.2))).filter (Pk.fits (rs.map (·.2)) m)).map Pk.keyOf ++ (if Pk.fits (rs.map (·.2)) m (S.map (·.2)) then [Pk.keyOf (S.map (·.2))] else []) := by
          rw [take_succ_map _ hS, List.filter_append, List.map_append]
          congr 1
          cases hf : Pk.fits (rs.map (·.2)) m (S.map (·.2)) with
          | true =>
            rw [List.filter_cons, if_pos hf, if_pos rfl]
            rfl
          | false =>
            rw [List.filter_cons, if_neg (by rw [hf]; decide), if_neg Bool.false_ne_true]
            rfl
        dsimp only [gName]
        -- paid
        refine st_seq (s_asg (i := 5) (v := .int (total (S.map (·.2)))) ?_ fun H5 e5 => ?_)
        · have e : (S.map fun r => r.2.2.1).sum = total (S.map (·.2)) := by
            unfold total
            rw [List.map_map]
            rfl
          rw [← e]
          exact ev_sumL (el_rowsL (i := 7) (j := 8) (k := 9) (f := fun r => r.2.1) (ev_var rfl) (sq_of hsl) (hSr e0') (by omega) (fun _ _ _ => rfl) fun r hr H1 e => ev_var rfl)
        dsimp only
        have e05 := e0'.trans e5
        have hsl5 := e5 _ _ hsl
        have bt : (decide (total (S.map (·.2)) ≤ m) && decide (total (rs.map (·.2)) ≤ 8 * (((rs.map fun r => V.ref r.1).length : Int) - ((S.map fun r => V.ref r.1).length : Int)))) = Pk.fits (rs.map (·.2)) m (S.map (·.2)) := by
          unfold Pk.fits
          rw [List.length_map, List.length_map, List.length_map, List.length_map]
        refine s_if (et_and (et_test (ev_op (ev_var rfl) (ev_var rfl) rv_I0)) fun _ => et_test (ev_op (ev_var rfl) (ev_op ev_c (ev_op (ev_lenT (ev_var rfl) (ex_t e05 hR.1)) (ev_len (ev_var rfl) (sq_of hsl5)) rv_I0) (rv_I (.inl ⟨by decide, by decide⟩))) rv_I0)) (fun hy H6 e6 => ?_) (fun hy H6 e6 => ?_)
        · rw [bt] at hy
          rw [hy, if_pos rfl] at step
          have hsl6 := e6 _ _ hsl5
          have e06 := e05.trans e6
          -- here
          refine st_seq ?_
          refine (ev_op ev_c (ev_len (ev_var rfl) (sq_of hsl6)) rv_I0 : Ev _ _ H6 _) H6 (Ex.refl H6) _ fun H7 e7 => ?_
          refine ⟨_, rfl, ?_⟩
          dsimp only
          refine ra_tupOf (el_rowsL (i := 7) (j := 8) (k := 9) (rs := S) (f := fun r => r.1) (H := H7) (ev_var rfl) (sq_of (e7 _ _ hsl6)) (hSr (e06.trans e7)) (by omega) (fun _ _ _ => rfl) (fun r hr H1 e => ev_var rfl)) fun u H8 e8 h8 => ?_
          refine ⟨by show 3 ≤ sizeLine; decide, fun t ht => ?_⟩
          have et := Ex.new (o := HO.tup [V.int (0 - ((S.map fun r => V.ref r.1).length : Int)), .int (total (S.map (·.2))), .ref u]) ht
          have hk : KeyAt (upd H8 t (.tup [V.int (0 - ((S.map fun r => V.ref r.1).length : Int)), .int (total (S.map (·.2))), .ref u])) t (Pk.keyOf (S.map (·.2))) := by
            refine ⟨u, ?_, ?_⟩
            · rw [upd_same]
              unfold Pk.keyOf
              rw [List.length_map, List.length_map]
            · have h1 := et _ _ h8
              unfold Pk.keyOf
              dsimp only
              have e2 : (S.map (·.2)).map (·.1) = S.map fun r => r.2.1 := by
                rw [List.map_map]
                rfl
              rw [e2]
              exact h1
          have e69 := (e7.trans e8).trans et
          generalize upd H8 t (.tup [V.int (0 - ((S.map fun r => V.ref r.1).length : Int)), .int (total (S.map (·.2))), .ref u]) = H9 at hk e69 ⊢
          dsimp only [gName]
          have hb9 := hb.ex ((e5.trans e6).trans e69)
          have e49 := e4.trans ((e5.trans e6).trans e69)
          -- best
          rw [step]
          have fold : Pk.bestK ((((T.take j).map (List.map (·.2))).filter (Pk.fits (rs.map (·.2)) m)).map Pk.keyOf ++ [Pk.keyOf (S.map (·.2))]) = Pk.bestStep (Pk.bestK ((((T.take j).map (List.map (·.2))).filter (Pk.fits (rs.map (·.2)) m)).map Pk.keyOf)) (Pk.keyOf (S.map (·.2))) := by
            unfold Pk.bestK
            rw [List.foldl_append]
            rfl
          rw [fold]
          generalize Pk.bestK ((((T.take j).map (List.map (·.2))).filter (Pk.fits (rs.map (·.2)) m)).map Pk.keyOf) = old at hb9 ⊢
          refine ⟨_, rfl, rfl, _, rfl, ?_⟩
          cases old with
          | none =>
            have e : b = .non := hb9
            subst e
            dsimp only
            rw [decide_eq_true rfl, if_pos rfl]
            refine ⟨_, rfl, ?_⟩
            exact ⟨_, _, _, _, rfl, e49, t, rfl, hk⟩
          | some k =>
            obtain ⟨tb, rfl, hkb⟩ := hb9
            dsimp only
            rw [decide_eq_false (fun e => nomatch e), if_neg Bool.false_ne_true]
            refine ⟨_, rfl, _, rfl, _, _, _, _, rfl, hkb.dp, hk.dp, dkey_all _ _, dkey_depth _ _, ?_⟩
            rw [dkey_lt]
            unfold Pk.bestStep
            dsimp only
            cases hlt : Pk.kLt (Pk.keyOf (S.map (·.2))) k with
            | true =>
              refine ⟨_, _, _, _, rfl, e49, t, rfl, ?_⟩
              rw [if_pos rfl]
              exact hk
            | false =>
              refine ⟨_, _, _, _, rfl, e49, tb, rfl, ?_⟩
              rw [if_neg Bool.false_ne_true]
              exact hkb
        · rw [bt] at hy
          rw [hy, if_neg Bool.false_ne_true, List.append_nil] at step
          dsimp only [tNext]
          rw [step]
          exact ⟨_, _, _, _, rfl, e4.trans (e5.trans e6), hb.ex (e5.trans e6)⟩
    · obtain ⟨b, y4, y5, y6, rfl, e4, hb⟩ := w
      rw [List.length_map, hlT, List.take_length] at hb
      have e : T.map (List.map (·.2)) = Pk.setsOf (Pk.free (rs.map (·.2))) := by
        rw [frf]
        exact sets_map (·.2) _ fr rfl
      rw [e, Pk.best_of hA m0] at hb
      obtain ⟨t, rfl, u, h1, h2⟩ := hb
      dsimp only
      refine ⟨_, rfl, t, _, 2, .ref u, rfl, rfl, st_of h1, atI_nat (j := 2) rfl, ?_⟩
      exact q H' u (e04.trans e4) h2
end
end Pg
namespace Pg
open PySem PySem.Spec PyProof.Rows L2 Evl Gd
/-! ### rows as data -/
abbrev dRow (r : Row) : PyData := .tuple [.int r.1, .int r.2.1, .bool r.2.2]
theorem dp_rows {K : PySem.W.Frag} {H : Hp} : ∀ rs : List (Addr × Row), (∀ r ∈ rs, SqT K H r.1 [.int r.2.1, .int r.2.2.1, .bl r.2.2.2]) → DpAll K H (rs.map fun r => V.ref r.1) (rs.map fun r => dRow r.2)
  | [], _ => .nil
  | r :: rs, h => .cons (.tup (h r List.mem_cons_self) (.cons (.int _) (.cons (.int _) (.cons (.bl _) .nil)))) (dp_rows rs fun q hq => h q (List.mem_cons_of_mem _ hq))
theorem small_show {n : Int} (h : n.natAbs < 10 ^ 9) : PyData.showable (.int n) = true := by
  have := ints_show [n] (fun m hm => by rw [List.mem_singleton.mp hm]; exact h)
  rw [List.map_cons, List.map_nil, PyData.showableAll, PyData.showableAll, Bool.and_true] at this
  exact this
theorem row_show (r : Row) (h1 : r.1.natAbs < 10 ^ 9) (h2 : r.2.1.natAbs < 10 ^ 9) : (dRow r).showable = true ∧ (dRow r).hasDict = false ∧ (dRow r).depth = 1 ∧ (dRow r).shown.length ≤ 40 := by
  refine ⟨?_, ?_, ?_, ?_⟩
  · rw [PyData.showable, PyData.showableAll, PyData.showableAll, PyData.showableAll, PyData.showableAll, small_show h1, small_show h2, PyData.showable]
    rfl
  · rw [PyData.hasDict, PyData.hasDictAll, PyData.hasDictAll, PyData.hasDictAll, PyData.hasDictAll, PyData.hasDict, PyData.hasDict, PyData.hasDict]
    rfl
  · rw [PyData.depth, PyData.depthAll, PyData.depthAll, PyData.depthAll, PyData.depthAll, PyData.depth, PyData.depth, PyData.depth]
    rfl
  · rw [PyData.shown, PyData.shownAll, PyData.shownAll, PyData.shownAll, PyData.shownAll, PyData.shown, PyData.shown, PyData.shown]
    have a1 := int_len h1
    have a2 := int_len h2
    have a3 : ∀ b : Bool, (if b = true then (Str.ofString "True") else Str.ofString "False").length ≤ 5 := by decide +kernel
    have a4 := a3 r.2.2
    refine Nat.le_trans (fmt_text _) ?_
    rw [piled_cons, piled_cons, piled_cons, piled_nil]
    omega
theorem rows_facts : ∀ rows : List Row, (∀ r ∈ rows, r.1.natAbs < 10 ^ 9 ∧ r.2.1.natAbs < 10 ^ 9) →
    PyData.showableAll (rows.map dRow) = true ∧ PyData.hasDictAll (rows.map dRow) = false ∧ PyData.depthAll (rows.map dRow) ≤ 1 ∧ piled (PyData.shownAll (rows.map dRow)) ≤ 42 * rows.length
  | [], _ => ⟨rfl, rfl, Nat.zero_le _, Nat.le_refl _⟩
  | r :: rs, h => by
    obtain ⟨i1, i2, i3, i4⟩ := rows_facts rs fun q hq => h q (List.mem_cons_of_mem _ hq)
    obtain ⟨j1, j2, j3, j4⟩ := row_show r (h r List.mem_cons_self).1 (h r List.mem_cons_self).2
    refine ⟨?_, ?_, ?_, ?_⟩
    · rw [List.map_cons, PyData.showableAll, j1, i1]
      rfl
    · rw [List.map_cons, PyData.hasDictAll, j2, i2]
      rfl
    · rw [List.map_cons, PyData.depthAll, j3]
      omega
    · rw [List.map_cons, PyData.shownAll, piled_cons, List.length_cons]
      omega
theorem dRows_facts {rows : List Row} (h : ∀ r ∈ rows, r.1.natAbs < 10 ^ 9 ∧ r.2.1.natAbs < 10 ^ 9) (hl : rows.length ≤ 1000) : (PyData.tuple (rows.map dRow)).showable = true ∧ (PyData.tuple (rows.map dRow)).hasDict = false ∧ (PyData.tuple (rows.map dRow)).depth ≤ 40 ∧ (PyData.tuple (rows.map dRow)).shown.length ≤ sizeLine := by
  obtain ⟨i1, i2, i3, i4⟩ := rows_facts rows h
  refine ⟨?_, ?_, ?_, ?_⟩
  · rw [PyData.showable]
    exact i1
  · rw [PyData.hasDict]
    exact i2
  · rw [PyData.depth]
    omega
  · rw [PyData.shown]
    have h1 := fmt_text (PyData.shownAll (rows.map dRow))
    have h3 : sizeLine = 2 ^ 24 := rfl
    omega
abbrev sLaw : Stmt := topS 10
abbrev nLaw : List Str := ["_law_script", "_law_k", "_law_draws_here", "_law_turn", "_law_rows_here", "_law_held", "_law_most"]
theorem scLaw : FnScope nLaw ["_law_script"] (defScope sLaw) := ⟨rfl, rfl, rfl, by decide +kernel, rfl, by decide +kernel, by decide +kernel⟩
def spLaw (K : PySem.W.Frag) : Sp := fun vs H Q _ => ∃ (a : Addr) (ns : List Int), vs = [.ref a] ∧ SqL K H a (ns.map V.int) ∧ ns.length ≤ 63 ∧ ∀ H', Q (.bl true) H'
section
variable {P : Program} {w : World} {K : PySem.W.Frag} {mg : Str → Option Value} {base : Heap}
theorem ok_law {f fE fD fB fP fS fT fR : Addr} {fd fdE fdD fdB fdP fdS fdT fdR : FuncData} (F : Fun K "law" "law" sLaw f fd) (FE : Fun K "emptied" "emptied" sEmp fE fdE) (FD : Fun K "_law_draws" "_law_draws" sDraws fD fdD) (FB : Fun K "_law_below" "_law_below" sBelow fB fdB)
    (FP : Fun K "_law_pick" "_law_pick" sPick fP fdP) (FS : Fun K "_law_sets" "_law_sets" sSets fS fdS) (FT : Fun K "_law_best" "_law_best" sBest fT fdT) (FR : Fun K "_law_rows" "_law_rows" sRows fR fdR)
    (bE : Binds K fdE ["pages", "moves"] []) (bD : Binds K fdD ["_law_script", "_law_k"] []) (bB : Binds K fdB ["_law_draws_here", "_law_many"] []) (bP : Binds K fdP ["_law_draws_here", "_law_items"] []) (bS : Binds K fdS ["_law_some"] []) (bT : Binds K fdT ["_law_rows_here", "_law_moves"] []) (bR : Binds K fdR ["_law_draws_here"] [])
    (gE : mg "emptied" = some (.ref fE)) (gD : mg "_law_draws" = some (.ref fD)) (gB : mg "_law_below" = some (.ref fB)) (gP : mg "_law_pick" = some (.ref fP)) (gS : mg "_law_sets" = some (.ref fS)) (gT : mg "_law_best" = some (.ref fT)) (gR : mg "_law_rows" = some (.ref fR))
    {tk : Tok} (mC : mg "CELLS" = some (.int 8 tk)) (mS : mg "sum" = none) (mL : mg "len" = none) (mO : mg "sorted" = none) (mT : mg "tuple" = none) (mA : mg "abs" = none) (mI : mg "int" = none) (mR : mg "range" = none) (mX : mg "max" = none) (mN : mg "min" = none) (mP : mg "repr" = none) :
    FnG P w K mg base CX0 4 f fd ["_law_script"] (spLaw K) := by
  have GE : FnOk P w K mg base CX0 3 fE fdE ["pages", "moves"] (spEmp K) := (ok_emp FE mC mS mL mO mT).mono (by decide)
  have GD : FnOk P w K mg base CX0 3 fD fdD ["_law_script", "_law_k"] (spDraws K) := (ok_draws FD mL mA mI).mono (by decide)
  have GB : FnOk P w K mg base CX0 3 fB fdB ["_law_draws_here", "_law_many"] spBelow := (ok_below FB).mono (by decide)
  have GR : FnOk P w K mg base CX0 3 fR fdR ["_law_draws_here"] (spRows K) := ok_rows FR FB FP bB bP gB gP mR mT mL
  have GT : FnOk P w K mg base CX0 3 fT fdT ["_law_rows_here", "_law_moves"] (spBest K) := (ok_best FT FS bS gS mS mL mT mN).mono (by decide)
  refine fng0_of F scLaw (fun vs H Q E h => ?_) (fun cdv A outer s H vs Q E hr gd h => ?_)
  · obtain ⟨a, ns, rfl, _⟩ := h
    rfl
  · obtain ⟨a, ns, rfl, hS, hlen, q⟩ := h
    refine ⟨_, pss_cons (ps_for PassesOwn.never rfl (pi_range1 (by rfl) mR (pa_cons (pe_callB (call_max2 rfl) (by rfl) mX boot_max (pa_cons pe_int (pa_cons (pe_callB (call_min2 rfl) (by rfl) mN boot_min (pa_cons pe_int (pa_cons (pe_callB call_len_seq (by rfl) mL PySem.boot_len (pa_cons (pv 0) pa_nil)) pa_nil))) pa_nil))) pa_nil)) (pg_name (i := 1) scLaw.nd rfl (.inl rfl))
        (pss_cons (ps_set (i := 2) scLaw.nd rfl (.inl rfl) (pe_call GD hr (by rfl) gD FD.kp bD .nil pass0 (pa_cons (pv 0) (pa_cons (pv 1) pa_nil))))
        (pss_one (ps_for PassesOwn.never rfl (pi_range1 (by rfl) mR (pa_cons pe_int pa_nil)) (pg_name (i := 3) scLaw.nd rfl (.inl rfl))
          (pss_cons (ps_set (i := 4) scLaw.nd rfl (.inl rfl) (pe_call GR hr (by rfl) gR FR.kp bR .nil pass0 (pa_cons (pv 2) pa_nil)))
          (pss_cons (ps_set (i := 5) scLaw.nd rfl (.inl rfl) (pe_callB (call_reprD gd hr.units) (by rfl) mP boot_repr (pa_cons (pv 4) pa_nil)))
          (pss_one (ps_for PassesOwn.never rfl (pi_tup (pe_tup (pa_cons pe_int (pa_cons pe_int (pa_cons (pe_call GB hr (by rfl) gB FB.kp bB .nil pass0 (pa_cons (pv 2) (pa_cons pe_int pa_nil))) (pa_cons (pe_call GB hr (by rfl) gB FB.kp bB .nil pass0 (pa_cons (pv 2) (pa_cons pe_int pa_nil))) (pa_cons pe_int (pa_cons pe_int pa_nil)))))))) (pg_name (i := 6) scLaw.nd rfl (.inl rfl))
            (pss_one (ps_if (pw_or (pt_cmpR op_ne (pe_callB (call_reprD gd hr.units) (by rfl) mP boot_repr (pa_cons (pe_call GE hr (by rfl) gE FE.kp bE .nil pass0 (pa_cons (pv 4) (pa_cons (pv 6) pa_nil))) pa_nil)) (pe_callB (call_reprD gd hr.units) (by rfl) mP boot_repr (pa_cons (pe_call GT hr (by rfl) gT FT.kp bT .nil pass0 (pa_cons (pv 4) (pa_cons (pv 6) pa_nil))) pa_nil)) (nomark _))
                (pw_or1 (pt_cmpR op_ne (pe_callB (call_reprD gd hr.units) (by rfl) mP boot_repr (pa_cons (pv 4) pa_nil)) (pv 5) (nomark _)))).pt (pss_one (ps_ret pe_bl)) pss_nil))))))))))
      (pss_one (ps_ret pe_bl)), ?_⟩
    refine ⟨.ref a, rfl, a, _, rfl, .inl hS, 3, _, rfl, 1, _, rfl, _, rfl, ?_, ?_, ?_⟩
    · split <;> (try split) <;> omega
    · split <;> (try split) <;> omega
    have hn : (if (if ((ns.map V.int).length : Int) < 3 then ((ns.map V.int).length : Int) else 3) > 1 then (if ((ns.map V.int).length : Int) < 3 then ((ns.map V.int).length : Int) else 3) else 1).toNat ≤ 3 := by
      split <;> (try split) <;> omega
    refine for_range (lo := 0) (fun i σ' H' => ∃ y1 y2 y3 y4 y5 y6, σ' = [some (.ref a), y1, y2, y3, y4, y5, y6] ∧ Ex H H') ⟨none, none, none, none, none, none, rfl, Ex.refl H⟩ ?_ ?_
    · rintro i σ' H1 hi ⟨y1, y2, y3, y4, y5, y6, rfl, e1⟩
      dsimp only [gName]
      refine st_seq ?_
      refine ⟨.ref a, rfl, .int (0 + (i : Int)), rfl, a, ns, 0 + (i : Int), rfl, ex_l e1 hS, hlen, by omega, by omega, fun H2 d e2 hd pot => ?_⟩
      have hdN : H d = none := fresh_back e1 hd
      dsimp only [gName]
      refine ⟨10, rfl, by decide, by decide, ?_⟩
      refine for_range (lo := 0) (n := 10) (fun t σ' H' => ∃ y3 y4 y5 y6, σ' = [some (.ref a), some (.int (0 + (i : Int))), some (.ref d), y3, y4, y5, y6] ∧ Ex H H' ∧ Pot H' d (300 * (t : Int))) ⟨y3, y4, y5, y6, rfl, e1.trans e2, pot.up (by omega)⟩ ?_ ?_
      · rintro t σ' H3 ht ⟨y3, y4, y5, y6, rfl, e3, pot3⟩
        have ht2 : (t : Int) < 10 := by omega
        dsimp only [gName]
        refine st_seq ?_
        refine ⟨.ref d, rfl, d, _, rfl, pot3, by omega, fun H4 ar rs off4 pot4 hR hl hD => ?_⟩
        have e4 : Ex H H4 := (Off.of e3).trans off4 |>.ex hdN
        have hl2 : (rs.map (·.2)).length ≤ 1000 := by rw [List.length_map]; omega
        have small : ∀ r ∈ rs.map (·.2), r.1.natAbs < 10 ^ 9 ∧ r.2.1.natAbs < 10 ^ 9 := fun r hr => by
          have := hD.2 r hr
          omega
        have rf := dRows_facts small hl2
        have dat : ∀ {Ha : Hp}, RowsAt K Ha ar rs → Dp K Ha (.ref ar) (.tuple ((rs.map (·.2)).map dRow)) := fun h => by
          rw [List.map_map]
          exact .tup h.1 (dp_rows rs h.2)
        dsimp only [gName]
        -- held
        refine st_seq ?_
        refine ⟨.ref ar, rfl, .ref ar, _, rfl, dat hR, rf.1, rf.2.1, rf.2.2.1, rf.2.2.2, ?_⟩
        dsimp only [gName]
        refine rd_below (ev_var rfl) ev_c pot4 (by omega) (by decide) (by decide) fun H6 r6 off6 pot6 r60 r61 => ?_
        refine rd_below (ev_var rfl) ev_c pot6 (by omega) (by decide) (by decide) fun H7 r7 off7 pot7 r70 r71 => ?_
        have hR7 : RowsAt K H7 ar rs := hR.off pot4 (off6.trans off7)
        have e7 : Ex H H7 := ((Off.of e4).trans (off6.trans off7)).ex hdN
        clear hR
        refine ⟨by show 6 ≤ sizeLine; decide, fun tp htp => ?_⟩
        have et : Ex H7 (upd H7 tp (.tup [V.int 0, .int 1, .int r6, .int r7, .int 64, .int 10000])) := Ex.new htp
        have hT : (upd H7 tp (.tup [V.int 0, .int 1, .int r6, .int r7, .int 64, .int 10000])) tp = some (.tup [V.int 0, .int 1, .int r6, .int r7, .int 64, .int 10000]) := upd_same
        have pot8 := pot7.ex et
        have hR8 := hR7.ex et
        have e8 := e7.trans et
        generalize upd H7 tp (.tup [V.int 0, .int 1, .int r6, .int r7, .int 64, .int 10000]) = H8 at hT pot8 hR8 e8 ⊢
        refine ⟨tp, rfl, ⟨_, st_of hT⟩, ?_⟩
        refine for_tup (xs := [V.int 0, .int 1, .int r6, .int r7, .int 64, .int 10000]) (fun j σ' H' => ∃ y6, σ' = [some (.ref a), some (.int (0 + (i : Int))), some (.ref d), some (.int (0 + (t : Int))), some (.ref ar), some (.str (PyData.tuple ((rs.map (·.2)).map dRow)).shown), y6] ∧ Ex H8 H') ⟨_, rfl, Ex.refl H8⟩ ?_ ?_ ?_
        · rintro j σ' H' _ ⟨_, _, e9⟩
          exact ex_t e9 (st_of hT)
        · rintro j x σ' H9 hx ⟨y6, rfl, e9⟩
          obtain ⟨m, rfl, m0⟩ : ∃ m, x = V.int m ∧ 0 ≤ m := by
            match j, hx with
            | 0, hx => exact ⟨0, (Option.some.inj hx).symm, by decide⟩
            | 1, hx => exact ⟨1, (Option.some.inj hx).symm, by decide⟩
            | 2, hx => exact ⟨r6, (Option.some.inj hx).symm, r60⟩
            | 3, hx => exact ⟨r7, (Option.some.inj hx).symm, r70⟩
            | 4, hx => exact ⟨64, (Option.some.inj hx).symm, by decide⟩
            | 5, hx => exact ⟨10000, (Option.some.inj hx).symm, by decide⟩
          dsimp only [gName]
          have hR9 := hR8.ex e9
          have es : ∀ n ∈ emp (rs.map (·.2)) m, n.natAbs < 10 ^ 9 := by
            intro n hn
            obtain ⟨r, hr, rfl⟩ := emp_mem hn
            exact (small r hr).1
          have facts := tupI_facts es (Nat.le_trans (emp_len _ _) (by omega))
          refine ⟨.ref ar, rfl, .int m, rfl, ar, rs, m, rfl, hR9, by omega, fun H10 tq e10 hq h10 => ?_⟩
          refine ⟨.ref tq, _, rfl, dp_tupI (st_of h10), facts.1, facts.2.1, facts.2.2.1, facts.2.2.2, ?_⟩
          refine ⟨.ref ar, rfl, .int m, rfl, ar, rs, m, rfl, hR9.ex e10, by omega, hD, m0, fun H11 tu e11 h11 => ?_⟩
          refine ⟨.ref tu, _, rfl, dp_tupI (st_of h11), facts.1, facts.2.1, facts.2.2.1, facts.2.2.2, ?_⟩
          refine ⟨rfl, _, rfl, ?_⟩
          dsimp only
          rw [decide_eq_true rfl]
          rw [if_neg (show ¬ (!true) = true from Bool.false_ne_true)]
          have e911 := e10.trans e11
          refine ⟨.ref ar, rfl, .ref ar, _, rfl, dat (hR9.ex e911), rf.1, rf.2.1, rf.2.2.1, rf.2.2.2, _, rfl, rfl, _, rfl, ?_⟩
          dsimp only
          rw [decide_eq_true rfl]
          rw [if_neg (show ¬ (!true) = true from Bool.false_ne_true)]
          exact ⟨_, rfl, e9.trans e911⟩
        · rintro σ' H' ⟨y6, rfl, e9⟩
          exact ⟨_, _, _, _, rfl, e8.trans e9, (pot8.ex e9).up (by push_cast; omega)⟩
      · rintro σ' H' ⟨y3, y4, y5, y6, rfl, e3, _⟩
        exact ⟨_, _, _, _, _, _, rfl, e3⟩
    · rintro σ' H' _
      exact q H'
end
end Pg
namespace Pg
open PySem PySem.Spec PyProof.Rows L2 Evl Gd
/-- a def of the top, as the head finds it -/
structure At (K : PySem.W.Frag) (x : Str) (st : Stmt) (f : Addr) : Prop where
  nm : PySem.W.nsIn K mainGlobals x = some (some (.ref f))
  ex : ∃ (oc kV doc pm cdv ct : Value) (od an : Option Addr) (sl : Array (Option Value)), K.lookup f = some ⟨oc, od, .func (PySem.W.fnOf x x (defArgs st) (defBody st) (defScope st) .none kV doc pm an cdv ct), sl⟩ ∧ PySem.W.codeIn K cdv x = true
  kp : PySem.W.keepIn K (.ref f) = true
theorem At.of {K : PySem.W.Frag} {x : Str} {st : Stmt} {f : Addr} {oc kV doc pm cdv ct : Value} {od an : Option Addr} {sl : Array (Option Value)} (n : PySem.W.nsIn K mainGlobals x = some (some (.ref f))) (l : K.lookup f = some ⟨oc, od, .func (PySem.W.fnOf x x (defArgs st) (defBody st) (defScope st) .none kV doc pm an cdv ct), sl⟩)
    (c : PySem.W.codeIn K cdv x = true) (k : PySem.W.keepIn K (.ref f) = true) : At K x st f := ⟨n, ⟨oc, kV, doc, pm, cdv, ct, od, an, sl, l, c⟩, k⟩
theorem At.fn {K : PySem.W.Frag} {x : Str} {st : Stmt} {f : Addr} (a : At K x st f) : ∃ fd, Fun K x x st f fd := by
  obtain ⟨oc, kV, doc, pm, cdv, ct, od, an, sl, l, c⟩ := a.ex
  exact ⟨_, fun_mk l c a.kp⟩
theorem top_ok {l : PySem.W.OpenLaw} {w : World} {K : PySem.W.Frag} {h : Heap} {mg : Str → Option Value} {fa f fE fD fB fP fS fT fR : Addr} (X : K.In h) (G : h.Ns mainGlobals mg) (hfa : mg "law" = some (.ref fa))
    (aL : At K "law" sLaw f) (aE : At K "emptied" sEmp fE) (aD : At K "_law_draws" sDraws fD) (aB : At K "_law_below" sBelow fB) (aP : At K "_law_pick" sPick fP) (aS : At K "_law_sets" sSets fS) (aT : At K "_law_best" sBest fT) (aR : At K "_law_rows" sRows fR)
    {tk : Tok} (c : PySem.W.nsIn K mainGlobals "CELLS" = some (some (.int 8 tk))) (z1 : PySem.W.nsIn K mainGlobals "sum" = some none) (z2 : PySem.W.nsIn K mainGlobals "len" = some none) (z3 : PySem.W.nsIn K mainGlobals "sorted" = some none)
    (z4 : PySem.W.nsIn K mainGlobals "tuple" = some none) (z5 : PySem.W.nsIn K mainGlobals "abs" = some none) (z6 : PySem.W.nsIn K mainGlobals "int" = some none) (z7 : PySem.W.nsIn K mainGlobals "range" = some none) (z8 : PySem.W.nsIn K mainGlobals "max" = some none)
    (z9 : PySem.W.nsIn K mainGlobals "min" = some none) (z10 : PySem.W.nsIn K mainGlobals "repr" = some none) :
    ∃ fd : FuncData, (∀ (s : Shared) (v : Value), BindsTo s fd ⟨[v], []⟩ [("_law_script", v)]) ∧ ∀ base : Heap, K.In base → base.Ns mainGlobals mg → FnG l.prog w K mg base CX0 4 fa fd ["_law_script"] (spLaw K) := by
  have e := hfa.symm.trans (PySem.W.mg_of X G aL.nm)
  cases e
  obtain ⟨fd, F⟩ := aL.fn
  obtain ⟨fdE, FE⟩ := aE.fn
  obtain ⟨fdD, FD⟩ := aD.fn
  obtain ⟨fdB, FB⟩ := aB.fn
  obtain ⟨fdP, FP⟩ := aP.fn
  obtain ⟨fdS, FS⟩ := aS.fn
  obtain ⟨fdT, FT⟩ := aT.fn
  obtain ⟨fdR, FR⟩ := aR.fn
  have bE := FE.binds (ps := ["pages", "moves"]) fun _ _ _ _ _ _ us hl => match us, hl with | [_, _], _ => rfl
  have bD := FD.binds (ps := ["_law_script", "_law_k"]) fun _ _ _ _ _ _ us hl => match us, hl with | [_, _], _ => rfl
  have bB := FB.binds (ps := ["_law_draws_here", "_law_many"]) fun _ _ _ _ _ _ us hl => match us, hl with | [_, _], _ => rfl
  have bP := FP.binds (ps := ["_law_draws_here", "_law_items"]) fun _ _ _ _ _ _ us hl => match us, hl with | [_, _], _ => rfl
  have bS := FS.binds (ps := ["_law_some"]) fun _ _ _ _ _ _ us hl => match us, hl with | [_], _ => rfl
  have bT := FT.binds (ps := ["_law_rows_here", "_law_moves"]) fun _ _ _ _ _ _ us hl => match us, hl with | [_, _], _ => rfl
  have bR := FR.binds (ps := ["_law_draws_here"]) fun _ _ _ _ _ _ us hl => match us, hl with | [_], _ => rfl
  refine ⟨fd, fun s v => ?_, fun base _ _ => ok_law F FE FD FB FP FS FT FR bE bD bB bP bS bT bR (PySem.W.mg_of X G aE.nm) (PySem.W.mg_of X G aD.nm) (PySem.W.mg_of X G aB.nm) (PySem.W.mg_of X G aP.nm) (PySem.W.mg_of X G aS.nm) (PySem.W.mg_of X G aT.nm) (PySem.W.mg_of X G aR.nm)
    (PySem.W.mg_of X G c) (PySem.W.mg_none_of X G z1) (PySem.W.mg_none_of X G z2) (PySem.W.mg_none_of X G z3) (PySem.W.mg_none_of X G z4) (PySem.W.mg_none_of X G z5) (PySem.W.mg_none_of X G z6) (PySem.W.mg_none_of X G z7) (PySem.W.mg_none_of X G z8) (PySem.W.mg_none_of X G z9) (PySem.W.mg_none_of X G z10)⟩
  obtain ⟨oc, od, kV, doc, pm, an, cdv, ct, osl, rfl, _⟩ := F.ex
  exact .of_eq rfl
end Pg
open PySem PySem.W PyProof.Rows
set_option maxHeartbeats 0 in
theorem PySem.Challenge.cw_crossheaps_k29_pages_emptied_by_all_sets_holds : PySem.Challenge.rw_crossheaps_k29_pages_emptied_by_all_sets.Holds := by
  w_on; o_law; k_head; (case hw => w_witness2)
  k_fill
  refine Gd.walkG (l := PySem.Challenge.rw_crossheaps_k29_pages_emptied_by_all_sets) (n := 63) (k := 4) (x := "_law_script") (CX := fun _ => L2.CX0) (sp := fun w => Pg.spLaw _) rfl (by decide) rfl ⟨rfl, by decide, by decide⟩ (fun w h Y => PySem.W.kIn_of Y) ?F (fun _ _ a ns hl _ hS => ⟨a, ns, rfl, hS, hl, fun _ => rfl⟩) (fun _ _ _ _ _ h => h)
  case F =>
    intro w mg fa h KX G hmg
    refine' Pg.top_ok KX G hmg (.of ?n1 ?l1 ?c1 ?k1) (.of ?n2 ?l2 ?c2 ?k2) (.of ?n3 ?l3 ?c3 ?k3) (.of ?n4 ?l4 ?c4 ?k4) (.of ?n5 ?l5 ?c5 ?k5) (.of ?n6 ?l6 ?c6 ?k6) (.of ?n7 ?l7 ?c7 ?k7) (.of ?n8 ?l8 ?c8 ?k8) ?c ?z1 ?z2 ?z3 ?z4 ?z5 ?z6 ?z7 ?z8 ?z9 ?z10
    (case n1 => k_is); (case l1 => k_is); (case c1 => k_is); (case k1 => k_is)
    (case n2 => k_is); (case l2 => k_is); (case c2 => k_is); (case k2 => k_is)
    (case n3 => k_is); (case l3 => k_is); (case c3 => k_is); (case k3 => k_is)
    (case n4 => k_is); (case l4 => k_is); (case c4 => k_is); (case k4 => k_is)
    (case n5 => k_is); (case l5 => k_is); (case c5 => k_is); (case k5 => k_is)
    (case n6 => k_is); (case l6 => k_is); (case c6 => k_is); (case k6 => k_is)
    (case n7 => k_is); (case l7 => k_is); (case c7 => k_is); (case k7 => k_is)
    (case n8 => k_is); (case l8 => k_is); (case c8 => k_is); (case k8 => k_is)
    (case c => k_is); (case z1 => k_is); (case z2 => k_is); (case z3 => k_is); (case z4 => k_is); (case z5 => k_is); (case z6 => k_is); (case z7 => k_is); (case z8 => k_is); (case z9 => k_is); (case z10 => k_is)
