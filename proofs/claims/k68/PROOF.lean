import PyProof.Rows.All
import Wide.All
import OpenK.AllK
import Wide.FinOn
import PySem.Challenge.RW_crossheaps_k68_rows_of_any_form
import HandS.Base
import HandS.List
import HandS.ForMost
import HandS.Evl
import HandS.IsInst
import KE.DataEq
import KE.KExcSuper
import HandS.ExcInit
import HandS.FStr
import KE.KExcIs
import HandS.ExcField
import HandS.ExcIs
import HandS.ExcValue
import HandS.TryOnly
import HandS.SortRule
import HandS.FStrTup
import HandS.Iter
import HandS.Walk
import HandS.DictTup
import KE.KDictWalk
import KE.KPairComp
import HandS.SortInts
import HandS.Conv
import HandS.Wide
import HandS.SetKeys
import HandS.Steps
import HandS.Star
import HandS.DictComp
import HandS.Style
import HandS.More
import HandS.Flow
import HandS.Text
import HandS.Codes
import HandS.HeadHook3
import HandS.StrMore
import HandS.SetFor
import HandS.CallLocal
import HandS.Dict
import HandS.Strs
import HandS.Call
import HandS.ExcOwn
import PyProof.Rows.TupMore
import PyProof.Rows.IntBool
import PyProof.Rows.EqBoolInt
set_option Elab.async false
set_option linter.all false
set_option maxRecDepth 100000
set_option maxHeartbeats 8000000
namespace Gd
open PySem L2
/-! The order of tuples of keys. -/
def kLt : Key → Key → Bool
  | .inl a, .inl b => decide (a < b)
  | .inr a, .inr b => decide (a.cps.toList < b.cps.toList)
  | .inl _, .inr _ => true
  | .inr _, .inl _ => false
def ksLt : List Key → List Key → Bool
  | [], [] => false
  | [], _ :: _ => true
  | _ :: _, [] => false
  | a :: r, b :: s => if a = b then ksLt r s else kLt a b
theorem str_ext {a b : Str} (h : a.cps.toList = b.cps.toList) : a = b := by
  cases a
  cases b
  simp only at h
  rw [Array.toList_inj.mp h]
theorem kLt_irr : ∀ a : Key, kLt a a = false
  | .inl a => decide_eq_false (Int.lt_irrefl a)
  | .inr a => decide_eq_false (List.lt_irrefl _)
theorem kLt_as : ∀ {a b : Key}, kLt a b = true → kLt b a = false
  | .inl a, .inl b, h => decide_eq_false (by have := of_decide_eq_true h; omega)
  | .inr a, .inr b, h => decide_eq_false (fun q => List.lt_irrefl _ (List.lt_trans (of_decide_eq_true h) q))
  | .inl _, .inr _, _ => rfl
  | .inr _, .inl _, h => nomatch h
theorem kLt_tri : ∀ {a b : Key}, kLt a b = false → kLt b a = false → a = b
  | .inl a, .inl b, h, g => by
    have h1 := of_decide_eq_false h
    have h2 := of_decide_eq_false g
    rw [show a = b from by omega]
  | .inr a, .inr b, h, g => by
    have h1 := of_decide_eq_false h
    have h2 := of_decide_eq_false g
    rw [str_ext (List.le_antisymm (List.not_lt.mp h2) (List.not_lt.mp h1))]
  | .inl _, .inr _, h, _ => nomatch h
  | .inr _, .inl _, _, g => nomatch g
theorem kLt_tr : ∀ {a b c : Key}, kLt a b = true → kLt b c = true → kLt a c = true
  | .inl a, .inl b, .inl c, h, g => decide_eq_true (by have := of_decide_eq_true h; have := of_decide_eq_true g; omega)
  | .inr a, .inr b, .inr c, h, g => decide_eq_true (List.lt_trans (of_decide_eq_true h) (of_decide_eq_true g))
  | .inl _, .inl _, .inr _, _, _ => rfl
  | .inl _, .inr _, .inr _, _, _ => rfl
  | .inl _, .inr _, .inl _, _, g => nomatch g
  | .inr _, .inl _, _, h, _ => nomatch h
  | .inr _, .inr _, .inl _, _, g => nomatch g
theorem ksLt_irr : ∀ a : List Key, ksLt a a = false
  | [] => rfl
  | a :: r => by
    rw [ksLt, if_pos rfl]
    exact ksLt_irr r
theorem ksLt_as : ∀ {a b : List Key}, ksLt a b = true → ksLt b a = false
  | [], [], h => nomatch h
  | [], _ :: _, _ => rfl
  | _ :: _, [], h => nomatch h
  | a :: r, b :: s, h => by
    rw [ksLt] at h ⊢
    by_cases e : a = b
    · rw [if_pos e] at h
      rw [if_pos e.symm]
      exact ksLt_as h
    · rw [if_neg e] at h
      rw [if_neg (fun q => e q.symm)]
      exact kLt_as h
theorem ksLt_tri : ∀ {a b : List Key}, ksLt a b = false → ksLt b a = false → a = b
  | [], [], _, _ => rfl
  | [], _ :: _, h, _ => nomatch h
  | _ :: _, [], _, h => nomatch h
  | a :: r, b :: s, h, g => by
    rw [ksLt] at h g
    by_cases e : a = b
    · rw [if_pos e] at h
      rw [if_pos e.symm] at g
      rw [e, ksLt_tri h g]
    · rw [if_neg e] at h
      rw [if_neg (fun q => e q.symm)] at g
      exact absurd (kLt_tri h g) e
theorem ksLt_tr : ∀ {a b c : List Key}, ksLt a b = true → ksLt b c = true → ksLt a c = true
  | [], [], _, h, _ => nomatch h
  | [], _ :: _, [], _, g => nomatch g
  | [], _ :: _, _ :: _, _, _ => rfl
  | _ :: _, [], _, h, _ => nomatch h
  | _ :: _, _ :: _, [], _, g => nomatch g
  | a :: r, b :: s, c :: t, h, g => by
    rw [ksLt] at h g ⊢
    by_cases e : a = b
    · subst e
      rw [if_pos rfl] at h
      by_cases e2 : a = c
      · rw [if_pos e2] at g ⊢
        exact ksLt_tr h g
      · rw [if_neg e2] at g ⊢
        exact g
    · rw [if_neg e] at h
      by_cases e2 : b = c
      · subst e2
        rw [if_neg e]
        exact h
      · rw [if_neg e2] at g
        have e3 : a ≠ c := fun q => by
          subst q
          rw [kLt_as h] at g
          cases g
        rw [if_neg e3]
        exact kLt_tr h g
theorem ksLt_ntr {a b c : List Key} (h : ksLt a b = false) (g : ksLt b c = false) : ksLt a c = false := by
  cases q : ksLt a c with
  | false => rfl
  | true =>
    cases p : ksLt b a with
    | true =>
      rw [ksLt_tr p q] at g
      cases g
    | false =>
      have e := ksLt_tri h p
      subst e
      rw [q] at g
      cases g
end Gd
namespace Sn
open PySem PySem.Spec PyProof.Rows L2
/-! Data of tuples, texts, ints and None, as it lies in a heap; snapshots. -/
def Exx (H H' : Hp) : Prop := ∀ a o, H a = some o → H' a = some o
mutual
inductive Td (K : PySem.W.Frag) (H : Hp) : V → PyData → Prop
  | non : Td K H .non .none
  | int (i : Int) : Td K H (.int i) (.int i)
  | str (x : Str) : Td K H (.str x) (.str x)
  | tup {a : Addr} {xs : List V} {ds : List PyData} : SqT K H a xs → TdAll K H xs ds → Td K H (.ref a) (.tuple ds)
inductive TdAll (K : PySem.W.Frag) (H : Hp) : List V → List PyData → Prop
  | nil : TdAll K H [] []
  | cons {v : V} {vs : List V} {d : PyData} {ds : List PyData} : Td K H v d → TdAll K H vs ds → TdAll K H (v :: vs) (d :: ds)
end
section
variable {K : PySem.W.Frag} {H H' : Hp} {x : V} {xs ys : List V} {d : PyData} {ds es : List PyData}
/-- what H' keeps of the tuples -/
def KeepT (K : PySem.W.Frag) (H H' : Hp) : Prop := ∀ a xs, SqT K H a xs → SqT K H' a xs
theorem KeepT.of (e : ∀ a o, H a = some o → H' a = some o) : KeepT K H H' := by
  intro a xs h
  rcases h with (h | ⟨o, h⟩) | h
  · exact .inl (.inl (e _ _ h))
  · exact .inl (.inr ⟨o, e _ _ h⟩)
  · exact .inr h
/-- all but a list, a dict or an instance stays -/
theorem KeepT.off {p : Addr} {u : HO} (hp : H p = some u) (hu : (∀ xs, u ≠ .tup xs) ∧ ∀ o v, u ≠ .frz o v) (e : ∀ a o, a ≠ p → H a = some o → H' a = some o) : KeepT K H H' := by
  intro a xs h
  rcases h with (h | ⟨o, h⟩) | h
  · exact .inl (.inl (e _ _ (fun q => by
      rw [q, hp] at h
      exact hu.1 _ (Option.some.inj h)) h))
  · exact .inl (.inr ⟨o, e _ _ (fun q => by
      rw [q, hp] at h
      exact hu.2 _ _ (Option.some.inj h)) h⟩)
  · exact .inr h
theorem KeepT.lst {p : Addr} {zs : List V} (hp : H p = some (.lst zs)) (e : ∀ a o, a ≠ p → H a = some o → H' a = some o) : KeepT K H H' := .off hp ⟨(fun _ z => nomatch z), (fun _ _ z => nomatch z)⟩ e
mutual
theorem Td.keep (k : KeepT K H H') : ∀ {x : V} {d : PyData}, Td K H x d → Td K H' x d
  | _, _, .non => .non
  | _, _, .int i => .int i
  | _, _, .str x => .str x
  | _, _, .tup h a => .tup (k _ _ h) (TdAll.keep k a)
theorem TdAll.keep (k : KeepT K H H') : ∀ {xs : List V} {ds : List PyData}, TdAll K H xs ds → TdAll K H' xs ds
  | _, _, .nil => .nil
  | _, _, .cons h a => .cons (Td.keep k h) (TdAll.keep k a)
end
theorem Td.ex (e : ∀ a o, H a = some o → H' a = some o) (h : Td K H x d) : Td K H' x d := h.keep (.of e)
theorem TdAll.ex (e : ∀ a o, H a = some o → H' a = some o) (h : TdAll K H xs ds) : TdAll K H' xs ds := h.keep (.of e)
mutual
theorem Td.dp : ∀ {x : V} {d : PyData}, Td K H x d → Dp K H x d
  | _, _, .non => .non
  | _, _, .int i => .int i
  | _, _, .str x => .str x
  | _, _, .tup h a => .tup h (TdAll.dp a)
theorem TdAll.dp : ∀ {xs : List V} {ds : List PyData}, TdAll K H xs ds → DpAll K H xs ds
  | _, _, .nil => .nil
  | _, _, .cons h a => .cons (Td.dp h) (TdAll.dp a)
end
theorem TdAll.len : ∀ {xs : List V} {ds : List PyData}, TdAll K H xs ds → xs.length = ds.length
  | _, _, .nil => rfl
  | _, _, .cons _ a => by rw [List.length_cons, List.length_cons, TdAll.len a]
theorem TdAll.snoc : ∀ {xs : List V} {ds : List PyData} {x : V} {d : PyData}, TdAll K H xs ds → Td K H x d → TdAll K H (xs ++ [x]) (ds ++ [d])
  | _, _, _, _, .nil, h => .cons h .nil
  | _, _, _, _, .cons a b, h => .cons a (b.snoc h)
theorem TdAll.app : ∀ {xs ys : List V} {ds es : List PyData}, TdAll K H xs ds → TdAll K H ys es → TdAll K H (xs ++ ys) (ds ++ es)
  | _, _, _, _, .nil, h => h
  | _, _, _, _, .cons a b, h => .cons a (b.app h)
theorem TdAll.get : ∀ {xs : List V} {ds : List PyData} {i : Nat} {x : V}, TdAll K H xs ds → xs[i]? = some x → ∃ d, ds[i]? = some d ∧ Td K H x d
  | _, _, _, _, .nil, h => by simp at h
  | _, _, 0, _, .cons a _, h => ⟨_, rfl, by
    have e := Option.some.inj h
    rw [← e]
    exact a⟩
  | _, _, i + 1, _, .cons _ b, h => by
    obtain ⟨d, h1, h2⟩ := TdAll.get (i := i) b (by simpa using h)
    exact ⟨d, by simpa using h1, h2⟩
theorem TdAll.at : ∀ {xs : List V} {ds : List PyData} {i : Nat} {d : PyData}, TdAll K H xs ds → ds[i]? = some d → ∃ x, xs[i]? = some x ∧ Td K H x d
  | _, _, _, _, .nil, h => by simp at h
  | _, _, 0, _, .cons a _, h => ⟨_, rfl, by
    have e := Option.some.inj h
    rw [← e]
    exact a⟩
  | _, _, i + 1, _, .cons _ b, h => by
    obtain ⟨d, h1, h2⟩ := TdAll.at (i := i) b (by simpa using h)
    exact ⟨d, by simpa using h1, h2⟩
theorem Td.inv_tup (h : Td K H x (.tuple ds)) : ∃ p xs, x = .ref p ∧ SqT K H p xs ∧ TdAll K H xs ds := by
  cases h with
  | tup a b => exact ⟨_, _, rfl, a, b⟩
theorem Td.inv_int {i : Int} (h : Td K H x (.int i)) : x = .int i := by cases h <;> rfl
theorem Td.inv_str {z : Str} (h : Td K H x (.str z)) : x = .str z := by cases h <;> rfl
theorem Td.inv_non (h : Td K H x .none) : x = .non := by cases h <;> rfl
theorem TdAll.inv_cons (h : TdAll K H xs (d :: ds)) : ∃ y ys, xs = y :: ys ∧ Td K H y d ∧ TdAll K H ys ds := by
  cases h with
  | cons a b => exact ⟨_, _, rfl, a, b⟩
theorem TdAll.inv_nil (h : TdAll K H xs []) : xs = [] := by cases h <;> rfl
theorem TdAll.ints : ∀ ns : List Int, TdAll K H (ns.map V.int) (ns.map .int)
  | [] => .nil
  | n :: r => .cons (.int n) (TdAll.ints r)
theorem TdAll.inv_ints : ∀ {xs : List V} (ns : List Int), TdAll K H xs (ns.map .int) → xs = ns.map V.int
  | _, [], h => h.inv_nil
  | _, n :: r, h => by
    obtain ⟨y, ys, rfl, h1, h2⟩ := TdAll.inv_cons h
    rw [h1.inv_int, TdAll.inv_ints r h2]
    rfl
/-- a tuple of three, of four, of two -/
theorem Td.inv2 {d1 d2 : PyData} (h : Td K H x (.tuple [d1, d2])) : ∃ p y z, x = .ref p ∧ SqT K H p [y, z] ∧ Td K H y d1 ∧ Td K H z d2 := by
  obtain ⟨p, xs, rfl, h1, h2⟩ := h.inv_tup
  obtain ⟨y, ys, rfl, a, h2⟩ := h2.inv_cons
  obtain ⟨z, zs, rfl, b, h2⟩ := h2.inv_cons
  rw [h2.inv_nil] at h1
  exact ⟨p, y, z, rfl, h1, a, b⟩
theorem Td.inv3 {d1 d2 d3 : PyData} (h : Td K H x (.tuple [d1, d2, d3])) : ∃ p y z u, x = .ref p ∧ SqT K H p [y, z, u] ∧ Td K H y d1 ∧ Td K H z d2 ∧ Td K H u d3 := by
  obtain ⟨p, xs, rfl, h1, h2⟩ := h.inv_tup
  obtain ⟨y, ys, rfl, a, h2⟩ := h2.inv_cons
  obtain ⟨z, zs, rfl, b, h2⟩ := h2.inv_cons
  obtain ⟨u, us, rfl, c, h2⟩ := h2.inv_cons
  rw [h2.inv_nil] at h1
  exact ⟨p, y, z, u, rfl, h1, a, b, c⟩
theorem Td.inv4 {d1 d2 d3 d4 : PyData} (h : Td K H x (.tuple [d1, d2, d3, d4])) : ∃ p y z u v, x = .ref p ∧ SqT K H p [y, z, u, v] ∧ Td K H y d1 ∧ Td K H z d2 ∧ Td K H u d3 ∧ Td K H v d4 := by
  obtain ⟨p, xs, rfl, h1, h2⟩ := h.inv_tup
  obtain ⟨y, ys, rfl, a, h2⟩ := h2.inv_cons
  obtain ⟨z, zs, rfl, b, h2⟩ := h2.inv_cons
  obtain ⟨u, us, rfl, c, h2⟩ := h2.inv_cons
  obtain ⟨v, vs, rfl, e, h2⟩ := h2.inv_cons
  rw [h2.inv_nil] at h1
  exact ⟨p, y, z, u, v, rfl, h1, a, b, c, e⟩
end
/-! ### snapshots -/
inductive Part where
  | tgt (n : Int)
  | pair (k : Int) (v : Option Int)
def dOpt : Option Int → PyData
  | none => .none
  | some v => .int v
def dPart : Part → PyData
  | .tgt n => .int n
  | .pair k v => .tuple [.int k, dOpt v]
structure Thing where
  n : Int
  home : Str
  sort : Str
  parts : List Part
def dThing (t : Thing) : PyData := .tuple [.int t.n, .str t.home, .str t.sort, .tuple (t.parts.map dPart)]
def dRoot (r : Str × Int) : PyData := .tuple [.str r.1, .int r.2]
structure Shot where
  roots : List (Str × Int)
  things : List Thing
def dShot (s : Shot) : PyData := .tuple [.tuple (s.roots.map dRoot), .tuple (s.things.map dThing)]
/-- records have slots with objects, maps entries, weak objects targets -/
def OkThing (t : Thing) : Prop := (t.sort = "record" ∧ ∀ p ∈ t.parts, ∃ k v, p = .pair k (some v)) ∨ (t.sort = "map" ∧ ∀ p ∈ t.parts, ∃ k v, p = .pair k v) ∨ (t.sort = "weak" ∧ ∀ p ∈ t.parts, ∃ n, p = .tgt n)
/-! ### arcs, and what is alive -/
structure Arc where
  link : List Key
  src : List Int
  tgt : Int
def kD : Key → PyData
  | .inl i => .int i
  | .inr z => .str z
def dArc (α : Arc) : PyData := .tuple [.tuple (α.link.map kD), .tuple (α.src.map .int), .int α.tgt]
def rootArc (r : Str × Int) : Arc := ⟨[.inr "root", .inr r.1], [], r.2⟩
def slotArc (n : Int) : Part → Option Arc
  | .pair k (some v) => some ⟨[.inr "slot", .inl n, .inl k], [n], v⟩
  | _ => none
def entryArc (n : Int) : Part → Option Arc
  | .pair k (some v) => some ⟨[.inr "entry", .inl n, .inl k], [n, k], v⟩
  | _ => none
def thingArcs (t : Thing) : List Arc := if t.sort = "record" then t.parts.filterMap (slotArc t.n) else if t.sort = "map" then t.parts.filterMap (entryArc t.n) else []
def arcsOf (s : Shot) : List Arc := s.roots.map rootArc ++ s.things.flatMap thingArcs
inductive Live (as : List Arc) : Int → Prop
  | mk {α : Arc} : α ∈ as → (∀ n ∈ α.src, Live as n) → Live as α.tgt
/-- what is closed under the arcs has all that is alive -/
theorem Live.sub {as : List Arc} {S : Int → Prop} (h : ∀ α ∈ as, (∀ n ∈ α.src, S n) → S α.tgt) {n : Int} (l : Live as n) : S n := by
  induction l with
  | mk m _ ih => exact h _ m ih
theorem kV_td {K : PySem.W.Frag} {H : Hp} : ∀ k : Key, Td K H (kV k) (kD k)
  | .inl i => .int i
  | .inr z => .str z
theorem kVs_td {K : PySem.W.Frag} {H : Hp} : ∀ ks : List Key, TdAll K H (ks.map kV) (ks.map kD)
  | [] => .nil
  | k :: r => .cons (kV_td k) (kVs_td r)
end Sn
/-! Promises of defs that run where no repr is under way, the law's end for such a promise, repr of data. -/
namespace Gd
open PySem PySem.Spec PyProof.Rows L2
/-- a promise that is kept wherever no repr is under way -/
structure FnG (P : Program) (w : World) (K : PySem.W.Frag) (mg : Str → Option Value) (base : Heap) (CX : CXT) (k : Nat) (f : Addr) (fd : FuncData) (ps : List Str) (sp : Sp) : Prop where
  arity : ∀ vs H Q E, sp vs H Q E → vs.length = ps.length
  go : ∀ A, Room k A → A.guards = some [] → ∀ outer s H args us vs Q E, Env0 P w K mg base A outer s H →
    BindsTo s fd args (ps.zip us) → Vals vs us → sp vs H Q E →
      codeAny (model P w) A (.call (.ref f) args) (CR CX outer P w H s Q E) s
section
variable {P : Program} {w : World} {K : PySem.W.Frag} {mg : Str → Option Value} {base : Heap} {CX : CXT} {k : Nat} {f : Addr} {fd : FuncData} {ps : List Str} {sp : Sp}
theorem FnG.of (F : FnOk P w K mg base CX k f fd ps sp) : FnG P w K mg base CX k f fd ps sp :=
  ⟨F.len, fun A r _ outer s H args us vs Q E e b v p => F.run A outer s H args us vs Q E r e b v p⟩
theorem FnG.up {j : Nat} (F : FnG P w K mg base CX j f fd ps sp) (h : j ≤ k) : FnG P w K mg base CX k f fd ps sp :=
  ⟨F.arity, fun A r g => F.go A (r.mono h) g⟩
/-- from the body, which may know that no repr is under way -/
theorem fng_of {x qual : Str} {st : Stmt} {N : List Str} (F : Fun K x qual st f fd) (S : FnScope N ps (defScope st)) (ar : ∀ vs H Q E, sp vs H Q E → vs.length = ps.length)
    (body : ∀ (cdv : Value) (A : Around) (outer : List Env) (s : Shared) (H : Hp) (vs : List V) (Q : VK) (E : XK), Room k (A.deeper (envOfC qual (defScope st) s.heap.objs.size f cdv)) → A.guards = some [] → sp vs H Q E →
      ∃ t, PSs (cxOf CX P w K mg base N qual (defScope st) f cdv A outer s H E) (defBody st) t ∧ t { nx := fun _ H' => Q .non H', rt := Q } (start N vs) H) :
    FnG P w K mg base CX (k + 1) f fd ps sp := by
  obtain ⟨⟨oc, od, kV, doc, pm, an, cdv, ct, osl, rfl, look, code⟩, _⟩ := F
  refine ⟨ar, fun A room gd outer s H args us vs Q E env bind rel want => ?_⟩
  have inK : K.In s.heap := env.mod.kin.keeps (fun b o h => (env.bs b o h).1)
  have free : s.heap.NoLimit := env.mod.nolimit.keeps (fun b o h => (env.bs b o h).1)
  have hv := ar vs H Q E want
  refine Att.call_fn inK free look code room.depth bind ?_ (fun s1 inside => ?_) S.co S.gen S.kind
  · refine List.all_eq_true.mpr fun y hy => ?_
    have hp := S.par y.1 (List.of_mem_zip (show (y.1, y.2) ∈ ps.zip us from hy)).1
    rcases hp with q | q
    · rw [q]; rfl
    · rw [q]; rfl
  · obtain ⟨t, derive, reads⟩ := body cdv A outer s H vs Q E (room.deeper _) gd want
    have inv := inv_start (CX := CX) (E := E) S room.hd env hv rel inside
    refine wpAny_mono (derive.run [] s1 (start N vs) H _ inv reads) ?_ (fun _ _ left => left)
    intro flow s2 post
    cases flow with
    | brk => exact (post.choose_spec.choose_spec).2.elim
    | cont => exact (post.choose_spec.choose_spec).2.elim
    | next =>
      obtain ⟨_, H2, J, q⟩ := post
      exact ⟨.non, H2, J.os, J.bare, J.base, J.hok, rfl, q⟩
    | ret u =>
      obtain ⟨v, _, H2, J, rv, q⟩ := post
      exact ⟨v, H2, J.os, J.bare, J.base, J.hok, rv, q⟩
end
end Gd
namespace Gd
open PySem PySem.Spec PyProof.Rows L2
section
variable {X : Cx} {CX : CXT} {k : Nat} {f : Addr} {fd : FuncData} {ps : List Str} {sp : Sp} {dvs : List V} {ds : List Value} {E : XK}
/-- the callee runs, as run_fn says it, where no repr is under way -/
theorem runG {pins : List (Addr × Obj)} {σ : L2.St} {H : Hp} {s : Shared} {Q : VK} {us : List Value} {vs : List V} (F : FnG X.prog X.w X.K X.mg X.base CX k f fd ps sp) (room : Room k X.A) (gd : X.A.guards = some [])
    (bind : Binds X.K fd ps ds) (dflt : Vals dvs ds) (pass : Passes CX X E) (I : Inv X pins σ H s) (rel : Vals vs us) (want : sp (vs ++ dvs) H Q E) :
    wpAny (model X.prog X.w) X.A (call (.ref f) us) (EP X pins σ Q) X.xe s := by
  have rel2 := rel.append dflt
  have many : (us ++ ds).length = ps.length := rel2.length.symm.trans (F.arity _ _ _ _ want)
  have ran := F.go X.A room gd X.stack s H ⟨us, []⟩ _ _ Q E I.env0 (bind s us I.kIn many) rel2 want
  refine wpAny_call (codeAny_mono ran ?_)
  intro r s2 post
  rcases r with err | flow
  · exact pass _ _ _ _ _ _ I post
  · cases flow with
    | ret u => exact I.after post
    | next => exact post.elim
    | brk => exact post.elim
    | cont => exact post.elim
theorem pe_callG {x : Str} {p pos : Pos} {e : Expr} {es : List Expr} {t : TA} (F : FnG X.prog X.w X.K X.mg X.base CX k f fd ps sp) (room : Room k X.A) (gd : X.A.guards = some []) (isGl : Gl X x) (at_ : X.mg x = some (.ref f))
    (kept : PySem.W.keepIn X.K (.ref f) = true) (bind : Binds X.K fd ps ds) (dflt : Vals dvs ds) (pass : Passes CX X E)
    (args : PA X (e :: es) t) (nodbg : (x == ("__debug__" : Str)) = false := by decide) (star : starEach (e :: es) X.env = (false, eval e X.env) :: starEach es X.env := by rfl) (plain : (backTo pos (starEach es X.env)).any (·.1) = false := by rfl) :
    PE X (.Call (.Name x p) (e :: es) [] pos) (tCall sp dvs E t) := by
  constructor
  intro pins s σ H Q I want
  refine wpAny_Call_Name_kw (ld_glob I isGl at_ ?_ nodbg)
  refine PySem.W.callWith_K (h₀ := X.base) I.ok.mod.kin kept ?_ star plain
  refine thn (args.run pos pins s σ H _ I want) ?_
  rintro us s1 ⟨vs, H1, I1, rel, q⟩
  exact ⟨I1.kIn, runG F room gd bind dflt pass I1 rel q⟩
end
/-! ### the law's end -/
/-- the script as the only thing that is tracked -/
def scriptAt (a : Addr) (o : Obj) (xs : List V) : Hp := fun b => if b = a then some (.frz o (.lst xs)) else none
theorem scriptAt_same {a : Addr} {o : Obj} {xs : List V} : scriptAt a o xs a = some (.frz o (.lst xs)) := if_pos rfl
theorem scriptAt_some {a b : Addr} {o : Obj} {xs : List V} {u : HO} (h : scriptAt a o xs b = some u) : b = a ∧ u = .frz o (.lst xs) := by
  unfold scriptAt at h
  by_cases e : b = a
  · rw [if_pos e] at h
    exact ⟨e, (Option.some.inj h).symm⟩
  · rw [if_neg e] at h
    cases h
theorem scriptAt_ne {a b : Addr} {o : Obj} {xs : List V} (h : b ≠ a) : scriptAt a o xs b = none := if_neg h
section
variable {P : Program} {w : World} {K : PySem.W.Frag} {mg mb : Str → Option Value} {CX : CXT} {k : Nat} {fa a : Addr} {fd : FuncData} {x : Str} {sp : Sp} {s1 : Shared} {vs : List Value} {ns : List Int}
/-- the law's call, from an abstract heap that tracks at most the script -/
theorem law_from {H : Hp} {o : Obj} (own : ∀ b u, H b = some u → b = a ∧ u = .frz o (.lst (ns.map V.int))) (offK : H a ≠ none → K.lookup a = none)
    (inK : K.In s1.heap) (glob : s1.heap.Ns mainGlobals mg) (blt : s1.heap.Ns builtinsNs mb) (std : ∀ x : Str, x ≠ "__name__" → mb x = bootBuiltins x) (free : s1.heap.NoLimit) (nogen : s1.gens = #[])
    (here : s1.heap.get? a = some { cls := .type "list", data := .seq vs.toArray }) (ho : o = { cls := .type "list", data := .seq vs.toArray }) (ok : HOk P w H s1.heap) (room : Room k callerA)
    (F : ∀ base : Heap, K.In base → base.Ns mainGlobals mg → FnG P w K mg base CX k fa fd [x] sp) (bind : ∀ (s : Shared) (u : Value), BindsTo s fd ⟨[u], []⟩ [(x, u)])
    (want : sp [.ref a] H (fun v _ => v = .bl true) fun _ _ _ => False) (noX : ∀ e s2, CX [] H s1 (fun _ _ _ => False) e s2 → False) :
    codeAny (model P w) callerA (.call (.ref fa) ⟨[.ref a], []⟩) (fun r s2 => r = .ok (.ret (.bool true)) ∧ OldK s1.heap s2.heap ∧ s2.os = s1.os ∧ AllBare s2.gens) s1 := by
  have dicts : ∀ {b : Addr} {m : Str → Option Value}, s1.heap.Ns b m → (hidT s1.heap H).Ns b m := by
    rintro b m ⟨ob, es, ep, gb, isD, r⟩
    refine ⟨ob, es, ep, hidT_get gb ?_, isD, r⟩
    cases hb : H b with
    | none => rfl
    | some u =>
      obtain ⟨rfl, _⟩ := own b u hb
      rw [here] at gb
      have e := Option.some.inj gb
      rw [← e] at isD
      cases isD
  have inB : K.In (hidT s1.heap H) := by
    intro b ob hb
    refine hidT_get (inK b ob hb) ?_
    cases hh : H b with
    | none => rfl
    | some u =>
      obtain ⟨rfl, _⟩ := own b u hh
      rw [offK (by rw [hh]; exact Option.some_ne_none _)] at hb
      cases hb
  have md : Mod K mg (hidT s1.heap H) := ⟨inB, dicts glob, ⟨mb, dicts blt, std⟩, free.imp fun _ h => ⟨dicts h.1, h.2⟩⟩
  have env : Env0 P w K mg (hidT s1.heap H) callerA [] s1 H := by
    refine ⟨rfl, md, fun b ob hb => of_hidT hb, Nat.le_of_eq (hidT_size _ _), trivial, ?_, ok, .of_eq nogen⟩
    intro b hb
    cases hb
  have ran := (F _ inB (dicts glob)).go callerA room rfl [] s1 H ⟨[.ref a], []⟩ [.ref a] [.ref a] _ _ env (bind s1 (.ref a)) (.cons rfl .nil) want
  refine codeAny_mono ran ?_
  intro r s2 post
  rcases r with err | flow
  · exact (noX _ _ post).elim
  · cases flow with
    | next => exact post.elim
    | brk => exact post.elim
    | cont => exact post.elim
    | ret u =>
      obtain ⟨v, H2, eos, eb, ch, ok2, rv, rfl⟩ := post
      have eu : u = Value.bool true := rv
      refine ⟨by rw [eu], OldK.of_keep (fun b ob hb => ?_), eos, eb⟩
      cases hh : H b with
      | none => exact ch.keep b ob hb hh (fun z => nomatch z) (fun z => nomatch z)
      | some u2 =>
        obtain ⟨rfl, rfl⟩ := own b u2 hh
        have a1 := (ok b _ hh).1
        have a2 := (ok2 b _ (ch.frzs b o _ hh)).1
        rw [hb] at a1
        exact a2.trans a1.symm
theorem law_callG (inK : K.In s1.heap) (glob : s1.heap.Ns mainGlobals mg) (blt : s1.heap.Ns builtinsNs mb) (std : ∀ x : Str, x ≠ "__name__" → mb x = bootBuiltins x) (free : s1.heap.NoLimit) (nogen : s1.gens = #[])
    (here : s1.heap.get? a = some { cls := .type "list", data := .seq vs.toArray }) (isI : IntsAre vs ns) (many : ns.length ≤ sizeLine) (room : Room k callerA)
    (F : ∀ base : Heap, K.In base → base.Ns mainGlobals mg → FnG P w K mg base CX k fa fd [x] sp) (bind : ∀ (s : Shared) (u : Value), BindsTo s fd ⟨[u], []⟩ [(x, u)])
    (want : ∀ H : Hp, Only H → SqL K H a (ns.map V.int) → sp [.ref a] H (fun v _ => v = .bl true) fun _ _ _ => False) (noX : ∀ H e s2, CX [] H s1 (fun _ _ _ => False) e s2 → False) :
    codeAny (model P w) callerA (.call (.ref fa) ⟨[.ref a], []⟩) (fun r s2 => r = .ok (.ret (.bool true)) ∧ OldK s1.heap s2.heap ∧ s2.os = s1.os ∧ AllBare s2.gens) s1 := by
  have rel := vals_ints isI
  cases inMod : K.lookup a with
  | some o =>
    have same : o = { cls := .type "list", data := .seq vs.toArray } := Option.some.inj ((inK a o inMod).symm.trans here)
    subst same
    have sq : SqL K (fun _ => none) a (ns.map V.int) := .inr ⟨_, vs.toArray, _, inMod, rfl, rfl, rfl, by rw [List.size_toArray, isI.length]; exact many, by simpa using rel⟩
    refine law_from (H := fun _ => none) (o := { cls := .type "list", data := .seq vs.toArray }) (ns := ns) (fun _ _ h => nomatch h) (fun h => absurd rfl h) inK glob blt std free nogen here rfl (fun _ _ h => nomatch h) room F bind (want _ (fun _ => .inl rfl) sq) (noX _)
  | none =>
    refine law_from (H := scriptAt a { cls := .type "list", data := .seq vs.toArray } (ns.map V.int)) (fun _ _ h => scriptAt_some h) (fun _ => inMod) inK glob blt std free nogen here rfl ?_ room F bind (want _ (fun b => ?_) (.inl (.inr ⟨_, scriptAt_same⟩))) (noX _)
    · intro b u h
      obtain ⟨rfl, rfl⟩ := scriptAt_some h
      exact ⟨here, by rw [List.length_map]; exact many, vs, _, rel, here⟩
    · cases h : scriptAt a { cls := .type "list", data := .seq vs.toArray } (ns.map V.int) b with
      | none => exact .inl rfl
      | some u => exact .inr ⟨_, _, by rw [(scriptAt_some h).2]⟩
end
/-- what k_head leaves, from a promise that is kept where no repr is under way -/
theorem walkG {l : PySem.W.OpenLaw} {n k : Nat} {q : Program} {loose : List Str} {XP : (Str → Option Value) → Heap → Prop} {YP : World → Heap → Prop} {d : DefRec} {K : Params → PySem.W.Frag} {CX : World → CXT} {sp : World → Sp} {x : Str}
    (most : l.most = some n) (small : n ≤ sizeLine) (nodef : d.params.defaults = []) (room : Room k callerA) (kin : ∀ (w : World) (h : Heap), YP w h → (K w.params).In h)
    (F : ∀ (w : World) (mg : Str → Option Value) (fa : Addr) (h : Heap), (K w.params).In h → h.Ns mainGlobals mg → mg d.name = some (.ref fa) →
      ∃ fd : FuncData, (∀ (s : Shared) (u : Value), BindsTo s fd ⟨[u], []⟩ [(x, u)]) ∧ ∀ base : Heap, (K w.params).In base → base.Ns mainGlobals mg → FnG l.prog w (K w.params) mg base (CX w) k fa fd [x] (sp w))
    (want : ∀ (w : World) (H : Hp) (a : Addr) (ns : List Int), ns.length ≤ n → Only H → SqL (K w.params) H a (ns.map V.int) → sp w [.ref a] H (fun v _ => v = .bl true) fun _ _ _ => False)
    (noX : ∀ (w : World) (H : Hp) (s : Shared) (e : Value) (s2 : Shared), CX w [] H s (fun _ _ _ => False) e s2 → False) :
    PySem.W.WalkO q loose XP YP l.row.toRowW d [] (fun f vs => PySem.call f vs) := by
  apply Att.attach_call most nodef
  intro w s0 s1 mg mb fa o pm cd doc a vs ns G Y go isF code named here isI many nogen
  have inK := kin w _ Y
  obtain ⟨fd, bind, hF⟩ := F w mg fa _ inK G.T.g named
  exact law_callG inK G.T.g G.T.b G.T.builtins G.T.nolimit nogen here isI (Nat.le_trans many small) room hF bind (fun H only sq => want w H a ns many only sq) (fun H e s2 => noX w H s1 e s2)
section
variable {X : Cx}
/-- repr of data without dicts -/
def rReprD (K : PySem.W.Frag) : List V → Hp → VK → Prop := fun xs H Q => ∃ x d, xs = [x] ∧ Dp K H x d ∧ d.showable = true ∧ d.hasDict = false ∧ d.depth ≤ 40 ∧ d.shown.length ≤ sizeLine ∧ Q (.str d.shown) H
theorem call_reprD (gd : X.A.guards = some []) (un : X.A.units + 64 < cLine) : CallR X (.builtin "repr") (rReprD X.K) := by
  rintro pins s σ H xs us Q I rel ⟨x, d, rfl, hd, sh, nod, dep, sz, q⟩
  obtain ⟨u, rfl, rv⟩ := vals1 rel
  obtain ⟨as, reads⟩ := Dp.reads I d x u hd rv
  cases hd with
  | non =>
    cases rv
    refine PySem.P.repr_of_none ?_
    exact ⟨.str "None", H, I.tok _, ⟨_, rfl⟩, q⟩
  | bl b =>
    cases rv
    refine PySem.P.repr_of_bool ?_
    exact ⟨.str (if b then "True" else "False"), H, I.tok _, ⟨_, rfl⟩, q⟩
  | int i =>
    obtain ⟨t, rfl⟩ := rv
    refine PySem.P.repr_of_int ?_ ⟨.str _, H, I.tok _, ⟨_, rfl⟩, q⟩
    simpa [PyData.showable] using sh
  | str z =>
    obtain ⟨t, rfl⟩ := rv
    exact PySem.P.repr_of_str ⟨.str _, H, I.tok _, ⟨_, rfl⟩, q⟩ sz
  | lst h1 h2 =>
    cases rv
    exact repr_of_reads' reads sh (PyData.noDict_hsm nod) gd (by omega) (fun _ _ e => e) (fun h2 u2 tk keep => ⟨.str _, H, I.kept keep, ⟨u2, rfl⟩, q⟩) sz
  | tup h1 h2 =>
    cases rv
    exact repr_of_reads' reads sh (PyData.noDict_hsm nod) gd (by omega) (fun _ _ e => e) (fun h2 u2 tk keep => ⟨.str _, H, I.kept keep, ⟨u2, rfl⟩, q⟩) sz
end
end Gd
/-! Any value of data, as it lies in a heap off one address that changes: read, told by its type, shown, compared with () and with a text. -/
namespace Sn
open PySem PySem.Spec PyProof.Rows L2 Gd
/-- a tuple that is known -/
def SqP (K : PySem.W.Frag) (H : Hp) (a : Addr) (xs : List V) : Prop := H a = some (.tup xs)
theorem SqP.sq {K : PySem.W.Frag} {H : Hp} {a : Addr} {xs : List V} (h : SqP K H a xs) : SqT K H a xs := .inl (.inl h)
mutual
inductive Av (K : PySem.W.Frag) (d : Addr → Prop) (H : Hp) : V → PyData → Prop
  | non : Av K d H .non .none
  | bl (b : Bool) : Av K d H (.bl b) (.bool b)
  | int (i : Int) : Av K d H (.int i) (.int i)
  | str (x : Str) : Av K d H (.str x) (.str x)
  | lst {a : Addr} {xs : List V} {ds : List PyData} : a ≠ sysModules → ¬ d a → H a = some (.lst xs) → AvAll K d H xs ds → Av K d H (.ref a) (.list ds)
  | tup {a : Addr} {xs : List V} {ds : List PyData} : ¬ d a → SqP K H a xs → AvAll K d H xs ds → Av K d H (.ref a) (.tuple ds)
  | dnil {a : Addr} : ¬ d a → H a = some (.dK []) → Av K d H (.ref a) (.dict [])
  | done {a : Addr} {k : Str} {x : V} {e : PyData} : ¬ d a → H a = some (.dK [(.inr k, x)]) → Av K d H x e → Av K d H (.ref a) (.dict [(.str k, e)])
inductive AvAll (K : PySem.W.Frag) (d : Addr → Prop) (H : Hp) : List V → List PyData → Prop
  | nil : AvAll K d H [] []
  | cons {v : V} {vs : List V} {e : PyData} {es : List PyData} : Av K d H v e → AvAll K d H vs es → AvAll K d H (v :: vs) (e :: es)
end
/-- what H' keeps but for d -/
def Byd (d : Addr → Prop) (H H' : Hp) : Prop := ∀ a o, ¬ d a → H a = some o → H' a = some o
theorem sqT_byd {K : PySem.W.Frag} {d : Addr → Prop} {a : Addr} {H H' : Hp} {xs : List V} (e : Byd d H H') (n : ¬ d a) (h : SqT K H a xs) : SqT K H' a xs := by
  rcases h with (h | ⟨o, h⟩) | h
  · exact .inl (.inl (e _ _ n h))
  · exact .inl (.inr ⟨o, e _ _ n h⟩)
  · exact .inr h
mutual
theorem Av.keep {K : PySem.W.Frag} {d : Addr → Prop} {H H' : Hp} (e : Byd d H H') : ∀ {v : V} {x : PyData}, Av K d H v x → Av K d H' v x
  | _, _, .non => .non
  | _, _, .bl b => .bl b
  | _, _, .int i => .int i
  | _, _, .str x => .str x
  | _, _, .lst n q h r => .lst n q (e _ _ q h) (AvAll.keep e r)
  | _, _, .tup q h r => .tup q (e _ _ q h) (AvAll.keep e r)
  | _, _, .dnil q h => .dnil q (e _ _ q h)
  | _, _, .done q h r => .done q (e _ _ q h) (Av.keep e r)
theorem AvAll.keep {K : PySem.W.Frag} {d : Addr → Prop} {H H' : Hp} (e : Byd d H H') : ∀ {vs : List V} {xs : List PyData}, AvAll K d H vs xs → AvAll K d H' vs xs
  | _, _, .nil => .nil
  | _, _, .cons a b => .cons (Av.keep e a) (AvAll.keep e b)
end
theorem AvAll.len {K : PySem.W.Frag} {d : Addr → Prop} {H : Hp} : ∀ {vs : List V} {xs : List PyData}, AvAll K d H vs xs → vs.length = xs.length
  | _, _, .nil => rfl
  | _, _, .cons _ b => by rw [List.length_cons, List.length_cons, AvAll.len b]
theorem AvAll.app {K : PySem.W.Frag} {d : Addr → Prop} {H : Hp} {us : List V} {ys : List PyData} (h : AvAll K d H us ys) : ∀ {vs : List V} {xs : List PyData}, AvAll K d H vs xs → AvAll K d H (vs ++ us) (xs ++ ys)
  | _, _, .nil => h
  | _, _, .cons a b => .cons a (AvAll.app h b)
theorem AvAll.get {K : PySem.W.Frag} {d : Addr → Prop} {H : Hp} : ∀ {vs : List V} {xs : List PyData} {i : Nat} {v : V}, AvAll K d H vs xs → vs[i]? = some v → ∃ x, xs[i]? = some x ∧ Av K d H v x
  | _, _, _, _, .nil, h => by simp at h
  | _, _, 0, _, .cons a _, h => by
    cases h
    exact ⟨_, rfl, a⟩
  | _, _, i + 1, _, .cons _ b, h => by
    obtain ⟨x, e, q⟩ := AvAll.get b (show _ = some _ from h)
    exact ⟨x, e, q⟩
theorem AvAll.get' {K : PySem.W.Frag} {d : Addr → Prop} {H : Hp} : ∀ {vs : List V} {xs : List PyData} {i : Nat} {x : PyData}, AvAll K d H vs xs → xs[i]? = some x → ∃ v, vs[i]? = some v ∧ Av K d H v x
  | _, _, _, _, .nil, h => by simp at h
  | _, _, 0, _, .cons a _, h => by
    cases h
    exact ⟨_, rfl, a⟩
  | _, _, i + 1, _, .cons _ b, h => by
    obtain ⟨x, e, q⟩ := AvAll.get' b (show _ = some _ from h)
    exact ⟨x, e, q⟩
theorem AvAll.drop {K : PySem.W.Frag} {d : Addr → Prop} {H : Hp} : ∀ {vs : List V} {xs : List PyData} (n : Nat), AvAll K d H vs xs → AvAll K d H (vs.drop n) (xs.drop n)
  | _, _, 0, h => h
  | _, _, _ + 1, .nil => .nil
  | _, _, n + 1, .cons _ b => AvAll.drop n b
theorem AvAll.take {K : PySem.W.Frag} {d : Addr → Prop} {H : Hp} : ∀ {vs : List V} {xs : List PyData} (n : Nat), AvAll K d H vs xs → AvAll K d H (vs.take n) (xs.take n)
  | _, _, 0, _ => .nil
  | _, _, _ + 1, .nil => .nil
  | _, _, n + 1, .cons a b => .cons a (AvAll.take n b)
theorem AvAll.rev {K : PySem.W.Frag} {d : Addr → Prop} {H : Hp} : ∀ {vs : List V} {xs : List PyData}, AvAll K d H vs xs → AvAll K d H vs.reverse xs.reverse
  | _, _, .nil => .nil
  | _, _, .cons a b => by
    rw [List.reverse_cons, List.reverse_cons]
    exact AvAll.app (.cons a .nil) (AvAll.rev b)
section
variable {d : Addr → Prop} {X : Cx} {pins : List (Addr × Obj)} {σ : L2.St} {H : Hp} {s : Shared}
mutual
theorem Av.reads (I : Inv X pins σ H s) : ∀ {v : V} {x : PyData} {u : Value}, Av X.K d H v x → RelV v u → ∃ as, Reads s.heap u x as ∧ sysModules ∉ as
  | _, _, _, .non, r => by
    cases (show _ = Value.none from r)
    exact ⟨_, .none, by simp⟩
  | _, _, _, .bl b, r => by
    cases (show _ = Value.bool b from r)
    exact ⟨_, .bool b, by simp⟩
  | _, _, _, .int i, r => by
    obtain ⟨t, rfl⟩ := (show ∃ t, _ = Value.int i t from r)
    exact ⟨_, .int i t, by simp⟩
  | _, _, _, .str x, r => by
    obtain ⟨t, rfl⟩ := (show ∃ t, _ = Value.str x t from r)
    exact ⟨_, .str x t, by simp⟩
  | _, _, _, @Av.lst _ _ _ a _ _ n _ h m, r => by
    cases (show _ = Value.ref a from r)
    obtain ⟨its, rv, ⟨o, k, ho, hc, _, hd⟩, _⟩ := I.list (.inl (.inl h))
    obtain ⟨as, hr, q⟩ := AvAll.reads I m rv
    refine ⟨_, .list ho hc hd hr, fun z => ?_⟩
    rcases List.mem_cons.mp z with z | z
    · exact n z.symm
    · exact q z
  | _, _, _, @Av.tup _ _ _ a _ _ _ h m, r => by
    cases (show _ = Value.ref a from r)
    obtain ⟨its, rv, ⟨o, ho, hc, k, hd⟩, _⟩ := I.tuple h.sq
    obtain ⟨as, hr, q⟩ := AvAll.reads I m rv
    exact ⟨_, .tuple ho hc hd hr, q⟩
  | _, _, _, @Av.dnil _ _ _ a _ h, r => by
    cases (show _ = Value.ref a from r)
    obtain ⟨_, ns, vs, kv, o, es, ep, ho, hx, hd, _, hp, _⟩ := dk_of I.hok h
    cases kv
    generalize hl : es.toList = l at hp
    cases hp
    refine ⟨_, .dict ho hx.1 hd (kvs := []) (by rw [hl]; exact .nil) (by rw [hl]; exact .nil), fun z => ?_⟩
    have z' : sysModules = a := by simpa using z
    rw [z'] at ns
    simp at ns
  | _, _, _, @Av.done _ _ _ a k x e _ h m, r => by
    cases (show _ = Value.ref a from r)
    obtain ⟨_, ns, vs, kv, o, es, ep, ho, hx, hd, _, hp, _⟩ := dk_of I.hok h
    cases kv with
    | @cons _ q _ _ q1 q2 =>
      cases q2
      generalize hl : es.toList = l at hp
      cases hp with
      | @cons e' _ _ _ h1 h2 h3 =>
        cases h3
        obtain ⟨e1, e2⟩ := q1
        have hk : ∃ t, e'.key = Value.str k t := by
          rw [← e1] at h1
          rcases keyIs_shape (show keyIs (.inr k) e'.key = true from h1) with ⟨i, t, z, _⟩ | ⟨y, t, z, w⟩
          · cases z
          · cases z
            exact ⟨t, w⟩
        obtain ⟨t, hk⟩ := hk
        obtain ⟨as, hr, n⟩ := Av.reads I m (show RelV x e'.val by rw [h2]; exact e2)
        refine ⟨_, .dict ho hx.1 hd (kvs := [(.str k, e)]) (by rw [hl]; show ReadsAll _ [e'.key] _ _; rw [hk]; exact .cons (.str k t) .nil) (by rw [hl]; exact .cons hr .nil), fun z => ?_⟩
        have z' : sysModules = a ∨ sysModules ∈ as := by simpa using z
        rcases z' with z' | z'
        · rw [z'] at ns
          simp at ns
        · exact n z'
theorem AvAll.reads (I : Inv X pins σ H s) : ∀ {vs : List V} {es : List PyData} {us : List Value}, AvAll X.K d H vs es → Vals vs us → ∃ as, ReadsAll s.heap us es as ∧ sysModules ∉ as
  | _, _, _, .nil, r => by
    cases r
    exact ⟨_, .nil, by simp⟩
  | _, _, _, .cons a b, r => by
    cases r with
    | cons r1 r2 =>
      obtain ⟨as, q1, n1⟩ := Av.reads I a r1
      obtain ⟨bs, q2, n2⟩ := AvAll.reads I b r2
      exact ⟨_, .cons q1 q2, fun z => (List.mem_append.mp z).elim n1 n2⟩
end
end
/-! ### its type -/
def tyName : PyData → String
  | .none => "NoneType"
  | .bool _ => "bool"
  | .int _ => "int"
  | .str _ => "str"
  | .list _ => "list"
  | .tuple _ => "tuple"
  | .dict _ => "dict"
theorem ty_av {K : PySem.W.Frag} {d : Addr → Prop} {H : Hp} {x : V} {e : PyData} (h : Av K d H x e) : TyX K H x (.type (tyName e)) := by
  cases h with
  | non => exact .base .non
  | bl b => exact .base (.bl b)
  | int i => exact .base (.int i)
  | str x => exact .base (.str x)
  | lst _ _ e _ => exact .base (.lst e)
  | tup _ e _ => exact .base (.tup e)
  | dnil _ e => exact .base (.dK e)
  | done _ e _ => exact .base (.dK e)
def isTup : PyData → Bool
  | .tuple _ => true
  | _ => false
def isStr : PyData → Bool
  | .str _ => true
  | _ => false
def isBool : PyData → Bool
  | .bool _ => true
  | _ => false
def isInt : PyData → Bool
  | .bool _ | .int _ => true
  | _ => false
theorem kit_tup (e : PyData) : kitB (tyName e) "tuple" = some (isTup e) := by cases e <;> (first | exact (by decide +kernel : kitB "NoneType" "tuple" = some false) | exact (by decide +kernel : kitB "bool" "tuple" = some false) | exact (by decide +kernel : kitB "int" "tuple" = some false) | exact (by decide +kernel : kitB "str" "tuple" = some false) | exact (by decide +kernel : kitB "list" "tuple" = some false) | exact (by decide +kernel : kitB "tuple" "tuple" = some true) | exact (by decide +kernel : kitB "dict" "tuple" = some false))
theorem kit_str (e : PyData) : kitB (tyName e) "str" = some (isStr e) := by cases e <;> (first | exact (by decide +kernel : kitB "NoneType" "str" = some false) | exact (by decide +kernel : kitB "bool" "str" = some false) | exact (by decide +kernel : kitB "int" "str" = some false) | exact (by decide +kernel : kitB "str" "str" = some true) | exact (by decide +kernel : kitB "list" "str" = some false) | exact (by decide +kernel : kitB "tuple" "str" = some false) | exact (by decide +kernel : kitB "dict" "str" = some false))
theorem kit_bool (e : PyData) : kitB (tyName e) "bool" = some (isBool e) := by cases e <;> (first | exact (by decide +kernel : kitB "NoneType" "bool" = some false) | exact (by decide +kernel : kitB "bool" "bool" = some true) | exact (by decide +kernel : kitB "int" "bool" = some false) | exact (by decide +kernel : kitB "str" "bool" = some false) | exact (by decide +kernel : kitB "list" "bool" = some false) | exact (by decide +kernel : kitB "tuple" "bool" = some false) | exact (by decide +kernel : kitB "dict" "bool" = some false))
theorem kit_int (e : PyData) : kitB (tyName e) "int" = some (isInt e) := by cases e <;> (first | exact (by decide +kernel : kitB "NoneType" "int" = some false) | exact (by decide +kernel : kitB "bool" "int" = some true) | exact (by decide +kernel : kitB "int" "int" = some true) | exact (by decide +kernel : kitB "str" "int" = some false) | exact (by decide +kernel : kitB "list" "int" = some false) | exact (by decide +kernel : kitB "tuple" "int" = some false) | exact (by decide +kernel : kitB "dict" "int" = some false))
section
variable {X : Cx}
/-! ### shown -/
def rReprA (K : PySem.W.Frag) : List V → Hp → VK → Prop := fun xs H Q => ∃ d x e, xs = [x] ∧ Av K d H x e ∧ e.showable = true ∧ e.depth ≤ 40 ∧ e.shown.length ≤ sizeLine ∧ Q (.str e.shown) H
theorem call_reprA (gd : X.A.guards = some []) (un : X.A.units + 64 < cLine) : CallR X (.builtin "repr") (rReprA X.K) := by
  rintro pins s σ H xs us Q I rel ⟨d, x, e, rfl, hd, sh, dep, sz, q⟩
  obtain ⟨u, rfl, rv⟩ := vals1 rel
  obtain ⟨as, reads, nsys⟩ := Av.reads I hd rv
  have big : ∀ {a : Addr}, u = .ref a → wpAny (model X.prog X.w) X.A (call (.builtin "repr") [u]) (EP X pins σ Q) X.xe s := fun e => by
    subst e
    exact repr_of_reads' reads sh (fun _ => nsys) gd (by omega) (fun _ _ e => e) (fun h2 u2 tk keep => ⟨.str _, H, I.kept keep, ⟨u2, rfl⟩, q⟩) sz
  cases hd with
  | non =>
    cases rv
    exact PySem.P.repr_of_none ⟨.str "None", H, I.tok _, ⟨_, rfl⟩, q⟩
  | bl b =>
    cases rv
    exact PySem.P.repr_of_bool ⟨.str (if b then "True" else "False"), H, I.tok _, ⟨_, rfl⟩, q⟩
  | int i =>
    obtain ⟨t, rfl⟩ := rv
    refine PySem.P.repr_of_int ?_ ⟨.str _, H, I.tok _, ⟨_, rfl⟩, q⟩
    simpa [PyData.showable] using sh
  | str z =>
    obtain ⟨t, rfl⟩ := rv
    exact PySem.P.repr_of_str ⟨.str _, H, I.tok _, ⟨_, rfl⟩, q⟩ sz
  | lst _ _ _ _ => exact big rv
  | tup _ _ _ => exact big rv
  | dnil _ _ => exact big rv
  | done _ _ _ => exact big rv
/-! ### compared with () -/
def rEqT0 (K : PySem.W.Frag) : R2 := fun x y H Q => ∃ a b xs, x = .ref a ∧ y = .ref b ∧ SqT K H a xs ∧ SqT K H b [] ∧ Q (.bl (decide (xs = []))) H
theorem rc_tup0 {A : Around} {s : Shared} {a b : Addr} {us : List Value} (hu : A.units < cLine) (h : s.heap.IsTuple a us.toArray) (g : s.heap.IsTuple b #[]) : SeqAt.RcAt A s (.ref a) (.ref b) (decide (us = [])) := by
  have e := SeqAt.RcAt.tuples (e := fun _ => true) h g hu fun j _ h2 => absurd h2 (Nat.not_lt_zero _)
  have z : ((List.range (min us.toArray.size (#[] : Array Value).size)).all (fun _ => true) && us.toArray.size == (#[] : Array Value).size) = decide (us = []) := by
    cases us <;> simp
  rw [z] at e
  exact e
theorem op_eqT0 (hu : X.A.units < cLine) : OpR X (compareOp .Eq) (rEqT0 X.K) := by
  intro pins s σ H x y v u Q I rx ry h
  obtain ⟨a, b, xs, rfl, rfl, ha, hb, q⟩ := h
  cases (show v = Value.ref a from rx)
  cases (show u = Value.ref b from ry)
  obtain ⟨us, r1, h1, _⟩ := I.tuple ha
  obtain ⟨ws, r2, h2, _⟩ := I.tuple hb
  cases r2
  refine rc_tup0 hu h1 h2 X.prog X.w _ _ ⟨.bl _, H, I, rfl, ?_⟩
  have : (us = []) = (xs = []) := by
    have := r1.length
    apply propext
    constructor
    · intro z
      rw [z] at this
      exact List.eq_nil_of_length_eq_zero this
    · intro z
      rw [z] at this
      exact List.eq_nil_of_length_eq_zero this.symm
  simp only [this]
  exact q
end
/-! ### compared with a text -/
theorem dict_eq_no_str (l : Addr) (o : Obj) (c : o.cls = .type "dict") (b : Str) (u : Tok) :
    Meets (Builtin.«dict.__eq__» ⟨[.ref l, .str b u], []⟩) (fun _ R s => s.heap.get? l = some o ∧ R (.ok (.ret .notImplemented)) s) :=
  .of_wp fun prog w A R s h => by obtain ⟨hp, g, d, tk, os⟩ := s; obtain ⟨hl, h⟩ := h; have f1 := PySem.F.sub_str_dict; wp_walk using wpAny_loadPart' hl, wpAny_load hl; exact ⟨_, rfl, h⟩
def eqTx (e : PyData) (c : Str) : Bool := match e with
  | .str x => x == c
  | _ => false
theorem eqTx_iff {e : PyData} {c : Str} : eqTx e c = true ↔ e = .str c := by
  cases e <;> simp [eqTx]
theorem str_eq_no_dict (b : Str) (u : Tok) (l : Addr) (o : Obj) (c : o.cls = .type "dict") (es : Array DictEntry) (ep : Nat) (hd : o.data = .dict es ep) :
    Meets (Builtin.«str.__eq__» ⟨[.str b u, .ref l], []⟩) (fun _ R s => s.heap.get? l = some o ∧ R (.ok (.ret .notImplemented)) s) := by
  obtain ⟨cls, dd, dt, sl⟩ := o
  simp only at c hd
  subst c hd
  exact .of_wp fun prog w A R s h => by obtain ⟨hp, g, d, tk, os⟩ := s; obtain ⟨hl, h⟩ := h; have f1 := PySem.F.sub_dict_str; wp_walk using wpAny_loadPart' hl, wpAny_load hl; exact ⟨_, rfl, h⟩
section
variable {A : Around} {s : Shared}
theorem rc_dict_str {l : Addr} {o : Obj} (b : Str) (u : Tok) (ho : s.heap.get? l = some o) (hc : o.cls = .type "dict") (es : Array DictEntry) (ep : Nat) (hd : o.data = .dict es ep) (hu : A.units < cLine) : SeqAt.RcAt A s (.ref l) (.str b u) false := fun prog w E Q h => by
  exact SeqAt.rc_eq_decline_or (k := false) ⟨_, ho, hc⟩ (typeIs_str s b u) (by decide) PySem.F.sub_str_dict PySem.F.slot_dict_eq PySem.F.slot_str_eq_refl
    (fun _ hq => call_meets PySem.F.slot_dict_eq ⟨_, ho, hc⟩ PySem.F.entry_dict_eq (PySem.F.args_dict_eq_2 _ _) (dict_eq_no_str l o hc b u) ⟨ho, hq⟩)
    (fun _ hq => call_meets PySem.F.slot_str_eq_refl (typeIs_str s b u) PySem.F.entry_str_eq (PySem.F.args_str_eq_2 _ _) (str_eq_no_dict b u l o hc es ep hd) ⟨ho, hq⟩)
    (fun _ hq => wpAny_of_eq (rfl : isSame (.ref l) (.str b u) = pure false) hq) (.inr hu) h
theorem rc_str_dict {l : Addr} {o : Obj} (b : Str) (u : Tok) (ho : s.heap.get? l = some o) (hc : o.cls = .type "dict") (es : Array DictEntry) (ep : Nat) (hd : o.data = .dict es ep) (hu : A.units < cLine) : SeqAt.RcAt A s (.str b u) (.ref l) false := fun prog w E Q h => by
  exact SeqAt.rc_eq_decline_or (k := false) (typeIs_str s b u) ⟨_, ho, hc⟩ (by decide) PySem.F.sub_dict_str PySem.F.slot_str_eq PySem.F.slot_dict_eq_refl
    (fun _ hq => call_meets PySem.F.slot_str_eq (typeIs_str s b u) PySem.F.entry_str_eq (PySem.F.args_str_eq_2 _ _) (str_eq_no_dict b u l o hc es ep hd) ⟨ho, hq⟩)
    (fun _ hq => call_meets PySem.F.slot_dict_eq_refl ⟨_, ho, hc⟩ PySem.F.entry_dict_eq (PySem.F.args_dict_eq_2 _ _) (dict_eq_no_str l o hc b u) ⟨ho, hq⟩)
    (fun _ hq => wpAny_of_eq (rfl : isSame (.str b u) (.ref l) = pure false) hq) (.inr hu) h
theorem eqAt_str_dict {l : Addr} {o : Obj} (b : Str) (u : Tok) (ho : s.heap.get? l = some o) (hc : o.cls = .type "dict") (es : Array DictEntry) (ep : Nat) (hd : o.data = .dict es ep) (hu : A.units < cLine) : SeqAt.EqAt A s (.str b u) (.ref l) false := fun prog w E Q h => by
  unfold eqBool
  refine wpAny_holding ?_
  refine wpAny_ite_split (fun hab => absurd (eq_of_beq hab) nofun) (fun _ => ?_)
  exact wpAny_bind (rc_str_dict b u ho hc es ep hd hu prog w E _ (wpAny_truthy_bool h))
end
section
variable {d : Addr → Prop} {X : Cx} {pins : List (Addr × Obj)} {σ : L2.St} {H : Hp} {s : Shared}
theorem Av.dict_at (I : Inv X pins σ H s) {a : Addr} {kvs : List (PyData × PyData)} (h : Av X.K d H (.ref a) (.dict kvs)) : ∃ o es ep, s.heap.get? a = some o ∧ o.cls = .type "dict" ∧ o.data = .dict es ep := by
  cases h with
  | dnil _ h =>
    obtain ⟨_, ns, vs, kv, o, es, ep, ho, hx, hd, _⟩ := dk_of I.hok h
    exact ⟨o, es, ep, ho, hx.1, hd⟩
  | done _ h _ =>
    obtain ⟨_, ns, vs, kv, o, es, ep, ho, hx, hd, _⟩ := dk_of I.hok h
    exact ⟨o, es, ep, ho, hx.1, hd⟩
theorem Av.rc_str (I : Inv X pins σ H s) (hu : X.A.units < cLine) {x : V} {e : PyData} {v : Value} (h : Av X.K d H x e) (r : RelV x v) (c : Str) (t : Tok) : SeqAt.RcAt X.A s v (.str c t) (eqTx e c) := by
  cases h with
  | non =>
    cases (show v = Value.none from r)
    exact SeqAt.RcAt.none_str c t
  | bl b =>
    cases (show v = Value.bool b from r)
    exact SeqAt.RcAt.bool_str b c t
  | int i =>
    obtain ⟨u, rfl⟩ := (show ∃ u, v = Value.int i u from r)
    exact SeqAt.RcAt.int_str i u c t
  | str x =>
    obtain ⟨u, rfl⟩ := (show ∃ u, v = Value.str x u from r)
    exact SeqAt.RcAt.str_str x u c t
  | @lst a xs ds n1 n2 ha hd =>
    cases (show v = Value.ref a from r)
    obtain ⟨its, rv, pl, _⟩ := I.list (.inl (.inl ha))
    exact SeqAt.RcAt.list_str c t pl.isList hu
  | @tup a xs ds n1 ha hd =>
    cases (show v = Value.ref a from r)
    obtain ⟨its, rv, pl, _⟩ := I.tuple ha.sq
    exact SeqAt.RcAt.tuple_str c t pl hu
  | @dnil a n1 ha =>
    cases (show v = Value.ref a from r)
    obtain ⟨o, es, ep, ho, hc, hdt⟩ := Av.dict_at (d := d) I (Av.dnil n1 ha)
    exact rc_dict_str c t ho hc es ep hdt hu
  | @done a k y e' n1 ha hd =>
    cases (show v = Value.ref a from r)
    obtain ⟨o, es, ep, ho, hc, hdt⟩ := Av.dict_at (d := d) I (Av.done n1 ha hd)
    exact rc_dict_str c t ho hc es ep hdt hu
theorem Av.eqAt_str (I : Inv X pins σ H s) (hu : X.A.units < cLine) {A : Around} (hA : A.units < cLine) {x : V} {e : PyData} {v : Value} (h : Av X.K d H x e) (r : RelV x v) (c : Str) (t : Tok) : SeqAt.EqAt A s (.str c t) v (eqTx e c) := by
  cases h with
  | non =>
    cases (show v = Value.none from r)
    exact SeqAt.EqAt.str_none c t
  | bl b =>
    cases (show v = Value.bool b from r)
    exact SeqAt.EqAt.str_bool c t b
  | int i =>
    obtain ⟨u, rfl⟩ := (show ∃ u, v = Value.int i u from r)
    exact SeqAt.EqAt.str_int c t i u
  | str x =>
    obtain ⟨u, rfl⟩ := (show ∃ u, v = Value.str x u from r)
    rw [show eqTx (.str x) c = (c == x) from by rw [eqTx]; exact Bool.beq_comm]
    exact SeqAt.EqAt.str_str c t x u
  | @lst a xs ds n1 n2 ha hd =>
    cases (show v = Value.ref a from r)
    obtain ⟨its, rv, pl, _⟩ := I.list (.inl (.inl ha))
    exact SeqAt.EqAt.str_list c t pl.isList hA
  | @tup a xs ds n1 ha hd =>
    cases (show v = Value.ref a from r)
    obtain ⟨its, rv, pl, _⟩ := I.tuple ha.sq
    exact SeqAt.EqAt.str_tuple c t pl hA
  | @dnil a n1 ha =>
    cases (show v = Value.ref a from r)
    obtain ⟨o, es, ep, ho, hc, hdt⟩ := Av.dict_at (d := d) I (Av.dnil n1 ha)
    exact eqAt_str_dict c t ho hc es ep hdt hA
  | @done a k y e' n1 ha hd =>
    cases (show v = Value.ref a from r)
    obtain ⟨o, es, ep, ho, hc, hdt⟩ := Av.dict_at (d := d) I (Av.done n1 ha hd)
    exact eqAt_str_dict c t ho hc es ep hdt hA
end
section
variable {X : Cx}
/-- any value == a text -/
def rEqTx (K : PySem.W.Frag) : R2 := fun x y H Q => ∃ d e c, Av K d H x e ∧ y = .str c ∧ Q (.bl (eqTx e c)) H
theorem op_eqTx (hu : X.A.units < cLine) : OpR X (compareOp .Eq) (rEqTx X.K) := by
  intro pins s σ H x y v u Q I rx ry h
  obtain ⟨d, e, c, ha, rfl, q⟩ := h
  obtain ⟨t, rfl⟩ := (show ∃ t, u = Value.str c t from ry)
  exact Av.rc_str I hu ha rx c t X.prog X.w _ _ ⟨.bl _, H, I, rfl, q⟩
/-- any value in (texts) -/
def rInTx (K : PySem.W.Frag) : R2 := fun x y H Q => ∃ (d : Addr → Prop) (e : PyData) (p : Addr) (cs : List Str), Av K d H x e ∧ y = .ref p ∧ SqT K H p (cs.map V.str) ∧ Q (.bl (cs.any (eqTx e))) H
def txU (e : PyData) (u : Value) : Bool := match u with
  | .str z _ => eqTx e z
  | _ => false
theorem any_txU {e : PyData} : ∀ {cs : List Str} {us : List Value}, Vals (cs.map V.str) us → us.any (txU e) = cs.any (eqTx e)
  | [], _, .nil => rfl
  | c :: cs, _, .cons r t => by
    obtain ⟨k, rfl⟩ := (show ∃ k, _ = Value.str c k from r)
    rw [List.any_cons, List.any_cons, any_txU t]
    rfl
theorem mem_txU : ∀ {cs : List Str} {us : List Value}, Vals (cs.map V.str) us → ∀ u ∈ us, ∃ c t, u = Value.str c t
  | [], _, .nil, u, h => absurd h List.not_mem_nil
  | c :: cs, _, .cons r t, u, h => by
    obtain ⟨k, rfl⟩ := (show ∃ k, _ = Value.str c k from r)
    rcases List.mem_cons.mp h with rfl | h
    · exact ⟨_, _, rfl⟩
    · exact mem_txU t u h
theorem op_inTx (hu : X.A.units + 64 < cLine) : OpR X (compareOp .In) (rInTx X.K) := by
  intro pins s σ H x y v u Q I rx ry h
  obtain ⟨d, e, p, cs, ha, rfl, hq, q⟩ := h
  cases (show u = Value.ref p from ry)
  obtain ⟨its, r, pl, hz⟩ := I.tuple hq
  refine SeqAt.in_tupleAt (txU e) pl (fun w hw => ?_) ⟨.bl _, H, I, rfl, ?_⟩
  · obtain ⟨c, t, rfl⟩ := mem_txU r w (by simpa using hw)
    exact Av.eqAt_str I (by omega) (A := X.A.in1) (show X.A.units + 1 < cLine by omega) ha rx c t
  · rw [show its.toArray.any (txU e) = its.any (txU e) by simp, any_txU r]
    exact q
end
end Sn
/-! Methods that say super().__init__(..) in an exception's class over ValueError. -/
namespace Ex
open PySem PySem.Spec PyProof.Rows L2 Gd
/-- a method that closes over the cell of its class D -/
structure FunC (P : Program) (K : PySem.W.Frag) (x qual : Str) (st : Stmt) (D f : Addr) (fd : FuncData) : Prop where
  ex : ∃ (oc kV doc pm ct ccl cl : Value) (od an cdd cld : Option Addr) (cda cc : Addr) (osl ccs csl : Array (Option Value)) (vs : Array Value) (file : Str) (tf : Tok),
    fd = PySem.W.fnX x qual (defArgs st) (defBody st) (defScope st) [("__class__", cc)] .none kV doc pm an (.ref cda) ct ∧ K.lookup f = some ⟨oc, od, .func fd, osl⟩ ∧ PySem.W.codeIn K (.ref cda) qual = true ∧
    K.lookup cc = some ⟨cl, cld, .cell (some (.ref D)), csl⟩ ∧ K.lookup cda = some ⟨ccl, cdd, .fields vs, ccs⟩ ∧ vs[2]? = some (.str file tf) ∧ ((P.main.file : Str) == file) = true
/-- its names: parameters, the class's cell, super -/
structure FnScopeC (N ps : List Str) (sc : Scope) : Prop where
  kind : sc.kind = .function
  co : sc.isCoroutine = false
  gen : sc.isGenerator = false
  nd : N.Nodup
  pre : N.take ps.length = ps
  par : ∀ y ∈ ps, sc.names.lookup y = some .local
  nocell : ∀ y ∈ sc.names, y.2 ≠ .cell
  free : ∀ y ∈ sc.names, y.2 = .free → y.1 = "__class__"
  sup : sc.names.lookup ("super" : Str) = some .globalImplicit
  cls : sc.names.lookup ("__class__" : Str) = some .free
def cxC (CX : CXT) (P : Program) (w : World) (K : PySem.W.Frag) (mg : Str → Option Value) (base : Heap) (N : List Str) (qual : Str) (scope : Scope) (f cda cc : Addr) (A : Around) (outer : List Env) (s : Shared) (H : Hp) (E : XK) : Cx where
  prog := P
  w := w
  K := K
  mg := mg
  base := base
  A := A.deeper (PySem.W.ksEnv qual scope s.heap.objs.size f (.ref cda) cc)
  N := N
  s_0 := s
  H_0 := H
  env := PySem.W.ksEnv qual scope s.heap.objs.size f (.ref cda) cc
  outer := outer
  stack := PySem.W.ksEnv qual scope s.heap.objs.size f (.ref cda) cc :: outer
  ex := []
  calm := true
  fn := fun _ => false
  pn := []
  xe := fun e s' => wpAny (model P w) (A.deeper (PySem.W.ksEnv qual scope s.heap.objs.size f (.ref cda) cc)) (leaving (PySem.W.ksEnv qual scope s.heap.objs.size f (.ref cda) cc) e) (fun _ s'' => CX outer H s E e s'') (fun e' s'' => CX outer H s E e' s'') s'
theorem one_cell {cc c : Addr} {y : Str} (h : ([("__class__", cc)] : List (Str × Addr)).lookup y = some c) : y = "__class__" ∧ c = cc := by
  unfold List.lookup at h
  split at h
  · rename_i e
    cases h
    exact ⟨by simpa using e, rfl⟩
  · simp at h
theorem lookup_mem {y : Str} {u : Value} : ∀ {l : List (Str × Value)}, (l.map (·.1)).Nodup → (y, u) ∈ l → l.lookup y = some u
  | [], _, h => nomatch h
  | (z, v) :: l, nd, h => by
    rcases List.mem_cons.mp h with e | h
    · cases e
      simp [List.lookup]
    · have hz : y ≠ z := by
        intro e
        rw [← e] at nd
        exact (List.nodup_cons.mp nd).1 (List.mem_map.mpr ⟨(y, u), h, rfl⟩)
      have hb : (y == z) = false := by simpa using hz
      simp only [List.lookup, hb]
      exact lookup_mem (List.nodup_cons.mp nd).2 h
theorem zip_keys : ∀ (ps : List Str) (us : List Value), ps.Nodup → ((ps.zip us).map (·.1)).Nodup
  | [], _, _ => by simp
  | _ :: _, [], _ => by simp
  | p :: ps, u :: us, nd => by
    simp only [List.zip_cons_cons, List.map_cons, List.nodup_cons]
    refine ⟨fun h => (List.nodup_cons.mp nd).1 ?_, zip_keys ps us (List.nodup_cons.mp nd).2⟩
    obtain ⟨q, hq, e⟩ := List.mem_map.mp h
    rw [← e]
    exact (List.of_mem_zip (show (q.1, q.2) ∈ ps.zip us from hq)).1
theorem rev_get {ps : List Str} {us : List Value} {i : Nat} {y : Str} {u : Value} (nd : ps.Nodup) (h1 : ps[i]? = some y) (h2 : us[i]? = some u) : (ps.zip us).reverse.lookup y = some u := by
  refine lookup_mem ?_ ?_
  · rw [List.map_reverse]
    exact (List.reverse_perm _).nodup_iff.mpr (zip_keys ps us nd)
  · refine List.mem_reverse.mpr (List.mem_of_getElem? (i := i) ?_)
    rw [List.getElem?_zip_eq_some]
    exact ⟨h1, h2⟩
section
variable {CX : CXT} {P : Program} {w : World} {K : PySem.W.Frag} {mg : Str → Option Value} {base : Heap} {N ps : List Str} {qual : Str} {scope : Scope} {f cda cc D : Addr} {A : Around} {outer : List Env} {s : Shared} {H : Hp} {E : XK} {us : List Value} {vs : List V}
theorem inv_startC {h₀ : Heap} {tk : Nat} {cl : Value} {cld : Option Addr} {csl : Array (Option Value)} (S : FnScopeC N ps scope) (hd : A.handled = none) (e0 : Env0 P w K mg base A outer s H) (hl : vs.length = ps.length) (r : Vals vs us)
    (lc : K.lookup cc = some ⟨cl, cld, .cell (some (.ref D)), csl⟩) (hns : h₀.Ns s.heap.objs.size (fun y => (ps.zip us).reverse.lookup y)) (hk : ∀ b o, s.heap.get? b = some o → h₀.get? b = some o) :
    Inv (cxC CX P w K mg base N qual scope f cda cc A outer s H E) [] (start N vs) H { s with heap := h₀, toks := tk } := by
  have hpl : ps.length ≤ N.length := by have := congrArg List.length S.pre; rw [List.length_take] at this; omega
  have noA : ∀ b : Addr, b ∉ (cxC CX P w K mg base N qual scope f cda cc A outer s H E).ex := fun b z => absurd (show b ∈ ([] : List Addr) from z) (by simp)
  have inB : base.get? cc = some ⟨cl, cld, .cell (some (.ref D)), csl⟩ := e0.mod.kin _ _ lc
  have inS := (e0.bs _ _ inB).1
  refine ⟨⟨e0.mod, S.kind, rfl, rfl, Nat.le_refl _, fun y z c h1 h2 => ?_, fun y hy => ?_, fun y c h _ => (nomatch h), fun _ => hd, Around.frames_deeper e0.frames, .inr ⟨rfl, rfl⟩, fun b z => absurd z (noA b), e0.bs, e0.bsz, fun b _ _ => noA b, fun b z => absurd z (noA b), e0.funs, e0.frf⟩,
    rfl, e0.bare, Un.kept hk, ⟨_, hns, fun i y v h1 h2 h3 => ?_⟩, fun y c h => ?_, e0.hok.fresh (Nat.le_refl _), fun y c h => ?_, fun p hp => absurd (show p ∈ ([] : List (Addr × Obj)) from hp) (by simp), e0.hok.kept hk, ?_⟩
  · exact (one_cell h1).1.trans (one_cell h2).1.symm
  · have hy : scope.names.lookup y = some .cell ∨ scope.names.lookup y = some .free := hy
    rcases hy with hy | hy
    · exact absurd rfl (S.nocell _ (PySem.mem_of_lookup hy))
    · have e := S.free _ (PySem.mem_of_lookup hy) rfl
      have e' : y = "__class__" := e
      subst e'
      exact ⟨cc, rfl⟩
  · have hi : i < vs.length := by
      unfold L2.start at h2
      by_cases hi : i < vs.length
      · exact hi
      · rw [List.getElem?_append_right (by simpa using hi)] at h2
        rw [List.getElem?_replicate] at h2
        split at h2 <;> cases h2
    have ha : vs[i]? = some v := by
      unfold L2.start at h2
      rw [List.getElem?_append_left (by simpa using hi), List.getElem?_map] at h2
      cases e : vs[i]? with
      | none => rw [e] at h2; cases h2
      | some a => rw [e] at h2; cases h2; rfl
    obtain ⟨u, hu, rv⟩ := r.get ha
    have hp : ps[i]? = some y := by
      rw [← S.pre, List.getElem?_take_of_lt (by omega)]; exact h1
    have ndP : ps.Nodup := by rw [← S.pre]; exact S.nd.sublist (List.take_sublist _ _)
    refine ⟨u, rv, .inl ⟨S.par y (List.mem_of_getElem? hp), ?_⟩⟩
    exact rev_get ndP hp hu
  · obtain ⟨_, rfl⟩ := one_cell h
    exact ⟨_, _, hk _ _ inS, rfl⟩
  · obtain ⟨_, rfl⟩ := one_cell h
    exact (e0.bs _ _ inB).2
  · unfold L2.start
    rw [List.length_append, List.length_map, List.length_replicate]
    show _ = N.length
    omega
end
/-- what the written part says of super() in class D for an instance of class C -/
structure SupVE (P : Program) (K : PySem.W.Frag) (mg : Str → Option Value) (D C : Addr) : Prop where
  clsD : ∃ cd, PySem.W.clsIn K D = some cd
  sub : PySem.W.mroIn K C (.ref D) = some true
  init : PySem.W.ks_superIn K C D "__init__" = some (some (.builtin "ValueError.__init__"))
  isVE : PySem.W.subIn K (.ref C) (.type "ValueError") = some true
  opq : PySem.W.nsIn K cStatics "thirdparty.any" = some none
  glob : mg "super" = none
  main : (P.main.scope.names.lookup ("super" : Str)).isSome = false
section
variable {prog : Program} {w : World} {A : Around} {E : Value → Shared → Prop} {h : Heap} {g : Array GenState} {d : Drawn} {t : Nat} {os : OsState}
variable {nm q : Str} {C N : Addr} {bs bm : List Value} {hdct : Bool} {sn : List Str} {sub : List Value} {ab : Bool} {col : Option Bool} {dd : Option Addr} {k0 k1 k2 k3 k5 : Option Value}
/-- the bound ValueError.__init__ called -/
theorem call_bwVE {u e t0 : Addr} {rest : List Value} {Q : Value → Shared → Prop} (hC : h.get? C = some (excClassObj nm q C N bs bm hdct sn sub ab col dd k0 k1 k2 k3 k5 "ValueError.__new__")) (he : h.get? e = some ({ cls := .ref C, dict := none, data := .fields #[.ref t0, .none, .none, .none, .bool false, .none] } : Obj))
    (hu : h.get? u = some (PySem.W.kxs_mw "ValueError.__init__" e)) (hz : rest.length ≤ sizeLine)
    (hq : ∀ h' t1, (∀ b o, b ≠ e → h.get? b = some o → h'.get? b = some o) → h'.get? e = some ({ cls := .ref C, dict := none, data := .fields #[.ref t1, .none, .none, .none, .bool false, .none] } : Obj) → Q .none ⟨h', g, d, t, os⟩) :
    wpAny (model prog w) A (call (.ref u) rest) Q E ⟨h, g, d, t, os⟩ := by
  refine wpAny_call (codeAny_of_tree ?_)
  show wpAny _ A.in1 (callAny (.ref u) ⟨rest, []⟩) _ _ _
  simp only [callAny]
  refine wpAny_bind (wpAny_load hu ?_)
  simp only [PySem.W.kxs_mw, show (Value.type "method-wrapper" == Value.type "method" || Value.type "method-wrapper" == Value.type "builtin_function_or_method" || Value.type "method-wrapper" == Value.type "method-wrapper") = true by decide, if_true]
  refine PySem.W.KFB.if_so (by decide) ?_
  refine wpAny_bind (PySem.W.check_bound_init F.excBase_ValueError.toExcCallFacts hC he rfl ?_)
  refine wpAny_bind (wpAny_pure (wpAny_pure ?_))
  refine ⟨plainId_quiet F.excBase_ValueError.init.plain _, codeAny_builtin F.excBase_ValueError.initEntry ?_⟩
  exact PySem.W.exc_init_tree (cls := .ref C) (t0 := t0) (dv := none) (c2 := .none) (c3 := .none) (b4 := .bool false) he hz fun h' k e' _ => hq h' _ k e'
end
section
variable {X : Cx} {pins : List (Addr × Obj)} {σ : L2.St} {H : Hp} {s : Shared} {a u C : Addr}
theorem bw_ok {us : List Value} {Q : Value → Shared → Prop} (T : OexC X.K C) (I : Inv X pins σ H s) (e : H a = some (exo a C none)) (hu : s.heap.get? u = some (PySem.W.kxs_mw "ValueError.__init__" a)) (hl : us.length ≤ sizeLine) (h : ∀ s', Inv X pins σ H s' → Q .none s') :
    wpAny (model X.prog X.w) X.A (call (.ref u) us) Q X.xe s := by
  obtain ⟨nm, q, N, bs, bm, sn, sub, ab, col, dd, k0, k1, k2, k3, k5, hC, hbm⟩ := T.cls
  obtain ⟨t1, ho⟩ := exo_at I.hok e
  obtain ⟨hp, g, d, t, os⟩ := s
  refine call_bwVE (I.kIn _ _ hC) ho hu hl fun h' t2 k hx => ?_
  have J := I.write (t' := t) (x := a) (e := a) (o := exo a C none) (by rw [e]; exact True.intro) (.inl rfl) k ⟨_, hx⟩ (exo_ok hx)
  have eu : upd H a (exo a C none) = H := by
    funext b
    by_cases hb : b = a
    · rw [hb, upd_same, e]
    · rw [upd_ne hb]
  rw [eu] at J
  exact h _ J
end
section
variable {M : Model} {A : Around} {E : Value → Shared → Prop} {s : Shared}
theorem callWith_bw {pos : Pos} {u x : Addr} {env : Env} {e : Expr} {rest : List Expr} {Q : Value → Shared → Prop}
    (h : wpAny M A (spliced (backTo pos (starEach (e :: rest) env))) (fun vs s₁ => PySem.W.KxsAt "ValueError.__init__" u x s₁.heap ∧ wpAny M A (call (.ref u) vs) Q E s₁) E s)
    (he : starEach (e :: rest) env = (false, eval e env) :: starEach rest env) (hplain : (backTo pos (starEach rest env)).any (·.1) = false) :
    wpAny M A (callWith pos (.ref u) [] (backTo pos (starEach (e :: rest) env)) []) Q E s := by
  rw [he] at h ⊢
  refine PySem.W.kxs_callWith (i := "ValueError.__init__") (x := x) (by show (false || (backTo pos (starEach rest env)).any (·.1)) = false; rw [hplain]; rfl) ?_
  exact Calls.evalArgs_plain h
end
section
variable {CX : CXT} {P : Program} {w : World} {K : PySem.W.Frag} {mg : Str → Option Value} {base : Heap} {N ps : List Str} {x qual : Str} {st : Stmt} {D f : Addr} {fd : FuncData} {k : Nat} {sp : Sp} {p0 p1 p2 p3 p4 : Pos} {e : Expr} {es : List Expr} {rest : List Stmt} {apar : Arg}
/-- a method whose first statement is super().__init__(..) -/
theorem fngC_of (F : FunC P K x qual st D f fd) (S : FnScopeC N ps (defScope st)) (ar : ∀ vs H Q E, sp vs H Q E → vs.length = ps.length)
    (hb : defBody st = .Expr (.Call (.Attribute (.Call (.Name "super" p0) [] [] p1) "__init__" p2) (e :: es) [] p3) p4 :: rest)
    (hp : ((defArgs st).posonlyargs ++ (defArgs st).args).head? = some apar) (h0 : N[0]? = some apar.arg) (h00 : ps[0]? = some apar.arg)
    (body : ∀ (cda cc : Addr) (A : Around) (outer : List Env) (s : Shared) (H : Hp) (vs : List V) (Q : VK) (E : XK), Room k (A.deeper (PySem.W.ksEnv qual (defScope st) s.heap.objs.size f (.ref cda) cc)) → A.guards = some [] → sp vs H Q E →
      ∃ (ta : TA) (t : TS) (a C : Addr) (vs' : List V), PA (cxC CX P w K mg base N qual (defScope st) f cda cc A outer s H E) (e :: es) ta ∧ PSs (cxC CX P w K mg base N qual (defScope st) f cda cc A outer s H E) rest t ∧
        vs = .ref a :: vs' ∧ OexC K C ∧ SupVE P K mg D C ∧ H a = some (exo a C none) ∧
        ta (L2.start N vs) H fun ws H1 => ws.length ≤ 1000 ∧ H1 a = some (exo a C none) ∧ t { nx := fun _ H' => Q .non H', rt := Q } (L2.start N vs) H1)
    (hev : ∀ env : Env, ∃ pl : Sem Bool, eval (.Call (.Attribute (.Call (.Name "super" p0) [] [] p1) "__init__" p2) (e :: es) [] p3) env = (do
      let ov ← attributeBase (.Call (.Name "super" p0) [] [] p1) "__init__" env (eval (.Call (.Name "super" p0) [] [] p1) env)
      standAt p2.atName
      let (f, first) ← holding [ov] (getMethod ov "__init__" pl)
      callWith p3 f first (backTo p3 (starEach (e :: es) env)) []) := by exact fun env => ⟨_, rfl⟩)
    (he : ∀ env : Env, starEach (e :: es) env = (false, eval e env) :: starEach es env := by intro _; rfl) (hpl : ∀ env : Env, (backTo p3 (starEach es env)).any (·.1) = false := by intro _; rfl) :
    FnG P w K mg base CX (k + 1) f fd ps sp := by
  obtain ⟨oc, kV, doc, pm, ct, ccl, cl, od, an, cdd, cld, cda, cc, osl, ccs, csl, vsF, file, tf, rfl, look, code, lc, lcda, hv2, hfile⟩ := F.ex
  refine ⟨ar, fun A room gd outer s H args us vs Q E env bind rel want => ?_⟩
  have inK : K.In s.heap := env.mod.kin.keeps (fun b o h => (env.bs b o h).1)
  have free : s.heap.NoLimit := env.mod.nolimit.keeps (fun b o h => (env.bs b o h).1)
  have hv := ar vs H Q E want
  obtain ⟨ta, t, a, C, vs', hta, ht, rfl, T, SV, ea, reads⟩ := body cda cc A outer s H vs Q E (room.deeper _) gd want
  refine ks_codeAny_call_defAt (body := defBody st) (binds := ps.zip us) room.depth (inK _ _ look) rfl free (PySem.W.codeRec_of inK code) rfl bind S.nocell (fun y hy => ?_) (fun h₀ hns hk => ?_) S.co S.gen S.kind
  · exact S.par y.1 (List.of_mem_zip (show (y.1, y.2) ∈ ps.zip us from hy)).1
  have I := inv_startC (CX := CX) (E := E) (f := f) (cda := cda) (qual := qual) (tk := s.toks + (ps.zip us).length) S room.hd env hv rel lc hns hk
  have slot0 : (L2.start N (V.ref a :: vs'))[0]? = some (some (.ref a)) := rfl
  have inK' : K.In h₀ := inK.keeps hk
  show _root_.PySem.wpAt (model P w) (A.deeper (PySem.W.ksEnv qual (defScope st) s.heap.objs.size f (.ref cda) cc)) (.func (defBody st) (PySem.W.ksEnv qual (defScope st) s.heap.objs.size f (.ref cda) cc)) (execs (defBody st) (PySem.W.ksEnv qual (defScope st) s.heap.objs.size f (.ref cda) cc)) _ _ _
  obtain ⟨pl, ev⟩ := hev (PySem.W.ksEnv qual (defScope st) s.heap.objs.size f (.ref cda) cc)
  have noI : interactive (PySem.W.ksEnv qual (defScope st) s.heap.objs.size f (.ref cda) cc) = false := by
    unfold interactive
    simp [S.kind]
  rw [hb]
  refine ks_wpAt_execs_cons (ks_wpAt_Expr_any (hi := noI) (ks_wpAt_MethodCall (he := ev) (ks_wpAt_super_base (ar := apar) S.sup S.cls rfl rfl (inK' _ _ look) rfl hp rfl (inK' _ _ lcda) rfl hv2 hfile SV.main ?_)))
  obtain ⟨mb, hb1, hb2⟩ := I.mod.blt
  obtain ⟨cdD, hD⟩ := SV.clsD
  obtain ⟨oD, hD1, hD2⟩ : ∃ oD, h₀.get? D = some oD ∧ oD.data = .cls cdD := by
    unfold PySem.W.clsIn at hD
    split at hD
    · rename_i c d cd' sl ho
      cases hD
      exact ⟨_, inK' _ _ ho, rfl⟩
    · cases hD
  have par0 := S.par _ (List.mem_of_getElem? h00)
  obtain ⟨m, nsL, locs⟩ := I.loc
  obtain ⟨u, ru, lk⟩ := locs 0 apar.arg (.ref a) h0 slot0 (.inl par0)
  cases (show u = .ref a from ru)
  have mv : m apar.arg = some (.ref a) := by
    rcases lk with ⟨_, z⟩ | ⟨z, _⟩
    · exact z
    · have z' : (defScope st).names.lookup apar.arg = some .cell ∨ (defScope st).names.lookup apar.arg = some .free := z
      rw [par0] at z'
      rcases z' with z' | z' <;> cases z'
  refine PySem.W.ks_loadName_global S.kind S.sup (Calls.loadGlobal_builtin (env := PySem.W.ksEnv qual (defScope st) s.heap.objs.size f (.ref cda) cc) (I.mod.glob.keeps I.bk) SV.glob (hb1.keeps I.bk) ((hb2 "super" (by decide +kernel)).trans PyProof.Rows.Boot.«super») ⟨rfl, ?_⟩)
  refine wpAny_loadName_free S.kind S.cls rfl ⟨_, inK' _ _ lc, rfl⟩ ?_
  refine wpAny_loadName_local S.kind par0 nsL mv ?_
  refine ks_wpAny_isType_cls hD1 hD2 ⟨rfl, ?_⟩
  obtain ⟨t1, ho⟩ := exo_at I.hok ea
  refine ks_wpAny_call_super hD1 hD2 ho rfl (fun c e => nomatch e) (PySem.W.looks_mroIn inK' SV.sub) (fun h' so kk => ?_)
  have inK2 : K.In h' := inK'.keeps kk
  have inst : PySem.W.InstAt h' a _ C none := ⟨kk _ _ ho, rfl, rfl, trivial⟩
  cases hc : PySem.W.clsIn K C with
  | none =>
    have z := SV.init
    unfold PySem.W.ks_superIn at z
    rw [hc] at z
    cases z
  | some cd =>
    have hin := SV.init
    unfold PySem.W.ks_superIn at hin
    rw [hc] at hin
    refine PySem.W.kxs_getMethod PySem.W.kxs_ValueError so (PySem.W.looks_opaque inK2 SV.opq) (l₀ := cd.mro) ?_ rfl inK2 hin (inst.type.andThen (PySem.W.looks_subIn inK2 SV.isVE)) (PySem.W.ks_ne inK2 inst hc) (by decide) ?_
    · exact fun A Q E s k q => wpAny_bind ((PySem.W.looks_clsIn inK2 hc) A _ E s k (wpAny_pure q))
    · have I1 := I.kept (t' := s.toks + (ps.zip us).length) kk
      have ltL : s.heap.objs.size < h'.objs.size := by
        obtain ⟨o, _, _, e1, _⟩ := nsL
        exact Heap.lt_size (kk _ _ e1)
      have I2 := (I1.kept (t' := s.toks + (ps.zip us).length + 1) (h' := h'.push (PySem.W.kxs_mw "ValueError.__init__" a)) (fun b o e => Heap.get?_push_of_some _ e)).pins_of (pins' := [(h'.objs.size, PySem.W.kxs_mw "ValueError.__init__" a)]) (fun p hp => by
        rcases List.mem_singleton.mp hp with rfl
        exact ⟨Heap.get?_push_size _ rfl, I1.hok.fresh (Nat.le_refl _), Nat.ne_of_gt ltL, I1.nofs (Nat.le_refl _), fun v z => nomatch z⟩)
      refine callWith_bw (x := a) (thn (hta.run p3 _ _ _ H _ I2 reads) ?_) (he _) (hpl _)
      rintro us2 s1 ⟨ws, H1, I3, r1, hl, ea1, q⟩
      have hm := (I3.pin (h'.objs.size, PySem.W.kxs_mw "ValueError.__init__" a) (by simp)).1
      refine ⟨hm, bw_ok T I3 ea1 hm ?_ fun s' J => ?_⟩
      · rw [← Paired.length r1, sizeLine_eq]
        omega
      · refine wpAt_of_wpAny (wpAny_mono (ht.run _ s' _ H1 _ J q) ?_ (fun _ _ left => left))
        intro flow s2 post
        cases flow with
        | brk => exact (post.choose_spec.choose_spec).2.elim
        | cont => exact (post.choose_spec.choose_spec).2.elim
        | next =>
          obtain ⟨_, H2, J2, q2⟩ := post
          exact ⟨.non, H2, J2.os, J2.bare, J2.base, J2.hok, rfl, q2⟩
        | ret u =>
          obtain ⟨v, _, H2, J2, rv, q2⟩ := post
          exact ⟨v, H2, J2.os, J2.bare, J2.base, J2.hok, rv, q2⟩
end
end Ex
/-! C(.., k = v) for an exception's class C with its own __init__: what __new__ does with keywords (nothing), then __init__. -/
namespace Ex
open PySem PySem.Spec PyProof.Rows L2 Gd PySem.HandSPX
section
variable {prog : Program} {w : World} {M : Model} {A : Around} {E : Value → Shared → Prop} {R : Result → Shared → Prop} {hp : Heap} {gs : Array GenState} {dr : Drawn} {tk : Nat} {os : OsState}
variable {nm qn : Str} {C N fI : Addr} {bs bm : List Value} {hd : Bool} {sn : List Str} {sub : List Value} {ab : Bool} {col : Option Bool} {dd : Option Addr} {k0 k1 k2 k3 k5 : Option Value} {ps : List Value} {kw : List (Str × Value)}
theorem mayNew (T : ∀ X : String, bm.contains (.type X) = veTail.contains (.type X)) {Q : Unit → Shared → Prop} (at_ : hp.get? C = some (excClassObj nm qn C N bs bm hd sn sub ab col dd k0 k1 k2 k3 k5 "ValueError.__new__")) (q : Q () ⟨hp, gs, dr, tk, os⟩) :
    wpAny M A (checkBuiltinCall "ValueError.__new__" ⟨.ref C :: ps, kw⟩) Q E ⟨hp, gs, dr, tk, os⟩ := by
  have F := F.excBase_ValueError
  have has : (Value.ref C :: bm).contains (.type "ValueError") = true := by rw [List.contains_cons, T, F.hasB, Bool.or_true]
  have st := F.noStar
  simp only [checkBuiltinCall, F.newKind, F.newSplit, F.newRow]
  repeat (first | refine wpAny_loadPart_at at_ ?_ | (refine wpAny_isSubtype_exc at_ ?_; rw [has]) | refine wpAny_staticBase_exc at_ ?_ | refine wpAny_madeBy_exc at_ ?_ | simp only [bne_self_eq_false, Bool.false_eq_true, if_false] | wp_step)
  exact q
theorem doesNew (T : ∀ X : String, bm.contains (.type X) = veTail.contains (.type X)) (at_ : hp.get? C = some (excClassObj nm qn C N bs bm hd sn sub ab col dd k0 k1 k2 k3 k5 "ValueError.__new__")) (few : ps.length ≤ sizeLine)
    (q : R (.ok (.ret (.ref (hp.objs.size + 1)))) ⟨(hp.push (W.kdv_tup ps)).push (excO C hp.objs.size), gs, dr, tk, os⟩) :
    codeAny (model prog w) A (.builtin "ValueError.__new__" ⟨.ref C :: ps, kw⟩) R ⟨hp, gs, dr, tk, os⟩ := by
  have F := F.excBase_ValueError
  have ends := F.ends
  have cV : (Value.ref C :: bm).contains (.type "ValueError") = true := by rw [List.contains_cons, T, F.hasB, Bool.or_true]
  have cA : (Value.ref C :: bm).contains (.type "AttributeError") = false := by rw [List.contains_cons, T, F.noAttr]; rfl
  have cN : (Value.ref C :: bm).contains (.type "NameError") = false := by rw [List.contains_cons, T, F.noName]; rfl
  refine codeAny_builtinAt F.entry ?_
  unfold Builtin.«BaseException.__new__»
  refine _root_.PySem.wpAt_bind ?_
  show _root_.PySem.wpAt _ _ _ (stack >>= _) _ _ _
  refine _root_.PySem.wpAt_bind (_root_.PySem.wpAt_stack fun p below => _root_.PySem.wpAt_of_wpAny ?_)
  wp_walk
  refine _root_.PySem.wpAt_of_wpAny ?_
  rw [F.owner]
  repeat (first | with_reducible refine wpAny_madeHere_exc F.canon at_ ?_ | with_reducible refine wpAny_loadPart_at at_ ?_ | (with_reducible refine wpAny_isSubtype_exc at_ ?_; first | rw [cV] | rw [cA] | rw [cN]) | wp_step)
  show R _ _
  rw [Heap.size_push]
  exact q
theorem typeCalls (T : ∀ X : String, bm.contains (.type X) = veTail.contains (.type X)) {Q : Fin → Shared → Prop} (at_ : hp.get? C = some (excClassObj nm qn C N bs bm hd sn sub ab col dd k0 k1 k2 k3 k5 "ValueError.__new__"))
    (ini : W.Looks (model prog w) hp (typeLookup (.ref C) "__init__") (some (.ref fI))) (bound : ∀ self, W.Looks (model prog w) hp (bindSpecial (.ref fI) self) (.ref fI, [self])) (few : ps.length ≤ sizeLine)
    (q : codeAny (model prog w) A (.call (.ref fI) ⟨.ref (hp.objs.size + 1) :: ps, kw⟩) (fun r s' => match r with | .ok (.ret v) => v = .none ∧ Q (.done (.ret (.ref (hp.objs.size + 1)))) s' | .ok _ => False | .error e => E e s')
      ⟨(hp.push (W.kdv_tup ps)).push (excO C hp.objs.size), gs, dr, tk, os⟩) : wpAny (model prog w) A (Builtin.«type.__call__» ⟨.ref C :: ps, kw⟩) Q E ⟨hp, gs, dr, tk, os⟩ := by
  repeat (first | with_reducible refine wpAny_loadPart_at at_ ?_ | with_reducible refine wpAny_madeBy_exc at_ ?_ | wp_step)
  refine codeAny_call_builtin_code (Code.quiet_builtin _ F.excBase_ValueError.quiet) (mayNew T at_ ?_)
  refine doesNew T at_ few ?_
  show wpAny _ _ _ _ _ _
  have kept : ∀ b o, hp.get? b = some o → ((hp.push (W.kdv_tup ps)).push (excO C hp.objs.size)).get? b = some o := fun b o e => Heap.get?_push_of_some _ (Heap.get?_push_of_some _ e)
  have at1 := kept _ _ at_
  have new : ((hp.push (W.kdv_tup ps)).push (excO C hp.objs.size)).get? (hp.objs.size + 1) = some (excO C hp.objs.size) := by heap_get
  have self : (Value.ref C :: bm).contains (.ref C) = true := by simp
  have i1 := ini.keeps kept
  have b1 := (bound (.ref (hp.objs.size + 1))).keeps kept
  unfold isInstance
  repeat (first | with_reducible refine wpAny_loadPart_at new ?_ | (with_reducible refine wpAny_isSubtype_exc at1 ?_; rw [self]) | wp_step)
  show wpAny _ _ (typeLookup (.ref C) _) _ _ _
  refine i1.at ?_
  refine wpAny_holding (wpAny_bind (b1.at ?_))
  refine wpAny_bind (wpAny_call (codeAny_mono q fun r s' z => ?_))
  rcases r with e | (v | _ | _ | _) <;> first | exact z | exact z.elim | skip
  obtain ⟨rfl, z⟩ := z
  first
    | exact wpAny_pure (wpAny_pure z)
    | (wp_walk; exact z)
theorem mayCall {Q : Unit → Shared → Prop} {newId : String} (at_ : hp.get? C = some (excClassObj nm qn C N bs bm hd sn sub ab col dd k0 k1 k2 k3 k5 newId)) (q : Q () ⟨hp, gs, dr, tk, os⟩) :
    wpAny M A (checkBuiltinCall "type.__call__" ⟨.ref C :: ps, kw⟩) Q E ⟨hp, gs, dr, tk, os⟩ := by
  have f3 := tc_sub
  have ty : (⟨hp, gs, dr, tk, os⟩ : Shared).TypeIs (.ref C) "type" := ⟨_, at_, rfl⟩
  simp only [checkBuiltinCall, tc_kind, tc_split]
  repeat (any_goals (first | assumption | with_reducible refine wpAny_loadPart_at at_ ?_ | with_reducible refine wpAny_onRaise ?_ | with_reducible refine wpAny_map ?_ | wp_step))
/-- the class called with keywords: its __init__ gets them -/
theorem classCalled (T : ∀ X : String, bm.contains (.type X) = veTail.contains (.type X)) (at_ : hp.get? C = some (excClassObj nm qn C N bs bm hd sn sub ab col dd k0 k1 k2 k3 k5 "ValueError.__new__"))
    (ini : W.Looks (model prog w) hp (typeLookup (.ref C) "__init__") (some (.ref fI))) (bound : ∀ self, W.Looks (model prog w) hp (bindSpecial (.ref fI) self) (.ref fI, [self])) (few : ps.length ≤ sizeLine)
    (q : codeAny (model prog w) (A.under (.builtin "type.__call__" ⟨.ref C :: ps, kw⟩)) (.call (.ref fI) ⟨.ref (hp.objs.size + 1) :: ps, kw⟩) (W.InitBack (hp.objs.size + 1) R) ⟨(hp.push (W.kdv_tup ps)).push (excO C hp.objs.size), gs, dr, tk, os⟩) :
    codeAny (model prog w) A (.call (.ref C) ⟨ps, kw⟩) R ⟨hp, gs, dr, tk, os⟩ := by
  have f1 := tc_lookup
  have f2 := tc_bind (.ref C)
  have ty : (⟨hp, gs, dr, tk, os⟩ : Shared).TypeIs (.ref C) "type" := ⟨_, at_, rfl⟩
  refine codeAny_of_tree ?_
  show wpAny _ _ (callAny (.ref C) _) _ _ _
  repeat (any_goals (first | assumption | with_reducible refine wpAny_loadPart_at at_ ?_ | wp_step))
  refine ⟨rfl, ?_⟩
  refine codeAny_call_builtin_at (Code.quiet_builtin _ (by decide +kernel)) entry_typeCall (mayCall at_ (typeCalls T at_ ini bound few ?_))
  refine codeAny_mono q fun r s' z => ?_
  rcases r with e | (v | _ | _ | _) <;> exact z
end
end Ex
/-! An own exception made as a value: C(e, ..), C(k = e, ..), C(), C's __init__ keeping a promise where no repr is under way. -/
namespace Ex
open PySem PySem.Spec PyProof.Rows L2 Gd
section
variable {X : Cx} {CX : CXT} {k : Nat} {fI C : Addr} {fd : FuncData} {ps : List Str} {sp : Sp} {x : Str} {p pos : Pos} {e : Expr} {es : List Expr} {ta tk : TA}
/-- what the written part says of the class: it is one of ours, its __init__ is the function at fI -/
structure Own (K : PySem.W.Frag) (C fI : Addr) : Prop where
  oex : OexC K C
  ini : PySem.W.findIn K (.ref C) "__init__" = some (some (.ref fI))
  fn : PySem.W.typeIn K (.ref fI) = some (.type "function")
theorem run_newE {pins : List (Addr × Obj)} {σ : L2.St} {H : Hp} {s : Shared} {Q : VK} {us gs : List Value} {kw : List (Str × Value)} {vs : List V} (O : Own X.K C fI) (Fn : FnG X.prog X.w X.K X.mg X.base CX k fI fd ps sp) (room : Room (k + 1) X.A) (gd : X.A.guards = some [])
    (pass : Passes CX X fun _ _ _ => False) (bind : ∀ (s : Shared) (self : Value), X.K.In s.heap → BindsTo s fd ⟨self :: us, kw⟩ (ps.zip (self :: gs))) (I : Inv X pins σ H s) (rel : Vals vs gs) (few : us.length ≤ sizeLine)
    (want : ∀ a, H a = none → sp (.ref a :: vs) (upd H a (exo a C none)) (fun v H2 => v = .non ∧ Q (.ref a) H2) fun _ _ _ => False) :
    wpAny (model X.prog X.w) X.A (call (.ref C) us kw) (EP X pins σ Q) X.xe s := by
  obtain ⟨nm, qn, N, bs, bm, sn, sub, ab, col, dd, k0, k1, k2, k3, k5, at_, ve⟩ := O.oex.cls
  obtain ⟨hp, g, dr, tk, os⟩ := s
  have le : hp.objs.size ≤ hp.objs.size + 1 := Nat.le_succ _
  have fresh : H (hp.objs.size + 1) = none := I.hok.fresh le
  have q := want (hp.objs.size + 1) fresh
  have kept : ∀ b o, hp.get? b = some o → ((hp.push (PySem.W.kdv_tup us)).push (PySem.HandSPX.excO C hp.objs.size)).get? b = some o := fun b o e => Heap.get?_push_of_some _ (Heap.get?_push_of_some _ e)
  have new : ((hp.push (PySem.W.kdv_tup us)).push (PySem.HandSPX.excO C hp.objs.size)).get? (hp.objs.size + 1) = some (PySem.HandSPX.excO C hp.objs.size) := by heap_get
  have I2 : Inv X pins σ (upd H (hp.objs.size + 1) (exo (hp.objs.size + 1) C none)) ⟨(hp.push (PySem.W.kdv_tup us)).push (PySem.HandSPX.excO C hp.objs.size), g, dr, tk, os⟩ :=
    I.laid (t' := tk) (o := exo (hp.objs.size + 1) C none) kept le (exo_ok new)
  refine wpAny_call (classCalled (fun Y => PySem.HandSPX.refsVE_contains Y bm ve) (I.kIn _ _ at_) (PySem.W.looks_findIn I.kIn O.ini) (fun self => PySem.W.bind_fn I.kIn self O.fn) few ?_)
  refine codeAny_mono (Fn.go _ (room.make C us kw) ?_ X.stack _ _ _ (.ref (hp.objs.size + 1) :: gs) _ _ (fun _ _ _ => False) (I2.env0.make C us kw) (bind _ _ I2.kIn) (.cons (show RelV (V.ref (hp.objs.size + 1)) (.ref (hp.objs.size + 1)) from rfl) rel) q) fun r s' got => ?_
  · rw [PySem.Around.under, gd]
    rfl
  · rcases r with er | fl
    · exact pass pins σ _ _ er s' I2 got
    · cases fl with
      | next => exact False.elim got
      | brk => exact False.elim got
      | cont => exact False.elim got
      | ret u =>
        obtain ⟨v, H2, os2, bare2, un2, hok2, rv, ev, q2⟩ := got
        subst ev
        exact ⟨rv, .ref (hp.objs.size + 1), H2, I2.call' (ch := []) os2 un2 hok2 bare2 (fun b z => absurd z (by simp)), rfl, q2⟩
/-- C(e, ..) -/
def tNewE (C : Addr) (sp : Sp) (ta : TA) : TE := fun σ H Q => ta σ H fun vs H1 => vs.length ≤ 1000 ∧ ∀ a, H1 a = none → sp (.ref a :: vs) (upd H1 a (exo a C none)) (fun v H2 => v = .non ∧ Q (.ref a) H2) fun _ _ _ => False
theorem few_of {vs : List V} {us : List Value} (r : Vals vs us) (h : vs.length ≤ 1000) : us.length ≤ sizeLine := by
  rw [← Paired.length r, sizeLine_eq]
  omega
theorem pe_newE (O : Own X.K C fI) (kC : PySem.W.keepIn X.K (.ref C) = true) (Fn : FnG X.prog X.w X.K X.mg X.base CX k fI fd ps sp) (room : Room (k + 1) X.A) (gd : X.A.guards = some []) (pass : Passes CX X fun _ _ _ => False)
    (isGl : Gl X x) (at_ : X.mg x = some (.ref C)) (bind : ∀ (s : Shared) (self : Value) (us : List Value), us.length + 1 = ps.length → X.K.In s.heap → BindsTo s fd ⟨self :: us, []⟩ (ps.zip (self :: us))) (args : PA X (e :: es) ta)
    (nodbg : (x == ("__debug__" : Str)) = false := by decide) (star : starEach (e :: es) X.env = (false, eval e X.env) :: starEach es X.env := by rfl) (plain : (backTo pos (starEach es X.env)).any (·.1) = false := by rfl) :
    PE X (.Call (.Name x p) (e :: es) [] pos) (tNewE C sp ta) := by
  constructor
  intro pins s σ H Q I want
  refine wpAny_Call_Name_kw (ld_glob I isGl at_ ?_ nodbg)
  refine PySem.W.callWith_K (h₀ := X.base) I.ok.mod.kin kC (thn (args.run pos pins s σ H _ I want) ?_) star plain
  rintro us s1 ⟨vs, H1, I1, rel, few, q⟩
  refine ⟨I1.kIn, run_newE O Fn room gd pass (fun s self inK => bind s self us ?_ inK) I1 rel (few_of rel few) q⟩
  have n := Fn.arity _ _ _ _ (q (s1.heap.objs.size) (I1.hok.fresh (Nat.le_refl _)))
  rw [← n, List.length_cons, Paired.length rel]
/-- C(k = e, ..): the values in the parameters' order -/
def tNewK (C : Addr) (sp : Sp) (gV : List V → List V) (tk : TA) : TE := fun σ H Q => tk σ H fun zs H1 => ∀ a, H1 a = none → sp (.ref a :: gV zs) (upd H1 a (exo a C none)) (fun v H2 => v = .non ∧ Q (.ref a) H2) fun _ _ _ => False
theorem pe_newK {ks : List Str} {kws : List Keyword} {g : List Value → List Value} {gV : List V → List V} (O : Own X.K C fI) (kC : PySem.W.keepIn X.K (.ref C) = true) (Fn : FnG X.prog X.w X.K X.mg X.base CX k fI fd ps sp) (room : Room (k + 1) X.A) (gd : X.A.guards = some []) (pass : Passes CX X fun _ _ _ => False)
    (isGl : Gl X x) (at_ : X.mg x = some (.ref C)) (bind : ∀ (s : Shared) (self : Value) (ws : List Value), (g ws).length + 1 = ps.length → X.K.In s.heap → BindsTo s fd ⟨[self], ks.zip ws⟩ (ps.zip (self :: g ws))) (turn : ∀ {zs : List V} {ws : List Value}, Vals zs ws → Vals (gV zs) (g ws))
    (words : PK X kws tk) (every : (backToKw pos (keywordEach kws X.env)).all (·.1.isSome) = true := by rfl) (names : (backToKw pos (keywordEach kws X.env)).filterMap (·.1) = ks := by rfl) (nodbg : (x == ("__debug__" : Str)) = false := by decide)
    (plain : ((backTo pos (starEach [] X.env)).any (·.1) || (backToKw pos (keywordEach kws X.env)).any (·.1.isNone)) = false := by rfl) :
    PE X (.Call (.Name x p) [] kws pos) (tNewK C sp gV tk) := by
  constructor
  intro pins s σ H Q I want
  refine wpAny_Call_Name_kw (ld_glob I isGl at_ ?_ nodbg)
  refine PySem.W.callWith_KW0 (h₀ := X.base) I.ok.mod.kin kC every ?_ plain
  refine thn (words.run pos pins s σ H _ I want) ?_
  rintro ws s2 ⟨zs, H2, I2, rel, q⟩
  refine ⟨I2.kIn, ?_⟩
  rw [names]
  refine run_newE (us := []) O Fn room gd pass (fun s self inK => bind s self ws ?_ inK) I2 (turn rel) (Nat.zero_le _) q
  have n := Fn.arity _ _ _ _ (q (s2.heap.objs.size) (I2.hok.fresh (Nat.le_refl _)))
  rw [← n, List.length_cons, Paired.length (turn rel)]
/-- C() -/
theorem pe_new0 (O : Own X.K C fI) (kC : PySem.W.keepIn X.K (.ref C) = true) (Fn : FnG X.prog X.w X.K X.mg X.base CX k fI fd ps sp) (room : Room (k + 1) X.A) (gd : X.A.guards = some []) (pass : Passes CX X fun _ _ _ => False)
    (isGl : Gl X x) (at_ : X.mg x = some (.ref C)) (bind : ∀ (s : Shared) (self : Value), X.K.In s.heap → BindsTo s fd ⟨[self], []⟩ (ps.zip [self])) (nodbg : (x == ("__debug__" : Str)) = false := by decide) :
    PE X (.Call (.Name x p) [] [] pos) (tNewE C sp tNil) := by
  constructor
  intro pins s σ H Q I want
  refine wpAny_Call_Name_kw (ld_glob I isGl at_ ?_ nodbg)
  exact PySem.W.callWith_K0 I.kIn kC (run_newE (us := []) O Fn room gd pass bind I .nil (Nat.zero_le _) want.2)
end
end Ex
/-! Data that may hold dicts with one text as their key: how it is read, shown; what an own exception says of itself. -/
namespace Ex
open PySem PySem.Spec PyProof.Rows L2 Gd
mutual
/-- data that stands off the addresses av -/
inductive Dq (av : List Addr) (H : Hp) : V → PyData → Prop
  | non : Dq av H .non .none
  | bl (b : Bool) : Dq av H (.bl b) (.bool b)
  | int (i : Int) : Dq av H (.int i) (.int i)
  | str (x : Str) : Dq av H (.str x) (.str x)
  | lst {a : Addr} {xs : List V} {ds : List PyData} : a ≠ sysModules → a ∉ av → H a = some (.lst xs) → DqAll av H xs ds → Dq av H (.ref a) (.list ds)
  | tup {a : Addr} {xs : List V} {ds : List PyData} : a ∉ av → H a = some (.tup xs) → DqAll av H xs ds → Dq av H (.ref a) (.tuple ds)
  | dnil {a : Addr} : a ∉ av → H a = some (.dK []) → Dq av H (.ref a) (.dict [])
  | done {a : Addr} {k : Str} {x : V} {d : PyData} : a ∉ av → H a = some (.dK [(.inr k, x)]) → Dq av H x d → Dq av H (.ref a) (.dict [(.str k, d)])
inductive DqAll (av : List Addr) (H : Hp) : List V → List PyData → Prop
  | nil : DqAll av H [] []
  | cons {v : V} {vs : List V} {d : PyData} {ds : List PyData} : Dq av H v d → DqAll av H vs ds → DqAll av H (v :: vs) (d :: ds)
end
/-- the old objects stand as they stood, but perhaps those at av -/
def But (av : List Addr) (H H' : Hp) : Prop := ∀ b o, b ∉ av → H b = some o → H' b = some o
theorem But.of {av : List Addr} {H H' : Hp} (e : ∀ b o, H b = some o → H' b = some o) : But av H H' := fun b o _ h => e b o h
mutual
theorem Dq.keep {av : List Addr} {H H' : Hp} (e : But av H H') : ∀ {v : V} {d : PyData}, Dq av H v d → Dq av H' v d
  | _, _, .non => .non
  | _, _, .bl b => .bl b
  | _, _, .int i => .int i
  | _, _, .str x => .str x
  | _, _, .lst n q h r => .lst n q (e _ _ q h) (DqAll.keep e r)
  | _, _, .tup q h r => .tup q (e _ _ q h) (DqAll.keep e r)
  | _, _, .dnil q h => .dnil q (e _ _ q h)
  | _, _, .done q h r => .done q (e _ _ q h) (Dq.keep e r)
theorem DqAll.keep {av : List Addr} {H H' : Hp} (e : But av H H') : ∀ {vs : List V} {ds : List PyData}, DqAll av H vs ds → DqAll av H' vs ds
  | _, _, .nil => .nil
  | _, _, .cons a b => .cons (Dq.keep e a) (DqAll.keep e b)
end
section
variable {av : List Addr} {X : Cx} {pins : List (Addr × Obj)} {σ : L2.St} {H : Hp} {s : Shared}
mutual
theorem Dq.reads (I : Inv X pins σ H s) : ∀ {v : V} {d : PyData} {u : Value}, Dq av H v d → RelV v u → ∃ as, Reads s.heap u d as ∧ sysModules ∉ as
  | _, _, _, .non, r => by
    cases (show _ = Value.none from r)
    exact ⟨_, .none, by simp⟩
  | _, _, _, .bl b, r => by
    cases (show _ = Value.bool b from r)
    exact ⟨_, .bool b, by simp⟩
  | _, _, _, .int i, r => by
    obtain ⟨t, rfl⟩ := (show ∃ t, _ = Value.int i t from r)
    exact ⟨_, .int i t, by simp⟩
  | _, _, _, .str x, r => by
    obtain ⟨t, rfl⟩ := (show ∃ t, _ = Value.str x t from r)
    exact ⟨_, .str x t, by simp⟩
  | _, _, _, @Dq.lst _ _ a _ _ n _ h m, r => by
    cases (show _ = Value.ref a from r)
    obtain ⟨its, rv, ⟨o, k, ho, hc, _, hd⟩, _⟩ := I.list (.inl (.inl h))
    obtain ⟨as, hr, q⟩ := DqAll.reads I m rv
    refine ⟨_, .list ho hc hd hr, fun z => ?_⟩
    rcases List.mem_cons.mp z with z | z
    · exact n z.symm
    · exact q z
  | _, _, _, @Dq.tup _ _ a _ _ _ h m, r => by
    cases (show _ = Value.ref a from r)
    obtain ⟨its, rv, ⟨o, ho, hc, k, hd⟩, _⟩ := I.tuple (.inl (.inl h))
    obtain ⟨as, hr, q⟩ := DqAll.reads I m rv
    exact ⟨_, .tuple ho hc hd hr, q⟩
  | _, _, _, @Dq.dnil _ _ a _ h, r => by
    cases (show _ = Value.ref a from r)
    obtain ⟨_, ns, vs, kv, o, es, ep, ho, hx, hd, _, hp, _⟩ := dk_of I.hok h
    cases kv
    generalize hl : es.toList = l at hp
    cases hp
    refine ⟨_, .dict ho hx.1 hd (kvs := []) (by rw [hl]; exact .nil) (by rw [hl]; exact .nil), fun z => ?_⟩
    have z' : sysModules = a := by simpa using z
    rw [z'] at ns
    simp at ns
  | _, _, _, @Dq.done _ _ a k x d _ h m, r => by
    cases (show _ = Value.ref a from r)
    obtain ⟨_, ns, vs, kv, o, es, ep, ho, hx, hd, _, hp, _⟩ := dk_of I.hok h
    cases kv with
    | @cons _ q _ _ q1 q2 =>
      cases q2
      generalize hl : es.toList = l at hp
      cases hp with
      | @cons e _ _ _ h1 h2 h3 =>
        cases h3
        obtain ⟨e1, e2⟩ := q1
        have hk : ∃ t, e.key = Value.str k t := by
          rw [← e1] at h1
          rcases keyIs_shape (show keyIs (.inr k) e.key = true from h1) with ⟨i, t, z, _⟩ | ⟨y, t, z, w⟩
          · cases z
          · cases z
            exact ⟨t, w⟩
        obtain ⟨t, hk⟩ := hk
        obtain ⟨as, hr, n⟩ := Dq.reads I m (show RelV x e.val by rw [h2]; exact e2)
        refine ⟨_, .dict ho hx.1 hd (kvs := [(.str k, d)]) (by rw [hl]; show ReadsAll _ [e.key] _ _; rw [hk]; exact .cons (.str k t) .nil) (by rw [hl]; exact .cons hr .nil), fun z => ?_⟩
        have z' : sysModules = a ∨ sysModules ∈ as := by simpa using z
        rcases z' with z' | z'
        · rw [z'] at ns
          simp at ns
        · exact n z'
theorem DqAll.reads (I : Inv X pins σ H s) : ∀ {vs : List V} {ds : List PyData} {us : List Value}, DqAll av H vs ds → Vals vs us → ∃ as, ReadsAll s.heap us ds as ∧ sysModules ∉ as
  | _, _, _, .nil, r => by
    cases r
    exact ⟨_, .nil, by simp⟩
  | _, _, _, .cons a b, r => by
    cases r with
    | cons r1 r2 =>
      obtain ⟨as, q1, n1⟩ := Dq.reads I a r1
      obtain ⟨bs, q2, n2⟩ := DqAll.reads I b r2
      exact ⟨_, .cons q1 q2, fun z => (List.mem_append.mp z).elim n1 n2⟩
end
end
end Ex
namespace Ex
open PySem PySem.Spec PyProof.Rows L2 Gd
section
variable {X : Cx}
/-- data that can be shown -/
def Shows (av : List Addr) (H : Hp) (x : V) (d : PyData) : Prop := Dq av H x d ∧ d.showable = true ∧ d.depth ≤ 40 ∧ d.shown.length ≤ sizeLine
def rReprQ : List V → Hp → VK → Prop := fun xs H Q => ∃ av x d, xs = [x] ∧ Shows av H x d ∧ Q (.str d.shown) H
theorem call_reprQ (gd : X.A.guards = some []) (un : X.A.units + 64 < cLine) : CallR X (.builtin "repr") rReprQ := by
  rintro pins s σ H xs us Q I rel ⟨av, x, d, rfl, ⟨hd, sh, dep, sz⟩, q⟩
  obtain ⟨u, rfl, rv⟩ := vals1 rel
  obtain ⟨as, reads, nsys⟩ := Dq.reads I hd rv
  have big : ∀ {a : Addr}, u = .ref a → wpAny (model X.prog X.w) X.A (call (.builtin "repr") [u]) (EP X pins σ Q) X.xe s := fun e => by
    subst e
    exact repr_of_reads' reads sh (fun _ => nsys) gd (by omega) (fun _ _ e => e) (fun h2 u2 tk keep => ⟨.str _, H, I.kept keep, ⟨u2, rfl⟩, q⟩) sz
  cases hd with
  | non =>
    cases rv
    exact PySem.P.repr_of_none ⟨.str "None", H, I.tok _, ⟨_, rfl⟩, q⟩
  | bl b =>
    cases rv
    exact PySem.P.repr_of_bool ⟨.str (if b then "True" else "False"), H, I.tok _, ⟨_, rfl⟩, q⟩
  | int i =>
    obtain ⟨t, rfl⟩ := rv
    refine PySem.P.repr_of_int ?_ ⟨.str _, H, I.tok _, ⟨_, rfl⟩, q⟩
    simpa [PyData.showable] using sh
  | str z =>
    obtain ⟨t, rfl⟩ := rv
    exact PySem.P.repr_of_str ⟨.str _, H, I.tok _, ⟨_, rfl⟩, q⟩ sz
  | lst _ _ _ _ => exact big rv
  | tup _ _ _ => exact big rv
  | dnil _ _ => exact big rv
  | done _ _ _ => exact big rv
/-- {x!r} -/
def tFmtQ (te : TE) : TE := fun σ H Q => te σ H fun x H1 => ∃ av d, Shows av H1 x d ∧ Q (.str d.shown) H1
theorem pe_fmtQ {e : Expr} {te : TE} {pos : Pos} (gd : X.A.guards = some []) (un : X.A.units + 64 < cLine) (he : PE X e te) : PE X (.FormattedValue e 114 none pos) (tFmtQ te) := by
  constructor
  intro pins s σ H Q I want
  refine wpAny_FormattedValue_repr (thn (he.run pins s σ H _ I want) ?_)
  rintro u s1 ⟨x, H1, I1, rv, av, d, ⟨hd, sh, dep, sz⟩, q⟩
  obtain ⟨as, reads, nsys⟩ := Dq.reads I1 hd rv
  have big : ∀ {a : Addr}, u = .ref a → wpAny (model X.prog X.w) X.A (pyReprObj u) (fun v s2 => wpAny (model X.prog X.w) X.A (formatField v Str.empty) (EP X pins σ Q) X.xe s2) X.xe s1 := fun e => by
    subst e
    exact pyReprObj_of_reads reads sh (fun _ => nsys) gd (by omega) (fun _ _ e => e) (fun h2 u2 tk keep => wpAny_formatField_str ⟨.str _, H1, I1.kept keep, ⟨_, rfl⟩, q⟩ ⟨.str _, H1, I1.kept keep, ⟨_, rfl⟩, q⟩ sz) sz
  cases hd with
  | non =>
    cases rv
    exact pyReprObj_none (wpAny_formatField_str ⟨.str "None", H1, I1.tok _, ⟨_, rfl⟩, q⟩ ⟨.str "None", H1, I1.tok _, ⟨_, rfl⟩, q⟩ sz)
  | bl b =>
    cases rv
    exact pyReprObj_bool (wpAny_formatField_str ⟨.str (if b then "True" else "False"), H1, I1.tok _, ⟨_, rfl⟩, q⟩ ⟨.str (if b then "True" else "False"), H1, I1.tok _, ⟨_, rfl⟩, q⟩ sz)
  | int i =>
    obtain ⟨t, rfl⟩ := rv
    exact pyReprObj_int (by simpa [PyData.showable] using sh) (wpAny_formatField_str ⟨.str _, H1, I1.tok _, ⟨_, rfl⟩, q⟩ ⟨.str _, H1, I1.tok _, ⟨_, rfl⟩, q⟩ sz)
  | str z =>
    obtain ⟨t, rfl⟩ := rv
    exact pyReprObj_str (wpAny_formatField_str ⟨.str _, H1, I1.tok _, ⟨_, rfl⟩, q⟩ ⟨.str _, H1, I1.tok _, ⟨_, rfl⟩, q⟩ sz) sz
  | lst _ _ _ _ => exact big rv
  | tup _ _ _ => exact big rv
  | dnil _ _ => exact big rv
  | done _ _ _ => exact big rv
/-- err.f, err an exception of ours that is held as a value -/
def tEf (K : PySem.W.Frag) (f : Str) (te : TE) : TE := fun σ H Q => te σ H fun x H1 => ∃ (a C dd : Addr) (fs : List (Str × V)) (v : V), x = .ref a ∧ XfC K C ∧ PySem.W.findIn K (.ref C) f = some none ∧ H1 a = some (exo a C (some dd)) ∧ H1 dd = some (exd dd fs) ∧ fs.lookup f = some v ∧ Q v H1
theorem pe_ef {e : Expr} {te : TE} {pos : Pos} {f : Str} (he : PE X e te) (hb : attributeBase e f X.env (eval e X.env) = eval e X.env := by rfl) : PE X (.Attribute e f pos) (tEf X.K f te) := by
  constructor
  intro pins s σ H Q I want
  refine attr_of hb (thn (he.run pins s σ H _ I want) ?_)
  rintro u s1 ⟨x, H1, I1, rx, a, C, dd, fs, v, rfl, T, no, ea, ed, l, q⟩
  cases (show u = Value.ref a from rx)
  obtain ⟨t1, at_⟩ := exo_at I1.hok ea
  obtain ⟨mA, ns, rel⟩ := exd_at I1.hok ed
  obtain ⟨od, ho, hl⟩ := lookIn_ns ns
  obtain ⟨u2, hu, ru⟩ := RelO.some_of (v := v) (o := mA f) (by rw [← l]; exact rel f)
  have J : PySem.W.InstAt s1.heap a _ C (some od) := ⟨at_, rfl, rfl, ho⟩
  exact HandSPX.exc_get I1.kIn J T.ga T.gg T.exC (PySem.W.findObj_own T.hdC no rfl (by rw [hl, hu])) (handed_of ru) ⟨v, H1, I1.tok _, ru, q⟩
/-- an exception of the class at C stands at a -/
def Held (H : Hp) (a C : Addr) : Prop := H a = some (exo a C none) ∨ ∃ dd fs, H a = some (exo a C (some dd)) ∧ H dd = some (exd dd fs)
def rIsiE (K : PySem.W.Frag) : List V → Hp → VK → Prop := fun xs H Q => ∃ (a C : Addr) (c : V) (u : Value) (b : Bool), xs = [.ref a, c] ∧ ClsV c u ∧ Held H a C ∧ ExcC K C ∧ PySem.W.kitOne K (.ref C) u = some b ∧ Q (.bl b) H
theorem call_isiE : CallR X (.builtin "isinstance") (rIsiE X.K) := by
  rintro pins s σ H xs us Q I rel ⟨a, C, c, w, b, rfl, k, held, T, e, q⟩
  obtain ⟨u1, u2, rfl, r1, r2⟩ := vals2 rel
  have e2 := k.eq r2
  subst e2
  cases (show u1 = Value.ref a from r1)
  have cl : (PySem.W.clsIn X.K C).isSome = true := by
    obtain ⟨cd, hc, _⟩ := PySem.W.any_some T.hd
    rw [hc]
    rfl
  rcases held with ea | ⟨dd, fs, ea, ed⟩
  · obtain ⟨t1, at_⟩ := exo_at I.hok ea
    exact PySem.W.kia_one (PySem.W.kitx_exc (od := none) cl T.hg T.hk T.hs T.ha T.hn T.ht T.hm) I.kIn ⟨at_, rfl, rfl, trivial⟩ e (fun z => nomatch z) fun tk => ⟨.bl b, H, I.tok tk, rfl, q⟩
  · obtain ⟨t1, at_⟩ := exo_at I.hok ea
    obtain ⟨mA, ns, rel2⟩ := exd_at I.hok ed
    obtain ⟨od, ho, hl⟩ := lookIn_ns ns
    exact PySem.W.kia_one (PySem.W.kitx_exc (od := some od) cl T.hg T.hk T.hs T.ha T.hn T.ht T.hm) I.kIn ⟨at_, rfl, rfl, ho⟩ e (fun z => nomatch z) fun tk => ⟨.bl b, H, I.tok tk, rfl, q⟩
/-- C(), a class of ours over ValueError without its own __init__ -/
def tBare (C : Addr) : TE := fun _ H Q => ∀ a, H a = none → Q (.ref a) (upd H a (exo a C none))
theorem pe_bare {C : Addr} {x : Str} {p pos : Pos} {bmB : List Value} {B newId initId : String} (F : ExcBaseFacts B newId initId bmB) (cls : PySem.W.excIn X.K C bmB newId = true) (isGl : Gl X x) (at_ : X.mg x = some (.ref C)) (kC : PySem.W.keepIn X.K (.ref C) = true) (nodbg : (x == ("__debug__" : Str)) = false := by decide) :
    PE X (.Call (.Name x p) [] [] pos) (tBare C) := by
  constructor
  intro pins s σ H Q I want
  refine wpAny_Call_Name_kw (ld_glob I isGl at_ ?_ nodbg)
  refine PySem.W.callWith_K0 I.kIn kC ?_
  obtain ⟨bm, N, nm, qn, bs, hdct, sn, sub, ab, col, dd, k0, k1, k2, k3, k5, mN, hC, hN, hni, T⟩ := exc_obj I.kIn cls
  refine wpAny_call_exc_subT F T hC hN hni (fun h' a hm => ?_) (Nat.zero_le _)
  have n : H a = none := I.hok.gone hm.new
  obtain ⟨t, ht, _, _⟩ := hm.there
  exact ⟨.ref a, upd H a (exo a C none), I.laidN hm.keeps hm.new n (exo_ok ht), rfl, want a n⟩
end
end Ex
/-! An exception that was caught and is kept by a name: try: body / except C as n: y = n. -/
namespace Ex
open PySem PySem.Spec PyProof.Rows L2 Gd
/-- an exception's object that was in the air: its class and its dict are known -/
def exz (e : Addr) (cls : Value) (d : Option Addr) : HO := .ext fun h => ∃ (o : Obj) (vs : Array Value), h.get? e = some o ∧ Zc cls d o ∧ o.data = .fields vs
theorem exz_ok {P : Program} {w : World} {H : Hp} {h : Heap} {e : Addr} {cls : Value} {d : Option Addr} {o : Obj} {vs : Array Value} (he : h.get? e = some o) (hz : Zc cls d o) (hd : o.data = .fields vs) : ObjOk P w H h e (exz e cls d) :=
  ⟨⟨o, vs, he, hz, hd⟩, ⟨o, he⟩, fun h1 h2 ⟨o, vs, a, b, c⟩ st => ⟨o, vs, st _ a, b, c⟩⟩
theorem exz_at {P : Program} {w : World} {H : Hp} {h : Heap} {e : Addr} {cls : Value} {d : Option Addr} (hok : HOk P w H h) (he : H e = some (exz e cls d)) : ∃ (o : Obj) (vs : Array Value), h.get? e = some o ∧ Zc cls d o ∧ o.data = .fields vs := (hok _ _ he).1
theorem exz_no {e : Addr} {cls : Value} {d : Option Addr} {u : HO} (h : match u with | .ext _ => False | _ => True) : exz e cls d ≠ u := fun z => by
  unfold exz at z
  rw [← z] at h
  exact h
section
variable {X : Cx} {pins : List (Addr × Obj)} {σ : L2.St} {H : Hp} {s : Shared}
/-- what was not there when the def began may be known from now on -/
theorem learn {a : Addr} {o : HO} (I : Inv X pins σ H s) (new : X.s_0.heap.get? a = none) (na : H a = none) (nL : a ≠ X.env.locals) (nC : ∀ x c, X.env.cells.lookup x = some c → c ≠ a) (nP : ∀ p ∈ X.pn ++ pins, p.1 ≠ a) (ok : ObjOk X.prog X.w (upd H a o) s.heap a o) : Inv X pins σ (upd H a o) s := by
  have same : ∀ b u, H b = some u → upd H a o b = some u := fun b u e => by rw [upd_ne (ne_of_none e na)]; exact e
  refine ⟨I.ok, I.os, I.bare, ⟨I.base.keep, I.base.slot, fun b u e n hx => ?_, I.base.there, fun b xs e => same _ _ (I.base.tups b xs e), fun b u v e => same _ _ (I.base.frzs b u v e), fun b qs e => ?_⟩, I.loc, I.cell, ?_, fun x c e => ?_, fun p hp => ?_, fun b u e => ?_, I.len⟩
  · by_cases z : b = a
    · rw [z, new] at e
      cases e
    · rw [upd_ne z]
      exact I.base.free b u e n hx
  · obtain ⟨more, q⟩ := I.base.tbls b qs e
    exact ⟨more, same _ _ q⟩
  · rw [upd_ne (Ne.symm nL)]
    exact I.free
  · rw [upd_ne (nC x c e)]
    exact I.freeC x c e
  · obtain ⟨e, n, r⟩ := I.pin p hp
    exact ⟨e, by rw [upd_ne (nP p hp)]; exact n, r⟩
  · by_cases z : b = a
    · rw [z, upd_same] at e
      cases e
      rw [z]
      exact ok
    · rw [upd_ne z] at e
      exact (I.hok b u e).stay (fun _ _ _ q => q) (fun _ q => same _ _ q) fun _ _ q => same _ _ q
end
/-- what 'except x as n: y = n' wishes: slot i is n's, slot j is y's -/
def wKept (K : PySem.W.Frag) (c : Value) (i j : Nat) (Wout : WX) (D : Ends) : WX := fun cls d σ H =>
  ∃ b, PySem.W.exmOne K cls c = some b ∧ (b = true → ∀ a, H a = none → D.nx ((σ.set j (some (.ref a))).set i none) (upd H a (exz a cls d))) ∧ (b = false → Wout cls d σ H)
section
variable {X : Cx} {x n y : Str} {c : Value} {i j : Nat} {body : List Stmt} {np q1 q2 q3 pos pos' : Pos} {tb : WX → TS} {Wout : WX}
theorem ps_tryK (hs : X.stack = X.env :: X.outer) (hf : X.env.frame = some X.env.locals) (hex : X.ex = []) (hN : X.N.Nodup) (hi : X.N[i]? = some n) (hj : X.N[j]? = some y) (hij : j ≠ i) (hln : X.env.kindOf n = some .local) (hvn : Vis X.env.scope n) (hly : X.env.kindOf y = some .local) (hdn : (n == ("__debug__" : Str)) = false := by decide) (hcn : (n == ("__classdict__" : Str)) = false := by decide) (hc : Names X x c) (tk : Takes X Wout)
    (hb : ∀ (W : WX) (pn : List (Addr × Obj)) (xe : Value → Shared → Prop), Takes (X.tr pn xe) W → PassesOwn (model X.prog X.w) X.A X.env xe → PSs (X.tr pn xe) body (tb W)) :
    PS X (.Try body [.ExceptHandler (some (.Name x np)) (some n) [.Assign [.Name y q1] (.Name n q2) q3] pos'] [] [] pos) (fun D σ H => tb (wKept X.K c i j Wout D) D σ H) := by
  refine ⟨fun pins s σ H D I want => ?_⟩
  have ok := I.ok
  have top : X.A.frames = some (X.env :: X.outer) := by rw [ok.frames, hs]
  have locN : Loc X.env.scope n := .inl hln
  have locY : Loc X.env.scope y := .inl hly
  refine wpAny_Try_except ?_
  refine wpAny_mono ((hb (wKept X.K c i j Wout D) (X.pn ++ pins) _ (fun u s2 air => ?_) PassesOwn.looking).run [] s σ H D (I.toTry _) want) (fun f s1 post => ?_) (fun _ _ bad => bad)
  · obtain ⟨a, B, s3, pins3, σ3, H3, cls, d, rfl, J3, inB, upTo, sky, free3, os3, ag3, b, isC, caught, passed⟩ := air
    have J : Inv X pins σ3 H3 s3 := J3.ofTry ok
    have skyT : Sky B (X.env :: X.outer) a (Zc cls d) X.env.locals s2.heap := by rw [← hs]; exact sky
    show wpAny (model X.prog X.w) X.A (noteFrame (.ref a) X.env) _ _ _
    refine Sky.land Zc.steady top hf skyT fun h3 air3 up3 => ?_
    have J4 : Inv X pins σ3 H3 { s2 with heap := h3 } := J.landed inB air3.1 (upTo.trans up3) os3 ag3
    obtain ⟨o3, vs3, at3, z3, dt3⟩ := air3.there
    have noFrame : a ∉ frs (X.env :: X.outer) := fun hm => by
      obtain ⟨_, o', e', nf⟩ := air3.2.2.1.mem hm
      rw [at3] at e'
      cases e'
      exact nf _ dt3
    have noB : B.get? a = none := air3.2.1
    have nL : a ≠ X.env.locals := fun z => noFrame (List.mem_filterMap.mpr ⟨X.env, List.mem_cons_self, by rw [hf, z]⟩)
    have nF : a ∉ X.fs := fun hm => by
      obtain ⟨e, he, q⟩ := List.mem_filterMap.mp hm
      exact noFrame (List.mem_filterMap.mpr ⟨e, List.mem_cons_of_mem _ he, q⟩)
    have notIn : ∀ {o : Obj}, s3.heap.get? a = some o → False := fun {o} e => by
      have := inB a o e (by rw [hs]; exact noFrame)
      rw [noB] at this
      cases this
    have notOld : X.s_0.heap.get? a = none := by
      cases e : X.s_0.heap.get? a with
      | none => rfl
      | some o =>
        obtain ⟨o', e'⟩ := J.base.there a o e (by rw [hex]; exact List.not_mem_nil)
        exact (notIn e').elim
    have noPin : ∀ p ∈ X.pn ++ pins, p.1 ≠ a := fun p hp z => by
      obtain ⟨e, _⟩ := J.pin p hp
      rw [z] at e
      exact notIn e
    have S4 := J4.suite at3 dt3 free3 nL nF
    refine wpAny_handleBy_cons (codeAny_handlers_test ?_) (by intro q; cases q)
    have ty : PySem.W.Looks (model X.prog X.w) h3 (typeOf (.ref a)) cls := fun A Q E s k q => wpAny_typeOf_ref (k _ _ at3) (by rw [z3.1]; exact q)
    have matched := PySem.W.exm_one (M := model X.prog X.w) (J4.kIn) ty isC
    have named : ∀ {Q : Value → Shared → Prop} {E : Value → Shared → Prop}, Q c { s2 with heap := h3 } → wpAny (model X.prog X.w) (X.A.mark (some (.ref a))) (eval (.Name x np) X.env) Q E { s2 with heap := h3 } := fun {Q E} q => by
      obtain ⟨hg, hdbg, hm | ⟨hm, hv, hnn⟩⟩ := hc
      · exact ld_glob (X := X.suite a ((a, o3) :: (X.pn ++ pins))) S4 hg hm q hdbg
      · exact ld_blt (X := X.suite a ((a, o3) :: (X.pn ++ pins))) S4 hg hm hv q hnn hdbg
    refine named (matched.here ?_)
    cases b with
    | true =>
      refine codeAny_handlers_suite_as ?_
      refine HandSPX.lands_againZ air3 fun h5 air5 up5 => ?_
      have J5 : Inv X pins σ3 H3 { s2 with heap := h5 } := J.landed inB air5.1 ((upTo.trans up3).trans up5) os3 ag3
      obtain ⟨o5, vs5, at5, z5, dt5⟩ := air5.there
      have S5 := J5.suite at5 dt5 free3 nL nF
      refine store_ok (X := X.suite a ((a, o5) :: (X.pn ++ pins))) (v := .ref a) S5 hN hi locN rfl (fun s6 S6 => ?_) (.inr hln)
      have lenS : i < σ3.length := by
        rw [J.len]
        exact (List.getElem?_eq_some_iff.mp hi).1
      have body := pss_one (ps_set (X := X.suite a ((a, o5) :: (X.pn ++ pins))) (i := j) (pos := q3) (pos' := q1) hN hj (.inl hly) (pe_var (pos := q2) (i := i) hi hvn hdn hcn) rfl (.inr hly))
      refine wpAny_mono (body.run [] s6 _ H3 { nx := fun σ' H' => σ' = (σ3.set i (some (.ref a))).set j (some (.ref a)) ∧ H' = H3, rt := fun _ _ => False, bk := fun _ _ => False, ct := fun _ _ => False } S6 ?_) (fun f s7 post => ?_) (fun _ _ z => False.elim z)
      · exact ⟨.ref a, by rw [List.getElem?_set_self lenS], rfl, rfl⟩
      · cases f with
        | brk => exact (post.choose_spec.choose_spec).2.elim
        | cont => exact (post.choose_spec.choose_spec).2.elim
        | ret u =>
          obtain ⟨_, _, _, _, _, z⟩ := post
          exact z.elim
        | next =>
          obtain ⟨σ7, H7, S7, rfl, rfl⟩ := post
          have pinA := S7.pin (a, o5) (List.mem_append_left _ List.mem_cons_self)
          have J7 : Inv X ((a, o5) :: pins) ((σ3.set i (some (.ref a))).set j (some (.ref a))) H7 s7 := (S7.unsuite ok).pins_of (pins' := (a, o5) :: pins) (fun p hp => by
            rcases List.mem_cons.mp hp with rfl | hp
            · exact pinA
            · exact (S7.unsuite ok).pin p (List.mem_append_right _ hp))
          refine gone_ok J7 hN hi hln fun s8 J8 => ?_
          obtain ⟨at8, _⟩ := J8.pin (a, o5) (List.mem_append_right _ List.mem_cons_self)
          have J9 : Inv X pins _ H7 s8 := J8.pins_of fun p hp => J8.pin p (List.mem_append_right _ (List.mem_cons_of_mem _ hp))
          have nC : ∀ z cc, X.env.cells.lookup z = some cc → cc ≠ a := fun z cc hz e => by
            obtain ⟨v, o, ho, hd⟩ := J9.cell z cc hz
            rw [e, at8] at ho
            cases ho
            rw [dt5] at hd
            cases hd
          have J10 := learn (a := a) (o := exz a cls d) J9 notOld free3 nL nC noPin (exz_ok at8 z5 dt5)
          have ec : ((σ3.set i (some (V.ref a))).set j (some (V.ref a))).set i none = (σ3.set j (some (V.ref a))).set i none := by
            rw [List.set_comm _ _ (Ne.symm hij), List.set_set]
          rw [ec] at J10
          exact ⟨_, _, J10, caught rfl a free3⟩
    | false =>
      show wpAny _ X.A (handleBy (.ref a) X.env []) _ _ _
      refine wpAny_handleBy_nil ?_
      obtain ⟨k1, k2, k3, oe, vs, T, oT, ts', he, hz, hd, h1, hr⟩ := id air3
      unfold PySem.passOn
      refine wpAny_bind (wpAny_field he hd h1 ?_)
      rw [if_neg (show ¬ ((Value.ref T == Value.none) = true) from by simp)]
      have last : wpAny (model X.prog X.w) X.A (setFlight (.ref a) X.env.frame) (fun _ s5 => wpAny (model X.prog X.w) X.A (throw (.ref a) : Sem Flow) (SP X pins D) X.xe s5) X.xe { s2 with heap := h3 } := by
        rw [hf]
        exact HandSPX.setFlight_upZ air3 fun h5 held5 up5 => wpAny_throw (tk _ _ ⟨a, B, s3, pins, σ3, H3, cls, d, rfl, J, inB, (upTo.trans up3).trans up5, .inr (.inr (by rw [hs]; exact held5)), free3, os3, ag3, passed rfl⟩)
      first
        | exact wpAny_bind (wpAny_pure (wpAny_bind last))
        | exact wpAny_bind last
  · cases f with
    | next =>
      obtain ⟨σ2, H2, J2, q⟩ := post
      exact wpAny_execs_nil ⟨σ2, H2, J2.ofTry ok, q⟩
    | brk =>
      obtain ⟨σ2, H2, J2, q⟩ := post
      exact ⟨σ2, H2, J2.ofTry ok, q⟩
    | cont =>
      obtain ⟨σ2, H2, J2, q⟩ := post
      exact ⟨σ2, H2, J2.ofTry ok, q⟩
    | ret u =>
      obtain ⟨v, σ2, H2, J2, r, q⟩ := post
      exact ⟨v, σ2, H2, J2.ofTry ok, r, q⟩
end
section
variable {X : Cx}
/-- an exception of the class at C, that was in the air, stands at a -/
def Kept (H : Hp) (a C : Addr) : Prop := H a = some (exz a (.ref C) none) ∨ ∃ dd fs, H a = some (exz a (.ref C) (some dd)) ∧ H dd = some (.xd fs)
def rIsiZ (K : PySem.W.Frag) : List V → Hp → VK → Prop := fun xs H Q => ∃ (a C : Addr) (c : V) (u : Value) (b : Bool), xs = [.ref a, c] ∧ ClsV c u ∧ Kept H a C ∧ ExcC K C ∧ PySem.W.kitOne K (.ref C) u = some b ∧ Q (.bl b) H
theorem call_isiZ : CallR X (.builtin "isinstance") (rIsiZ X.K) := by
  rintro pins s σ H xs us Q I rel ⟨a, C, c, w, b, rfl, k, held, T, e, q⟩
  obtain ⟨u1, u2, rfl, r1, r2⟩ := vals2 rel
  have e2 := k.eq r2
  subst e2
  cases (show u1 = Value.ref a from r1)
  have cl : (PySem.W.clsIn X.K C).isSome = true := by
    obtain ⟨cd, hc, _⟩ := PySem.W.any_some T.hd
    rw [hc]
    rfl
  rcases held with ea | ⟨dd, fs, ea, ed⟩
  · obtain ⟨o, vs, at_, z, dt⟩ := exz_at I.hok ea
    exact PySem.W.kia_one (PySem.W.kitx_exc (od := none) cl T.hg T.hk T.hs T.ha T.hn T.ht T.hm) I.kIn ⟨at_, z.1, by unfold PySem.W.notCls; rw [dt], by rw [z.2]; trivial⟩ e (fun z => nomatch z) fun tk => ⟨.bl b, H, I.tok tk, rfl, q⟩
  · obtain ⟨o, vs, at_, z, dt⟩ := exz_at I.hok ea
    obtain ⟨mA, ns, rel2⟩ := (show ObjOk X.prog X.w H s.heap dd (.xd fs) from I.hok _ _ ed)
    obtain ⟨od, ho, hl⟩ := lookIn_ns ns
    exact PySem.W.kia_one (PySem.W.kitx_exc (od := some od) cl T.hg T.hk T.hs T.ha T.hn T.ht T.hm) I.kIn ⟨at_, z.1, by unfold PySem.W.notCls; rw [dt], by rw [z.2]; exact ho⟩ e (fun z => nomatch z) fun tk => ⟨.bl b, H, I.tok tk, rfl, q⟩
def rIsiZT (K : PySem.W.Frag) : List V → Hp → VK → Prop := fun xs H Q => ∃ (a C tp : Addr) (cs : List V) (us : List Value) (b : Bool), xs = [.ref a, .ref tp] ∧ H tp = some (.tup cs) ∧ Paired ClsV cs us ∧ Kept H a C ∧ ExcC K C ∧ PySem.W.kitAny K (.ref C) us = some b ∧ Q (.bl b) H
theorem call_isiZT : CallR X (.builtin "isinstance") (rIsiZT X.K) := by
  rintro pins s σ H xs us Q I rel ⟨a, C, tp, cs, ws, b, rfl, hT, k, held, T, e, q⟩
  obtain ⟨u1, u2, rfl, r1, r2⟩ := vals2 rel
  cases (show u2 = Value.ref tp from r2)
  cases (show u1 = Value.ref a from r1)
  obtain ⟨_, its, rv, o, h1, h2, n, h3⟩ := (show ObjOk X.prog X.w H s.heap tp (.tup cs) from I.hok tp _ hT)
  have e3 := ClsV.all k rv
  subst e3
  obtain ⟨oc, od, dt, sl⟩ := o
  simp only at h2 h3
  subst h2 h3
  have cl : (PySem.W.clsIn X.K C).isSome = true := by
    obtain ⟨cd, hc, _⟩ := PySem.W.any_some T.hd
    rw [hc]
    rfl
  rcases held with ea | ⟨dd, fs, ea, ed⟩
  · obtain ⟨o, vs, at_, z, dt⟩ := exz_at I.hok ea
    exact PySem.W.kia_tup (PySem.W.kitx_exc (od := none) cl T.hg T.hk T.hs T.ha T.hn T.ht T.hm) I.kIn ⟨at_, z.1, by unfold PySem.W.notCls; rw [dt], by rw [z.2]; trivial⟩ h1 e (fun z => nomatch z) fun tk => ⟨.bl b, H, I.tok tk, rfl, q⟩
  · obtain ⟨o, vs, at_, z, dt⟩ := exz_at I.hok ea
    obtain ⟨mA, ns, rel2⟩ := (show ObjOk X.prog X.w H s.heap dd (.xd fs) from I.hok _ _ ed)
    obtain ⟨od, ho, hl⟩ := lookIn_ns ns
    exact PySem.W.kia_tup (PySem.W.kitx_exc (od := some od) cl T.hg T.hk T.hs T.ha T.hn T.ht T.hm) I.kIn ⟨at_, z.1, by unfold PySem.W.notCls; rw [dt], by rw [z.2]; exact ho⟩ h1 e (fun z => nomatch z) fun tk => ⟨.bl b, H, I.tok tk, rfl, q⟩
/-- err.f -/
def tEz (K : PySem.W.Frag) (f : Str) (te : TE) : TE := fun σ H Q => te σ H fun x H1 => ∃ (a C dd : Addr) (fs : List (Str × V)) (v : V), x = .ref a ∧ XfC K C ∧ PySem.W.findIn K (.ref C) f = some none ∧ H1 a = some (exz a (.ref C) (some dd)) ∧ H1 dd = some (.xd fs) ∧ fs.lookup f = some v ∧ Q v H1
theorem pe_ez {e : Expr} {te : TE} {pos : Pos} {f : Str} (he : PE X e te) (hb : attributeBase e f X.env (eval e X.env) = eval e X.env := by rfl) : PE X (.Attribute e f pos) (tEz X.K f te) := by
  constructor
  intro pins s σ H Q I want
  refine attr_of hb (thn (he.run pins s σ H _ I want) ?_)
  rintro u s1 ⟨x, H1, I1, rx, a, C, dd, fs, v, rfl, T, no, ea, ed, l, q⟩
  cases (show u = Value.ref a from rx)
  obtain ⟨o, vs, at_, z, dt⟩ := exz_at I1.hok ea
  obtain ⟨mA, ns, rel⟩ := (show ObjOk X.prog X.w H1 s1.heap dd (.xd fs) from I1.hok _ _ ed)
  obtain ⟨od, ho, hl⟩ := lookIn_ns ns
  obtain ⟨u2, hu, ru⟩ := RelO.some_of (v := v) (o := mA f) (by rw [← l]; exact rel f)
  have J : PySem.W.InstAt s1.heap a _ C (some od) := ⟨at_, z.1, by unfold PySem.W.notCls; rw [dt], by rw [z.2]; exact ho⟩
  exact HandSPX.exc_get I1.kIn J T.ga T.gg T.exC (PySem.W.findObj_own T.hdC no rfl (by rw [hl, hu])) (handed_of ru) ⟨v, H1, I1.tok _, ru, q⟩
end
end Ex
/-! raise C(e, ..) where C's __init__ says super().__init__(..): the promise is kept where no repr is under way. -/
namespace Ex
open PySem PySem.Spec PyProof.Rows L2 Gd
section
variable {X : Cx} {CX : CXT} {k : Nat} {fI C : Addr} {fd : FuncData} {ps : List Str} {sp : Sp} {x : Str} {p pos : Pos} {e : Expr} {es : List Expr} {ta tk : TA}
/-- what is wanted of the __init__ of an exception that is to be raised -/
def Raised (sp : Sp) (C : Addr) (vs : List V) (H1 : Hp) (Q : XK) : Prop := ∀ a, H1 a = none → sp (.ref a :: vs) (upd H1 a (exo a C none))
  (fun v H2 => v = .non ∧ ∃ (d : Addr) (fs : List (Str × V)), H2 a = some (exo a C (some d)) ∧ H2 d = some (exd d fs) ∧ H1 d = none ∧ Q (.ref C) (some d) (upd (del H2 a) d (.xd fs))) fun _ _ _ => False
theorem run_mkE {pins : List (Addr × Obj)} {σ : L2.St} {H : Hp} {s : Shared} {Q : XK} {us gs : List Value} {kw : List (Str × Value)} {vs : List V} (O : Own X.K C fI) (Fn : FnG X.prog X.w X.K X.mg X.base CX k fI fd ps sp) (room : Room (k + 1) X.A) (gd : X.A.guards = some [])
    (pass : Passes CX X fun _ _ _ => False) (bind : ∀ (s : Shared) (self : Value), X.K.In s.heap → BindsTo s fd ⟨self :: us, kw⟩ (ps.zip (self :: gs))) (I : Inv X pins σ H s) (rel : Vals vs gs) (few : us.length ≤ sizeLine) (want : Raised sp C vs H Q) :
    wpAny (model X.prog X.w) X.A (call (.ref C) us kw) (MkP X pins σ Q) X.xe s := by
  obtain ⟨nm, qn, N, bs, bm, sn, sub, ab, col, dd, k0, k1, k2, k3, k5, at_, ve⟩ := O.oex.cls
  obtain ⟨hp, g, dr, tk, os⟩ := s
  have le : hp.objs.size ≤ hp.objs.size + 1 := Nat.le_succ _
  have fresh : H (hp.objs.size + 1) = none := I.hok.fresh le
  have q := want (hp.objs.size + 1) fresh
  have kept : ∀ b o, hp.get? b = some o → ((hp.push (PySem.W.kdv_tup us)).push (PySem.HandSPX.excO C hp.objs.size)).get? b = some o := fun b o e => Heap.get?_push_of_some _ (Heap.get?_push_of_some _ e)
  have new : ((hp.push (PySem.W.kdv_tup us)).push (PySem.HandSPX.excO C hp.objs.size)).get? (hp.objs.size + 1) = some (PySem.HandSPX.excO C hp.objs.size) := by heap_get
  have I2 : Inv X pins σ (upd H (hp.objs.size + 1) (exo (hp.objs.size + 1) C none)) ⟨(hp.push (PySem.W.kdv_tup us)).push (PySem.HandSPX.excO C hp.objs.size), g, dr, tk, os⟩ :=
    I.laid (t' := tk) (o := exo (hp.objs.size + 1) C none) kept le (exo_ok new)
  refine wpAny_call (classCalled (fun Y => PySem.HandSPX.refsVE_contains Y bm ve) (I.kIn _ _ at_) (PySem.W.looks_findIn I.kIn O.ini) (fun self => PySem.W.bind_fn I.kIn self O.fn) few ?_)
  refine codeAny_mono (Fn.go _ (room.make C us kw) ?_ X.stack _ _ _ (.ref (hp.objs.size + 1) :: gs) _ _ (fun _ _ _ => False) (I2.env0.make C us kw) (bind _ _ I2.kIn) (.cons (show RelV (V.ref (hp.objs.size + 1)) (.ref (hp.objs.size + 1)) from rfl) rel) q) fun r s' got => ?_
  · rw [PySem.Around.under, gd]
    rfl
  · rcases r with er | fl
    · exact pass pins σ _ _ er s' I2 got
    · cases fl with
      | next => exact False.elim got
      | brk => exact False.elim got
      | cont => exact False.elim got
      | ret u =>
        obtain ⟨v, H2, os2, bare2, un2, hok2, rv, ev, d, fs, ea, ed, hd1, q2⟩ := got
        subst ev
        obtain ⟨h2, g2, d2, t2, os'⟩ := s'
        exact ⟨rv, mk_end (raises_own O.oex.exC O.oex.tyC) I le kept un2 hok2 os2 bare2 ea ed hd1 q2⟩
/-- C(e, ..) to be raised -/
def tMkE (C : Addr) (sp : Sp) (ta : TA) : L2.St → Hp → XK → Prop := fun σ H Q => ta σ H fun vs H1 => vs.length ≤ 1000 ∧ Raised sp C vs H1 Q
theorem pmk_newE (O : Own X.K C fI) (kC : PySem.W.keepIn X.K (.ref C) = true) (Fn : FnG X.prog X.w X.K X.mg X.base CX k fI fd ps sp) (room : Room (k + 1) X.A) (gd : X.A.guards = some []) (pass : Passes CX X fun _ _ _ => False)
    (isGl : Gl X x) (at_ : X.mg x = some (.ref C)) (bind : ∀ (s : Shared) (self : Value) (us : List Value), us.length + 1 = ps.length → X.K.In s.heap → BindsTo s fd ⟨self :: us, []⟩ (ps.zip (self :: us))) (args : PA X (e :: es) ta)
    (nodbg : (x == ("__debug__" : Str)) = false := by decide) (star : starEach (e :: es) X.env = (false, eval e X.env) :: starEach es X.env := by rfl) (plain : (backTo pos (starEach es X.env)).any (·.1) = false := by rfl) :
    PMk X (.Call (.Name x p) (e :: es) [] pos) (tMkE C sp ta) := by
  intro pins s σ H Q I want
  refine wpAny_Call_Name_kw (ld_glob I isGl at_ ?_ nodbg)
  refine PySem.W.callWith_K (h₀ := X.base) I.ok.mod.kin kC (thn (args.run pos pins s σ H _ I want) ?_) star plain
  rintro us s1 ⟨vs, H1, I1, rel, few, q⟩
  refine ⟨I1.kIn, run_mkE O Fn room gd pass (fun s self inK => bind s self us ?_ inK) I1 rel (few_of rel few) q⟩
  have n := Fn.arity _ _ _ _ (q (s1.heap.objs.size) (I1.hok.fresh (Nat.le_refl _)))
  rw [← n, List.length_cons, Paired.length rel]
end
end Ex
/-! an error with a value: any value that can be shown -/
namespace Sn
open PySem PySem.Spec PyProof.Rows L2 Evl Gd Ex
structure Shw (e : PyData) : Prop where
  sh : e.showable = true
  dp : e.depth ≤ 40
  ln : e.shown.length ≤ 10000000
theorem repA_of {K : PySem.W.Frag} {d : Addr → Prop} {x : V} {e : PyData} {H : Hp} {Q : VK} (h : Av K d H x e) (s : Shw e) (q : Q (.str e.shown) H) : rReprA K [x] H Q :=
  ⟨d, x, e, rfl, h, s.sh, s.dp, Nat.le_trans s.ln (by rw [sizeLine_eq]; decide), q⟩
section
variable {X : Cx}
/-- {x!r} -/
def tFmtA (K : PySem.W.Frag) (te : TE) : TE := fun σ H Q => te σ H fun x H1 => ∃ d e, Av K d H1 x e ∧ Shw e ∧ Q (.str e.shown) H1
theorem pe_fmtA {e : Expr} {te : TE} {pos : Pos} (gd : X.A.guards = some []) (un : X.A.units + 64 < cLine) (he : PE X e te) : PE X (.FormattedValue e 114 none pos) (tFmtA X.K te) := by
  constructor
  intro pins s σ H Q I want
  refine wpAny_FormattedValue_repr (thn (he.run pins s σ H _ I want) ?_)
  rintro u s1 ⟨x, H1, I1, rv, d, e, hd, ⟨sh, dep, sz'⟩, q⟩
  have sz : e.shown.length ≤ sizeLine := by rw [sizeLine_eq]; omega
  obtain ⟨as, reads, nsys⟩ := Av.reads I1 hd rv
  have big : ∀ {a : Addr}, u = .ref a → wpAny (model X.prog X.w) X.A (pyReprObj u) (fun v s2 => wpAny (model X.prog X.w) X.A (formatField v Str.empty) (EP X pins σ Q) X.xe s2) X.xe s1 := fun e => by
    subst e
    exact pyReprObj_of_reads reads sh (fun _ => nsys) gd (by omega) (fun _ _ e => e) (fun h2 u2 tk keep => wpAny_formatField_str ⟨.str _, H1, I1.kept keep, ⟨_, rfl⟩, q⟩ ⟨.str _, H1, I1.kept keep, ⟨_, rfl⟩, q⟩ sz) sz
  cases hd with
  | non =>
    cases rv
    exact pyReprObj_none (wpAny_formatField_str ⟨.str "None", H1, I1.tok _, ⟨_, rfl⟩, q⟩ ⟨.str "None", H1, I1.tok _, ⟨_, rfl⟩, q⟩ sz)
  | bl b =>
    cases rv
    exact pyReprObj_bool (wpAny_formatField_str ⟨.str (if b then "True" else "False"), H1, I1.tok _, ⟨_, rfl⟩, q⟩ ⟨.str (if b then "True" else "False"), H1, I1.tok _, ⟨_, rfl⟩, q⟩ sz)
  | int i =>
    obtain ⟨t, rfl⟩ := rv
    exact pyReprObj_int (by simpa [PyData.showable] using sh) (wpAny_formatField_str ⟨.str _, H1, I1.tok _, ⟨_, rfl⟩, q⟩ ⟨.str _, H1, I1.tok _, ⟨_, rfl⟩, q⟩ sz)
  | str z =>
    obtain ⟨t, rfl⟩ := rv
    exact pyReprObj_str (wpAny_formatField_str ⟨.str _, H1, I1.tok _, ⟨_, rfl⟩, q⟩ ⟨.str _, H1, I1.tok _, ⟨_, rfl⟩, q⟩ sz) sz
  | lst _ _ _ _ => exact big rv
  | tup _ _ _ => exact big rv
  | dnil _ _ => exact big rv
  | done _ _ _ => exact big rv
end
/-- C(x): x is kept under f -/
def spInitA (K : PySem.W.Frag) (C : Addr) (f : Str) : Sp := fun vs H Q _ => ∃ (a : Addr) (d : Addr → Prop) (x : V) (e : PyData), vs = [.ref a, x] ∧ H a = some (exo a C none) ∧ Av K d H x e ∧ Shw e ∧
  ∀ dx, H dx = none → dx ≠ a → Q .non (upd (upd H dx (exd dx [(f, x)])) a (exo a C (some dx)))
end Sn
namespace Sn
open PySem PySem.Spec PyProof.Rows L2
/-! ### nets: roots and rows; what the worklist of `met` does -/
structure Row where
  n : Int
  sort : Str
  parts : List Part
structure NetM where
  roots : List (Str × Int)
  rows : List Row
def pairOf : Part → Option (Int × Int)
  | .pair k (some v) => some (k, v)
  | _ => none
def pairsOf (r : Row) : List (Int × Int) := r.parts.filterMap pairOf
def slotA (n : Int) (p : Int × Int) : Arc := ⟨[.inr "slot", .inl n, .inl p.1], [n], p.2⟩
def entryA (n : Int) (p : Int × Int) : Arc := ⟨[.inr "entry", .inl n, .inl p.1], [n, p.1], p.2⟩
def rowArcs (r : Row) : List Arc := if r.sort = "record" then (pairsOf r).map (slotA r.n) else if r.sort = "map" then (pairsOf r).map (entryA r.n) else []
def netArcs (N : NetM) : List Arc := N.roots.map rootArc ++ N.rows.flatMap rowArcs
def isVal : Part → Bool
  | .pair _ none => false
  | _ => true
def rowOf (t : Thing) : Row := ⟨t.n, t.sort, if t.sort = "map" then t.parts.filter isVal else t.parts⟩
def netM (s : Shot) : NetM := ⟨s.roots, s.things.map rowOf⟩
theorem slot_pair (n : Int) (p : Part) : slotArc n p = (pairOf p).map (slotA n) := by
  cases p with
  | tgt m => rfl
  | pair k v => cases v <;> rfl
theorem entry_pair (n : Int) (p : Part) : entryArc n p = (pairOf p).map (entryA n) := by
  cases p with
  | tgt m => rfl
  | pair k v => cases v <;> rfl
theorem filterMap_map' {α β γ : Type} (f : α → Option β) (g : β → γ) (l : List α) : l.filterMap (fun x => (f x).map g) = (l.filterMap f).map g := by
  induction l with
  | nil => rfl
  | cons x l ih =>
    cases e : f x with
    | none => rw [List.filterMap_cons_none (by rw [e]; rfl), List.filterMap_cons_none e, ih]
    | some y => rw [List.filterMap_cons_some (b := g y) (by rw [e]; rfl), List.filterMap_cons_some e, List.map_cons, ih]
theorem vals_same : ∀ l : List Part, (l.filter isVal).filterMap pairOf = l.filterMap pairOf
  | [] => rfl
  | p :: l => by
    have ih := vals_same l
    cases p with
    | tgt m => rw [List.filter_cons_of_pos rfl, List.filterMap_cons_none rfl, List.filterMap_cons_none rfl, ih]
    | pair k v =>
      cases v with
      | none => rw [List.filter_cons_of_neg (show ¬ (isVal (Part.pair k none) = true) from Bool.false_ne_true), List.filterMap_cons_none rfl, ih]
      | some v => rw [List.filter_cons_of_pos rfl, List.filterMap_cons_some (f := pairOf) (b := (k, v)) rfl, List.filterMap_cons_some (f := pairOf) (b := (k, v)) rfl, ih]
theorem row_arcs (t : Thing) : rowArcs (rowOf t) = thingArcs t := by
  unfold rowArcs thingArcs pairsOf rowOf
  dsimp only
  by_cases h1 : t.sort = "record"
  · rw [if_pos h1, if_pos h1, if_neg (by rw [h1]; decide +kernel), ← filterMap_map']
    exact (congrArg (fun f => List.filterMap f t.parts) (funext fun p => slot_pair t.n p)).symm
  · rw [if_neg h1, if_neg h1]
    by_cases h2 : t.sort = "map"
    · rw [if_pos h2, if_pos h2, if_pos h2, vals_same, ← filterMap_map']
      exact (congrArg (fun f => List.filterMap f t.parts) (funext fun p => entry_pair t.n p)).symm
    · rw [if_neg h2, if_neg h2]
theorem net_arcs (s : Shot) : netArcs (netM s) = arcsOf s := by
  unfold netArcs netM arcsOf
  dsimp only
  rw [List.flatMap_map]
  exact congrArg (fun f => s.roots.map rootArc ++ s.things.flatMap f) (funext row_arcs)
/-- records and maps have pairs with objects -/
def OkRow (r : Row) : Prop := (r.sort = "record" ∧ ∃ ps : List (Int × Int), r.parts = ps.map fun p => .pair p.1 (some p.2)) ∨ (r.sort = "map" ∧ ∃ ps : List (Int × Int), r.parts = ps.map fun p => .pair p.1 (some p.2)) ∨ r.sort = "weak"
theorem pairs_of {r : Row} {ps : List (Int × Int)} (h : r.parts = ps.map fun p => .pair p.1 (some p.2)) : pairsOf r = ps := by
  unfold pairsOf
  rw [h]
  clear h
  induction ps with
  | nil => rfl
  | cons p ps ih => rw [List.map_cons, List.filterMap_cons_some (f := pairOf) (b := p) rfl, ih]
structure OkNet (N : NetM) : Prop where
  rows : ∀ r ∈ N.rows, OkRow r
  nodup : (N.rows.map Row.n).Nodup
  there : ∀ α ∈ netArcs N, α.tgt ∈ N.rows.map Row.n
  many : (netArcs N).length ≤ 1000
  len : N.rows.length ≤ 1000
theorem row_uniq {rs : List Row} (h : (rs.map Row.n).Nodup) {r r' : Row} (m : r ∈ rs) (m' : r' ∈ rs) (e : r.n = r'.n) : r = r' := by
  induction rs with
  | nil => exact absurd m List.not_mem_nil
  | cons x rs ih =>
    rw [List.map_cons] at h
    have hn := List.nodup_cons.mp h
    rcases List.mem_cons.mp m with rfl | m
    · rcases List.mem_cons.mp m' with rfl | m'
      · rfl
      · exact absurd (List.mem_map.mpr ⟨r', m', e.symm⟩) hn.1
    · rcases List.mem_cons.mp m' with q | m'
      · rw [q] at e
        exact absurd (List.mem_map.mpr ⟨r, m, e⟩) hn.1
      · exact ih hn.2 m m'
/-- what waits: values by their keys, in their order -/
def wOf (ps : List (Int × Int)) (n : Int) : List Int := (ps.filter fun p => decide (p.1 = n)).map (·.2)
theorem wOf_snoc (ps : List (Int × Int)) (s n v : Int) : wOf (ps ++ [(s, v)]) n = wOf ps n ++ (if s = n then [v] else []) := by
  unfold wOf
  rw [List.filter_append, List.map_append]
  by_cases h : s = n
  · rw [if_pos h, List.filter_cons_of_pos (p := fun p : Int × Int => decide (p.1 = n)) (decide_eq_true h)]
    rfl
  · rw [if_neg h, List.filter_cons_of_neg (p := fun p : Int × Int => decide (p.1 = n)) (by simpa using h)]
    rfl
theorem wOf_mem {ps : List (Int × Int)} {n v : Int} : v ∈ wOf ps n ↔ (n, v) ∈ ps := by
  unfold wOf
  constructor
  · intro h
    obtain ⟨p, hp, rfl⟩ := List.mem_map.mp h
    have := List.mem_filter.mp hp
    have e : p.1 = n := of_decide_eq_true this.2
    rw [← e]
    exact this.1
  · intro h
    exact List.mem_map.mpr ⟨(n, v), List.mem_filter.mpr ⟨h, decide_eq_true rfl⟩, rfl⟩
theorem wOf_len (ps : List (Int × Int)) (n : Int) : (wOf ps n).length ≤ ps.length := by
  unfold wOf
  rw [List.length_map]
  exact List.length_filter_le _ _
/-- what stands in the rows that are not met -/
def wsum (w : Row → Nat) (rs : List Row) (met : List Int) : Nat := ((rs.filter fun r => decide (r.n ∉ met)).map w).sum
theorem wsum_le (w : Row → Nat) (rs : List Row) (met : List Int) (n : Int) : wsum w rs (met ++ [n]) ≤ wsum w rs met := by
  unfold wsum
  induction rs with
  | nil => exact Nat.le_refl _
  | cons r rs ih =>
    by_cases m : r.n ∈ met
    · rw [List.filter_cons_of_neg (by simp [m]), List.filter_cons_of_neg (by simp [m])]
      exact ih
    · by_cases e : r.n = n
      · rw [List.filter_cons_of_neg (by simp [e]), List.filter_cons_of_pos (by simp [m]), List.map_cons, List.sum_cons]
        omega
      · rw [List.filter_cons_of_pos (by simp [m, e]), List.filter_cons_of_pos (by simp [m]), List.map_cons, List.map_cons, List.sum_cons, List.sum_cons]
        omega
theorem wsum_less (w : Row → Nat) {rs : List Row} {met : List Int} {r : Row} (hr : r ∈ rs) (h : r.n ∉ met) : wsum w rs (met ++ [r.n]) + w r ≤ wsum w rs met := by
  obtain ⟨a, b, rfl⟩ := List.append_of_mem hr
  have h1 := wsum_le w a met r.n
  have h2 := wsum_le w b met r.n
  unfold wsum at *
  rw [List.filter_append, List.filter_append, List.map_append, List.map_append, List.sum_append, List.sum_append, List.filter_cons_of_neg (by simp), List.filter_cons_of_pos (by simp [h]), List.map_cons, List.sum_cons]
  omega
theorem wsum_nil (w : Row → Nat) (rs : List Row) : wsum w rs [] = (rs.map w).sum := by
  unfold wsum
  rw [List.filter_eq_self.mpr (fun r _ => by simp)]
theorem wsum_one_nil (rs : List Row) : wsum (fun _ => 1) rs [] = rs.length := by
  rw [wsum_nil]
  induction rs with
  | nil => rfl
  | cons r rs ih =>
    rw [List.map_cons, List.sum_cons, ih, List.length_cons]
    omega
def adds (r : Row) (met : List Int) : List Int := if r.sort = "record" then (pairsOf r).map (·.2) else if r.sort = "map" then ((pairsOf r).filter fun p => decide (p.1 ∈ met)).map (·.2) else []
def waits (r : Row) (met : List Int) : List (Int × Int) := if r.sort = "map" then (pairsOf r).filter fun p => decide (p.1 ∉ met) else []
theorem filt_both {α : Type} (l : List α) (p : α → Prop) [DecidablePred p] : (l.filter fun x => decide (p x)).length + (l.filter fun x => decide (¬ p x)).length = l.length := by
  induction l with
  | nil => rfl
  | cons x l ih =>
    by_cases h : p x
    · rw [List.filter_cons_of_pos (by simpa using h), List.filter_cons_of_neg (by simpa using h), List.length_cons, List.length_cons]
      omega
    · rw [List.filter_cons_of_neg (by simpa using h), List.filter_cons_of_pos (by simpa using h), List.length_cons, List.length_cons]
      omega
theorem adds_waits (r : Row) (met : List Int) : (adds r met).length + (waits r met).length = (rowArcs r).length := by
  unfold adds waits rowArcs
  by_cases h1 : r.sort = "record"
  · rw [if_pos h1, if_pos h1, if_neg (by rw [h1]; decide +kernel), List.length_map, List.length_map]
    rfl
  · rw [if_neg h1, if_neg h1]
    by_cases h2 : r.sort = "map"
    · rw [if_pos h2, if_pos h2, if_pos h2, List.length_map, List.length_map]
      exact filt_both (pairsOf r) fun p => p.1 ∈ met
    · rw [if_neg h2, if_neg h2, if_neg h2]
      rfl
/-- the state of the worklist: met, ahead, waiting -/
structure WlInv (N : NetM) (B met ys : List Int) (ps : List (Int × Int)) (m : Nat) : Prop where
  live : ∀ n ∈ met, Live ((netArcs N).filter fun α => decide (α.tgt ∉ B)) n
  nodup : met.Nodup
  can : ∀ y ∈ ys, ∃ α ∈ netArcs N, α.tgt = y ∧ ∀ s ∈ α.src, s ∈ met
  wai : ∀ p ∈ ps, ∃ α ∈ netArcs N, α.tgt = p.2 ∧ ∀ s ∈ α.src, s ∈ met ∨ s = p.1
  all : ∀ α ∈ netArcs N, (∀ s ∈ α.src, s ∈ met) → α.tgt ∈ met ∨ α.tgt ∈ ys ∨ α.tgt ∈ B
  wal : ∀ r ∈ N.rows, r.sort = "map" → r.n ∈ met → ∀ p ∈ pairsOf r, p.1 ∉ met → p ∈ ps
  many : met.length + wsum (fun _ => 1) N.rows met ≤ 1000
  me : m = ys.length + wsum (fun r => (rowArcs r).length) N.rows met + (ps.filter fun p => decide (p.1 ∉ met)).length
  le : m ≤ 1000
  pl : ps.length + wsum (fun r => (rowArcs r).length) N.rows met ≤ 1000
theorem arc_cases {N : NetM} {α : Arc} (h : α ∈ netArcs N) : (∃ r ∈ N.roots, α = rootArc r) ∨ (∃ r ∈ N.rows, r.sort = "record" ∧ ∃ p ∈ pairsOf r, α = slotA r.n p) ∨ (∃ r ∈ N.rows, r.sort = "map" ∧ ∃ p ∈ pairsOf r, α = entryA r.n p) := by
  rcases List.mem_append.mp h with h | h
  · obtain ⟨r, hr, rfl⟩ := List.mem_map.mp h
    exact .inl ⟨r, hr, rfl⟩
  · obtain ⟨r, hr, h⟩ := List.mem_flatMap.mp h
    unfold rowArcs at h
    by_cases h1 : r.sort = "record"
    · rw [if_pos h1] at h
      obtain ⟨p, hp, rfl⟩ := List.mem_map.mp h
      exact .inr (.inl ⟨r, hr, h1, p, hp, rfl⟩)
    · rw [if_neg h1] at h
      by_cases h2 : r.sort = "map"
      · rw [if_pos h2] at h
        obtain ⟨p, hp, rfl⟩ := List.mem_map.mp h
        exact .inr (.inr ⟨r, hr, h2, p, hp, rfl⟩)
      · rw [if_neg h2] at h
        exact absurd h List.not_mem_nil
theorem slot_in {N : NetM} {r : Row} (hr : r ∈ N.rows) (h : r.sort = "record") {p : Int × Int} (hp : p ∈ pairsOf r) : slotA r.n p ∈ netArcs N := by
  refine List.mem_append.mpr (.inr (List.mem_flatMap.mpr ⟨r, hr, ?_⟩))
  unfold rowArcs
  rw [if_pos h]
  exact List.mem_map.mpr ⟨p, hp, rfl⟩
theorem entry_in {N : NetM} {r : Row} (hr : r ∈ N.rows) (h : r.sort = "map") {p : Int × Int} (hp : p ∈ pairsOf r) : entryA r.n p ∈ netArcs N := by
  refine List.mem_append.mpr (.inr (List.mem_flatMap.mpr ⟨r, hr, ?_⟩))
  unfold rowArcs
  rw [if_neg (by rw [h]; decide +kernel), if_pos h]
  exact List.mem_map.mpr ⟨p, hp, rfl⟩
theorem WlInv.start {N : NetM} {B : List Int} (ok : OkNet N) : ∃ m, WlInv N B [] (N.roots.map (·.2)) [] m := by
  have h0 : (netArcs N).length = N.roots.length + (N.rows.map fun r => (rowArcs r).length).sum := by
    unfold netArcs
    rw [List.length_append, List.length_map, List.length_flatMap]
  have h1 := ok.many
  refine ⟨_, ⟨fun n h => absurd h List.not_mem_nil, List.nodup_nil, fun y hy => ?_, fun p h => absurd h List.not_mem_nil, fun α ha hs => ?_, fun r _ _ h => absurd h List.not_mem_nil, ?_, rfl, ?_, ?_⟩⟩
  · obtain ⟨r, hr, rfl⟩ := List.mem_map.mp hy
    exact ⟨rootArc r, List.mem_append.mpr (.inl (List.mem_map.mpr ⟨r, hr, rfl⟩)), rfl, fun s h => absurd h List.not_mem_nil⟩
  · rcases arc_cases ha with ⟨r, hr, rfl⟩ | ⟨r, hr, _, p, hp, rfl⟩ | ⟨r, hr, _, p, hp, rfl⟩
    · exact .inr (.inl (List.mem_map.mpr ⟨r, hr, rfl⟩))
    · exact absurd (hs r.n List.mem_cons_self) List.not_mem_nil
    · exact absurd (hs r.n List.mem_cons_self) List.not_mem_nil
  · rw [wsum_one_nil, List.length_nil]
    have := ok.len
    omega
  · rw [wsum_nil, List.length_map, List.filter_nil, List.length_nil]
    omega
  · rw [wsum_nil, List.length_nil]
    omega
/-- popped, but met or barred -/
theorem WlInv.skip {N : NetM} {B met zs : List Int} {n : Int} {ps : List (Int × Int)} {m : Nat} (h : WlInv N B met (zs ++ [n]) ps m) (hn : n ∈ met ∨ n ∈ B) : ∃ m', m' < m ∧ WlInv N B met zs ps m' := by
  have e := h.me
  rw [List.length_append, List.length_singleton] at e
  have l := h.le
  refine ⟨_, ?_, ⟨h.live, h.nodup, fun y hy => h.can y (List.mem_append.mpr (.inl hy)), h.wai, fun α ha hs => ?_, h.wal, h.many, rfl, by omega, h.pl⟩⟩
  · omega
  · rcases h.all α ha hs with z | z | z
    · exact .inl z
    · rcases List.mem_append.mp z with z | z
      · exact .inr (.inl z)
      · rw [List.mem_singleton.mp z]
        rcases hn with q | q
        · exact .inl q
        · exact .inr (.inr q)
    · exact .inr (.inr z)
theorem filt_split (ps : List (Int × Int)) {met : List Int} {n : Int} (hn : n ∉ met) : (ps.filter fun p => decide (p.1 ∉ met)).length = (ps.filter fun p => decide (p.1 ∉ met ++ [n])).length + (wOf ps n).length := by
  unfold wOf
  rw [List.length_map]
  induction ps with
  | nil => rfl
  | cons p ps ih =>
    by_cases e : p.1 = n
    · rw [List.filter_cons_of_pos (by simp [e, hn]), List.filter_cons_of_neg (by simp [e]), List.filter_cons_of_pos (by simp [e]), List.length_cons, List.length_cons]
      omega
    · by_cases m : p.1 ∈ met
      · rw [List.filter_cons_of_neg (by simp [m]), List.filter_cons_of_neg (by simp [m]), List.filter_cons_of_neg (by simp [e])]
        exact ih
      · rw [List.filter_cons_of_pos (by simp [m]), List.filter_cons_of_pos (by simp [m, e]), List.filter_cons_of_neg (by simp [e]), List.length_cons, List.length_cons]
        omega
theorem waits_key {r : Row} {met : List Int} {p : Int × Int} (h : p ∈ waits r met) : r.sort = "map" ∧ p ∈ pairsOf r ∧ p.1 ∉ met := by
  unfold waits at h
  by_cases h2 : r.sort = "map"
  · rw [if_pos h2] at h
    have := List.mem_filter.mp h
    exact ⟨h2, this.1, of_decide_eq_true this.2⟩
  · rw [if_neg h2] at h
    exact absurd h List.not_mem_nil
/-- a new object is met -/
theorem WlInv.step {N : NetM} {B met zs : List Int} {r : Row} {ps : List (Int × Int)} {m : Nat} (ok : OkNet N) (h : WlInv N B met (zs ++ [r.n]) ps m) (hr : r ∈ N.rows) (hm : r.n ∉ met) (hB : r.n ∉ B) :
    ∃ m', m' < m ∧ WlInv N B (met ++ [r.n]) (zs ++ adds r (met ++ [r.n]) ++ wOf (ps ++ waits r (met ++ [r.n])) r.n) (ps ++ waits r (met ++ [r.n])) m' := by
  have e := h.me
  rw [List.length_append, List.length_singleton] at e
  have l := h.le
  have hpl := h.pl
  have w1 := wsum_less (fun _ => 1) hr hm
  have w2 := wsum_less (fun r => (rowArcs r).length) hr hm
  have aw := adds_waits r (met ++ [r.n])
  have fs := filt_split ps hm
  have many := h.many
  have sub : ∀ {s}, s ∈ met → s ∈ met ++ [r.n] := fun q => List.mem_append.mpr (.inl q)
  have self : r.n ∈ met ++ [r.n] := List.mem_append.mpr (.inr List.mem_cons_self)
  have wn : wOf (ps ++ waits r (met ++ [r.n])) r.n = wOf ps r.n := by
    unfold wOf
    rw [List.filter_append, List.filter_eq_nil_iff (l := waits r _) |>.mpr (fun p hp q => ?_), List.append_nil]
    have := (waits_key hp).2.2
    rw [of_decide_eq_true q] at this
    exact this self
  have fw : ((ps ++ waits r (met ++ [r.n])).filter fun p => decide (p.1 ∉ met ++ [r.n])).length = (ps.filter fun p => decide (p.1 ∉ met ++ [r.n])).length + (waits r (met ++ [r.n])).length := by
    rw [List.filter_append, List.length_append, List.filter_eq_self (l := waits r _) |>.mpr (fun p hp => decide_eq_true (waits_key hp).2.2)]
  rw [wn]
  refine ⟨_, ?_, ⟨fun n hn => ?_, ?_, fun y hy => ?_, fun p hp => ?_, fun α ha hs => ?_, fun r' hr' hs hn p hp hk => ?_, ?_, rfl, ?_, ?_⟩⟩
  · rw [fw, List.length_append, List.length_append]
    try dsimp only at w2
    omega
  · rcases List.mem_append.mp hn with z | z
    · exact h.live n z
    · rw [List.mem_singleton.mp z]
      obtain ⟨α, ha, ht, hs⟩ := h.can r.n (List.mem_append.mpr (.inr List.mem_cons_self))
      rw [← ht]
      exact .mk (List.mem_filter.mpr ⟨ha, decide_eq_true (by rw [ht]; exact hB)⟩) fun s q => h.live s (hs s q)
  · rw [List.nodup_append]
    refine ⟨h.nodup, by simp, fun a ha b hb q => ?_⟩
    rw [List.mem_singleton.mp hb] at q
    rw [q] at ha
    exact hm ha
  · rcases List.mem_append.mp hy with z | z
    · rcases List.mem_append.mp z with z | z
      · obtain ⟨α, ha, ht, hs⟩ := h.can y (List.mem_append.mpr (.inl z))
        exact ⟨α, ha, ht, fun s q => sub (hs s q)⟩
      · unfold adds at z
        by_cases h1 : r.sort = "record"
        · rw [if_pos h1] at z
          obtain ⟨p, hp, rfl⟩ := List.mem_map.mp z
          refine ⟨_, slot_in hr h1 hp, rfl, fun s q => ?_⟩
          rw [List.mem_singleton.mp q]
          exact self
        · rw [if_neg h1] at z
          by_cases h2 : r.sort = "map"
          · rw [if_pos h2] at z
            obtain ⟨p, hp, rfl⟩ := List.mem_map.mp z
            have hp2 := List.mem_filter.mp hp
            refine ⟨_, entry_in hr h2 hp2.1, rfl, fun s q => ?_⟩
            rcases List.mem_cons.mp q with rfl | q
            · exact self
            · rw [List.mem_singleton.mp q]
              exact of_decide_eq_true hp2.2
          · rw [if_neg h2] at z
            exact absurd z List.not_mem_nil
    · obtain ⟨α, ha, ht, hs⟩ := h.wai _ (wOf_mem.mp z)
      refine ⟨α, ha, ht, fun s q => ?_⟩
      rcases hs s q with q | q
      · exact sub q
      · rw [q]
        exact self
  · rcases List.mem_append.mp hp with z | z
    · obtain ⟨α, ha, ht, hs⟩ := h.wai p z
      exact ⟨α, ha, ht, fun s q => (hs s q).imp sub id⟩
    · obtain ⟨h2, hp2, _⟩ := waits_key z
      refine ⟨_, entry_in hr h2 hp2, rfl, fun s q => ?_⟩
      rcases List.mem_cons.mp q with rfl | q
      · exact .inl self
      · exact .inr (List.mem_singleton.mp q)
  · have old : (∀ s ∈ α.src, s ∈ met) → α.tgt ∈ met ++ [r.n] ∨ α.tgt ∈ zs ++ adds r (met ++ [r.n]) ++ wOf ps r.n ∨ α.tgt ∈ B := fun q => by
      rcases h.all α ha q with z | z | z
      · exact .inl (sub z)
      · rcases List.mem_append.mp z with z | z
        · exact .inr (.inl (List.mem_append.mpr (.inl (List.mem_append.mpr (.inl z)))))
        · exact .inl (List.mem_append.mpr (.inr z))
      · exact .inr (.inr z)
    have inA : ∀ {v}, v ∈ adds r (met ++ [r.n]) → v ∈ zs ++ adds r (met ++ [r.n]) ++ wOf ps r.n := fun q => List.mem_append.mpr (.inl (List.mem_append.mpr (.inr q)))
    rcases arc_cases ha with ⟨r', hr', rfl⟩ | ⟨r', hr', h1, p, hp, rfl⟩ | ⟨r', hr', h2, p, hp, rfl⟩
    · exact old fun s q => absurd q List.not_mem_nil
    · rcases List.mem_append.mp (hs r'.n List.mem_cons_self) with z | z
      · exact old fun s q => by
          rw [List.mem_singleton.mp q]
          exact z
      · have er := row_uniq ok.nodup hr' hr (List.mem_singleton.mp z)
        subst er
        refine .inr (.inl (inA ?_))
        unfold adds
        rw [if_pos h1]
        exact List.mem_map.mpr ⟨p, hp, rfl⟩
    · have hk := hs p.1 (List.mem_cons_of_mem _ List.mem_cons_self)
      rcases List.mem_append.mp (hs r'.n List.mem_cons_self) with z | z
      · rcases List.mem_append.mp hk with k | k
        · exact old fun s q => by
            rcases List.mem_cons.mp q with rfl | q
            · exact z
            · rw [List.mem_singleton.mp q]
              exact k
        · have k' := List.mem_singleton.mp k
          have hps := h.wal r' hr' h2 z p hp (by rw [k']; exact hm)
          refine .inr (.inl (List.mem_append.mpr (.inr (wOf_mem.mpr ?_))))
          rw [← k']
          exact hps
      · have er := row_uniq ok.nodup hr' hr (List.mem_singleton.mp z)
        subst er
        refine .inr (.inl (inA ?_))
        unfold adds
        rw [if_neg (by rw [h2]; decide +kernel), if_pos h2]
        exact List.mem_map.mpr ⟨p, List.mem_filter.mpr ⟨hp, decide_eq_true hk⟩, rfl⟩
  · rcases List.mem_append.mp hn with z | z
    · exact List.mem_append.mpr (.inl (h.wal r' hr' hs z p hp fun q => hk (sub q)))
    · have er := row_uniq ok.nodup hr' hr (List.mem_singleton.mp z)
      subst er
      refine List.mem_append.mpr (.inr ?_)
      unfold waits
      rw [if_pos hs]
      exact List.mem_filter.mpr ⟨hp, decide_eq_true hk⟩
  · rw [List.length_append, List.length_singleton]
    omega
  · rw [fw, List.length_append, List.length_append]
    try dsimp only at w2
    omega
  · rw [List.length_append]
    try dsimp only at w2
    omega
/-- when nothing is ahead any more -/
theorem WlInv.done {N : NetM} {B met : List Int} {ps : List (Int × Int)} {m : Nat} (h : WlInv N B met [] ps m) : ∀ n, n ∈ met ↔ Live ((netArcs N).filter fun α => decide (α.tgt ∉ B)) n := by
  intro n
  refine ⟨h.live n, fun l => ?_⟩
  refine Live.sub (S := fun n => n ∈ met) (fun α ha hs => ?_) l
  have ha2 := List.mem_filter.mp ha
  rcases h.all α ha2.1 hs with z | z | z
  · exact z
  · exact absurd z List.not_mem_nil
  · exact absurd z (of_decide_eq_true ha2.2)
end Sn
namespace Gd
open PySem PySem.Spec PyProof.Rows L2 SrtO
/-! sorted of tuples of keys, of any length. -/
/-- where they first differ, both are ints or both are texts -/
def Ali : List Key → List Key → Prop
  | a :: r, b :: s => (a = b → Ali r s) ∧ (a ≠ b → a.isLeft = b.isLeft)
  | _, _ => True
def IsKs (h : Heap) (v : Value) (ks : List Key) : Prop := ∃ a o us n, v = .ref a ∧ h.get? a = some o ∧ o.cls = .type "tuple" ∧ o.data = .seq us n ∧ Vals (ks.map kV) us.toList
theorem IsKs.keeps {h h' : Heap} {v : Value} {ks : List Key} (p : IsKs h v ks) (k : ∀ b o, h.get? b = some o → o.cls = .type "tuple" → h'.get? b = some o) : IsKs h' v ks := by
  obtain ⟨a, o, us, n, e, ho, hc, hd⟩ := p
  exact ⟨a, o, us, n, e, k _ _ ho hc, hc, hd⟩
section
variable {prog : Program} {w : World} {A : Around} {E : Value → Shared → Prop} {s : Shared}
theorem oneLt_strs (c : Bool) {p q : Str} {t u : Tok} {Q : Bool → Shared → Prop} (h : Q (decide (p.cps.toList < q.cps.toList)) s) : wpAny (model prog w) A (oneLt' c (.str p t) (.str q u)) Q E s := by
  cases c with
  | true => exact oneLt_str h
  | false => exact PySem.W.kat_one _ _ (PyProof.Rows.lt_str (Q := PySem.W.BoolBack Q) h)
theorem oneLt_is (c : Bool) {p q : Int} {t u : Tok} {Q : Bool → Shared → Prop} (h : Q (decide (p < q)) s) : wpAny (model prog w) A (oneLt' c (.int p t) (.int q u)) Q E s := by
  cases c with
  | true => exact oneLt_int h
  | false => exact PySem.W.kat_one _ _ (PyProof.Rows.lt_int (Q := PySem.W.BoolBack Q) h)
theorem kat_keys {b : Bool} {Q : Bool → Shared → Prop} : ∀ (ks js : List Key) (us vs : List Value) (i : Nat) (fin : Bool), Vals (ks.map kV) us → Vals (js.map kV) vs → Ali ks js → fin = decide (ks.length < js.length) → Q (ksLt ks js) s →
    PySem.W.KatLex prog w A b fin Q (us.zip vs) i s
  | [], [], _, _, i, fin, h1, h2, _, hf, q => by
    cases h1
    rw [hf]
    exact PySem.W.kat_nil q
  | [], _ :: _, _, _, i, fin, h1, h2, _, hf, q => by
    cases h1
    rw [hf]
    exact PySem.W.kat_nil (by simpa [ksLt] using q)
  | _ :: _, [], _, _, i, fin, h1, h2, _, hf, q => by
    cases h2
    rw [List.zip_nil_right, hf]
    exact PySem.W.kat_nil (by simpa [ksLt] using q)
  | a :: ks, c :: js, _, _, i, fin, h1, h2, al, hf, q => by
    cases h1 with
    | cons r1 h1 =>
      cases h2 with
      | cons r2 h2 =>
        rw [ksLt] at q
        have hf2 : fin = decide (ks.length < js.length) := by
          rw [hf, List.length_cons, List.length_cons]
          exact decide_eq_decide.mpr (by omega)
        rw [List.zip_cons_cons]
        match a, c, r1, r2, al, q with
        | .inl x, .inl y, r1, r2, al, q =>
          obtain ⟨t, rfl⟩ := r1
          obtain ⟨u, rfl⟩ := r2
          refine PySem.W.kat_cons (SeqAt.EqAt.int_int x t y u prog w _ _ ?_)
          refine PySem.W.kat_go (fun e => ?_) (fun e => ?_)
          · have ex : x = y := by simpa using e
            subst ex
            rw [if_pos rfl] at q
            exact PySem.W.kat_yes (kat_keys ks js _ _ (i + 1) fin h1 h2 (al.1 rfl) hf2 q)
          · have ex : ¬ x = y := by simpa using e
            rw [if_neg (fun z => ex (Sum.inl.inj z))] at q
            exact PySem.W.kat_no (oneLt_is _ q)
        | .inr x, .inr y, r1, r2, al, q =>
          obtain ⟨t, rfl⟩ := r1
          obtain ⟨u, rfl⟩ := r2
          refine PySem.W.kat_cons (SeqAt.EqAt.str_str x t y u prog w _ _ ?_)
          refine PySem.W.kat_go (fun e => ?_) (fun e => ?_)
          · have ex : x = y := by simpa using e
            subst ex
            rw [if_pos rfl] at q
            exact PySem.W.kat_yes (kat_keys ks js _ _ (i + 1) fin h1 h2 (al.1 rfl) hf2 q)
          · have ex : ¬ x = y := by simpa using e
            rw [if_neg (fun z => ex (Sum.inr.inj z))] at q
            exact PySem.W.kat_no (oneLt_strs _ q)
        | .inl x, .inr y, _, _, al, _ => exact absurd (al.2 (fun z => nomatch z)) (by simp)
        | .inr x, .inl y, _, _, al, _ => exact absurd (al.2 (fun z => nomatch z)) (by simp)
theorem swo_ks {α : Type} (k : α → List Key) : Swo fun v u => ksLt (k v) (k u) := ⟨fun _ _ h => ksLt_as h, fun _ _ _ h g => ksLt_ntr g h⟩
theorem keys_cmp {vs : List Value} {k : Value → List Key} (hp : ∀ v ∈ vs, IsKs s.heap v (k v)) (al : ∀ v ∈ vs, ∀ u ∈ vs, Ali (k v) (k u)) : Cmp prog w A s (tuples' true) (fun p => p.1 ∈ vs) (lt2 fun v u => ksLt (k v) (k u)) := by
  intro p q hm hm'
  have h1 := hp _ hm
  have h2 := hp _ hm'
  have h3 := al _ hm _ hm'
  show wpAny (model prog w) A (keyLt' (tuples' true) p.1 q.1) (fun r s' => s' = s ∧ r = ksLt (k p.1) (k q.1)) (fun _ _ => False) s
  generalize k p.1 = ks at h1 h3 ⊢
  generalize k q.1 = js at h2 h3 ⊢
  obtain ⟨a, o, us, n, e, ho, hc, hd, r1⟩ := h1
  obtain ⟨a', o', us', n', e', ho', hc', hd', r2⟩ := h2
  rw [e, e']
  refine PySem.W.kat_lt ho hd ho' hd' ?_
  refine kat_keys ks js _ _ 0 _ r1 r2 h3 ?_ ⟨rfl, rfl⟩
  have l1 := r1.length
  have l2 := r2.length
  rw [List.length_map] at l1 l2
  rw [l1, l2, Array.length_toList, Array.length_toList]
theorem firsts_ks {h : Heap} {k : Value → List Key} : ∀ {vs : List Value}, (∀ v ∈ vs, IsKs h v (k v) ∧ ∃ z r, k v = .inr z :: r) → ∃ fs : List Value, PySem.W.KatTups h vs fs ∧ fs.length = vs.length ∧ ∀ f ∈ fs, ∃ x t, f = Value.str x t
  | [], _ => ⟨[], PySem.W.KatTups.nil, rfl, fun _ hm => by simp at hm⟩
  | v :: vs, hp => by
    obtain ⟨fs, h1, h2, h3⟩ := firsts_ks (vs := vs) fun v' hm => hp v' (List.mem_cons_of_mem _ hm)
    obtain ⟨⟨a, o, us, n, e, ho, hc, hd, rel⟩, z, r, ek⟩ := hp v (List.mem_cons_self ..)
    subst e
    rw [ek] at rel
    obtain ⟨u0, e0, t, rfl⟩ := rel.get (i := 0) (x := .str z) rfl
    refine ⟨.str z t :: fs, PySem.W.KatTups.cons ho hc hd (by rw [← Array.getElem?_toList]; exact e0) h1, by rw [List.length_cons, List.length_cons, h2], fun f hm => ?_⟩
    rcases List.mem_cons.mp hm with rfl | hm
    · exact ⟨z, t, rfl⟩
    · exact h3 f hm
theorem keys_sortable {a : Addr} {vs : List Value} {k : Value → List Key} (h0 : 0 < vs.length) (hp : ∀ v ∈ vs, IsKs s.heap v (k v) ∧ ∃ z r, k v = .inr z :: r) (al : ∀ v ∈ vs, ∀ u ∈ vs, Ali (k v) (k u)) (ha : ∀ o, s.heap.get? a = some o → o.cls ≠ .type "tuple") :
    SortableO prog w A s a vs fun v u => ksLt (k v) (k u) := by
  intro h' keep
  have hp' : ∀ v ∈ vs, IsKs h' v (k v) ∧ ∃ z r, k v = .inr z :: r := fun v hm => ⟨(hp v hm).1.keeps fun b o e c => keep b o (fun z => by subst z; exact ha o e c) e, (hp v hm).2⟩
  obtain ⟨fs, h1, h2, h3⟩ := firsts_ks hp'
  refine ⟨tuples' true, fun Q E hq => ?_, keys_cmp (fun v hm => (hp' v hm).1) al⟩
  refine PySem.W.kat_kind (T := .type "str") h1 (by omega) (fun f hm => ?_) (by rfl) ?_
  · obtain ⟨x, t, rfl⟩ := h3 f hm
    exact PySem.W.Looks.now
  · have e : (Value.type "str" != Value.type "tuple") = true := by first | decide +kernel | rfl | decide
    rw [e]
    exact hq
theorem sorted_keys {l : Addr} {vs : List Value} {k : Value → List Key} {Q : Value → Shared → Prop} (hl : s.heap.IsList l vs.toArray) (hz : vs.length ≤ sizeLine) (hp : ∀ v ∈ vs, IsKs s.heap v (k v) ∧ ∃ z r, k v = .inr z :: r) (al : ∀ v ∈ vs, ∀ u ∈ vs, Ali (k v) (k u))
    (h : ∀ (h' : Heap) (d : Addr) (out : List Value), Srtd (fun v u => ksLt (k v) (k u)) out → Stb (fun v u => ksLt (k v) (k u)) out vs → (∀ b o, s.heap.get? b = some o → h'.get? b = some o) → s.heap.objs.size ≤ d → (∃ n, h'.get? d = some (seqObj "list" out.toArray n)) → Q (.ref d) { s with heap := h' }) :
    wpAny (model prog w) A (call (.builtin "sorted") [.ref l]) Q E s := by
  refine sorted_ord (swo_ks k) hl hz (fun h2 h₁ a ha kk => ?_) fun out hs hb => ?_
  · refine keys_sortable (s := { s with heap := h₁ }) (by omega) (fun v hm => ⟨(hp v hm).1.keeps fun b o e _ => (kk b o e).2, (hp v hm).2⟩) al fun o e => ?_
    have e' : some o = some (seqObj "list" vs.toArray 0) := e.symm.trans ha
    cases e'
    intro c
    exact absurd (Value.type.inj c) (by decide)
  · exact h _ _ out hs hb (fun b o e => sortedAll_old e) (Nat.le_succ _) (sortedAll_at s.heap vs out.toArray)
end
abbrev ltK (k : V → List Key) (x y : V) : Bool := ksLt (k x) (k y)
/-- sorted(xs), xs a list of tuples of keys (k says which), each with a text ahead -/
def rSortedK (K : PySem.W.Frag) : List V → Hp → VK → Prop := fun vs H Q => ∃ (a : Addr) (xs : List V) (k : V → List Key), vs = [V.ref a] ∧ SqL K H a xs ∧ (∀ x ∈ xs, ∃ t z r, x = V.ref t ∧ k x = .inr z :: r ∧ H t = some (.tup ((k x).map kV))) ∧
  (∀ x ∈ xs, ∀ y ∈ xs, Ali (k x) (k y)) ∧ ∀ ys p, SrtO.Srtd (ltK k) ys → SrtO.Stb (ltK k) ys xs → H p = none → Q (.ref p) (upd H p (.lst ys))
section
variable {X : Cx}
theorem cr_sortedK : CallR X (.builtin "sorted") (rSortedK X.K) := by
  intro pins s σ H vs us Q I r h
  obtain ⟨a, xs, k, rfl, hs, hx, al, q⟩ := h
  obtain ⟨its, rv, hl, hz⟩ := I.list hs
  obtain ⟨u, rfl, ru⟩ := vals1 r
  obtain rfl : u = Value.ref a := ru
  obtain ⟨e1, e2⟩ := refs_back rv fun x m => by
    obtain ⟨t, _, _, e, _⟩ := hx x m
    exact ⟨t, e⟩
  have inx : ∀ v ∈ its, backV v ∈ xs := fun v hv => by rw [e1]; exact List.mem_map.mpr ⟨_, hv, rfl⟩
  refine sorted_keys (k := fun u => k (backV u)) hl.isList (by rw [← rv.length]; exact hz) (fun v hv => ?_) (fun v hv u hu => al _ (inx v hv) _ (inx u hu)) fun h' d out h1 h2 kp hd hn => ?_
  · obtain ⟨t, rfl⟩ := e2 v hv
    obtain ⟨t', z, r, e, ek, ht⟩ := hx _ (inx _ hv)
    cases e
    obtain ⟨_, its2, r2, o, ho, hc, n, hd⟩ := I.hok _ _ ht
    exact ⟨⟨t, o, its2.toArray, n, rfl, ho, hc, hd, r2⟩, z, r, ek⟩
  · have h3 : ∀ u ∈ out, ∃ a, u = Value.ref a := fun u hu => e2 u (h2.perm.mem_iff.mp hu)
    obtain ⟨n, hn⟩ := hn
    have hb : SrtO.Stb (ltK k) (out.map backV) xs := by
      rw [e1]
      exact SrtO.Stb.map (swo_ks k) backV h2
    refine ⟨.ref d, upd H d (.lst (out.map backV)), I.laid (t' := s.toks) kp hd ⟨?_, out, n, vals_back h3, hn⟩, rfl, q _ d (SrtO.srtd_map h1) hb (I.hok.fresh hd)⟩
    rw [hb.len]
    exact hz
end
end Gd
namespace Gd
open PySem PySem.Spec PyProof.Rows L2
/-- f(k = v, ..), keywords alone -/
theorem pe_kwOnly {X : Cx} {CX : CXT} {k : Nat} {f : Addr} {fd : FuncData} {ps ks : List Str} {sp : Sp} {E : XK} {x : Str} {p pos : Pos} {kws : List Keyword} {tk : TA} {g : List Value → List Value → List Value} {gV : List V → List V → List V}
    (F : FnOk X.prog X.w X.K X.mg X.base CX k f fd ps sp) (room : Room k X.A) (isGl : Gl X x) (at_ : X.mg x = some (.ref f)) (kept : PySem.W.keepIn X.K (.ref f) = true) (bind : KBinds X.K fd ps ks g gV) (pass : Passes CX X E)
    (words : PK X kws tk) (every : (backToKw pos (keywordEach kws X.env)).all (·.1.isSome) = true := by rfl) (names : (backToKw pos (keywordEach kws X.env)).filterMap (·.1) = ks := by rfl) (nodbg : (x == ("__debug__" : Str)) = false := by decide)
    (plain : ((backTo pos (starEach [] X.env)).any (·.1) || (backToKw pos (keywordEach kws X.env)).any (·.1.isNone)) = false := by rfl) :
    PE X (.Call (.Name x p) [] kws pos) (tCallK sp gV E tNil tk) := by
  constructor
  intro pins s σ H Q I want
  refine wpAny_Call_Name_kw (ld_glob I isGl at_ ?_ nodbg)
  refine PySem.W.callWith_KW0 (h₀ := X.base) I.ok.mod.kin kept every ?_ plain
  refine thn (words.run pos pins s σ H _ I want) ?_
  rintro ws s2 ⟨zs, H2, I2, rel, q⟩
  refine ⟨I2.kIn, ?_⟩
  rw [names]
  exact run_fnk (us := []) (vs := []) F room bind pass I2 .nil rel q
end Gd
namespace Gd
open PySem PySem.Spec PyProof.Rows L2
/-- as fng_of, where nothing leaves the body -/
theorem fng0_of {P : Program} {w : World} {K : PySem.W.Frag} {mg : Str → Option Value} {base : Heap} {k : Nat} {f : Addr} {fd : FuncData} {ps : List Str} {sp : Sp} {x qual : Str} {st : Stmt} {N : List Str} (F : Fun K x qual st f fd) (S : FnScope N ps (defScope st)) (ar : ∀ vs H Q E, sp vs H Q E → vs.length = ps.length)
    (body : ∀ (cdv : Value) (A : Around) (outer : List Env) (s : Shared) (H : Hp) (vs : List V) (Q : VK) (E : XK), Room k (A.deeper (envOfC qual (defScope st) s.heap.objs.size f cdv)) → A.guards = some [] → sp vs H Q E →
      ∃ t, PSs (cxOf CX0 P w K mg base N qual (defScope st) f cdv A outer s H E).nox (defBody st) t ∧ t { nx := fun _ H' => Q .non H', rt := Q } (start N vs) H) :
    FnG P w K mg base CX0 (k + 1) f fd ps sp :=
  fng_of F S ar fun cdv A outer s H vs Q E room gd want => by
    obtain ⟨t, d, r⟩ := body cdv A outer s H vs Q E room gd want
    exact ⟨t, d.nox, r⟩
end Gd
namespace Gd
open PySem PySem.Spec PyProof.Rows L2
/-! Facts of the data of a tuple of small ints. -/
theorem ints_show : ∀ ns : List Int, (∀ n ∈ ns, n.natAbs < 10 ^ 9) → PyData.showableAll (ns.map .int) = true
  | [], _ => rfl
  | n :: r, h => by
    rw [List.map_cons, PyData.showableAll, ints_show r fun m hm => h m (List.mem_cons_of_mem _ hm), Bool.and_true]
    rw [PyData.showable]
    refine decide_eq_true ?_
    have h1 := h n List.mem_cons_self
    by_cases z : n.natAbs = 0
    · rw [z]
      decide
    · exact Nat.lt_of_lt_of_le ((Nat.log2_lt z).mpr (Nat.lt_of_lt_of_le h1 (by decide : (10 : Nat) ^ 9 ≤ 2 ^ 30))) (by decide)
theorem ints_noDict : ∀ ns : List Int, PyData.hasDictAll (ns.map .int) = false
  | [] => rfl
  | n :: r => by
    rw [List.map_cons, PyData.hasDictAll, ints_noDict r, PyData.hasDict]
    rfl
theorem ints_depth : ∀ ns : List Int, PyData.depthAll (ns.map .int) = 0
  | [] => rfl
  | n :: r => by
    rw [List.map_cons, PyData.depthAll, ints_depth r, PyData.depth]
    rfl
theorem ints_lay : ∀ ns : List Int, PyData.canLayAll0 (ns.map .int) = true
  | [] => rfl
  | n :: r => by
    rw [List.map_cons, PyData.canLayAll0, ints_lay r, PyData.canLay0]
    rfl
theorem int_len {n : Int} (h : n.natAbs < 10 ^ 9) : ((toString n : String) : Str).length ≤ 10 := by
  have e := int_text_length_le10 (a := n) (k := 9) (by decide) h
  rw [PySem.ofString_length]
  exact e
theorem ints_piled : ∀ ns : List Int, (∀ n ∈ ns, n.natAbs < 10 ^ 9) → piled (PyData.shownAll (ns.map .int)) ≤ 12 * ns.length
  | [], _ => Nat.le_refl _
  | n :: r, h => by
    have ih := ints_piled r fun m hm => h m (List.mem_cons_of_mem _ hm)
    have h1 := int_len (h n List.mem_cons_self)
    rw [List.map_cons, PyData.shownAll, piled_cons, PyData.shown, List.length_cons]
    omega
theorem tupI_facts {ns : List Int} (h : ∀ n ∈ ns, n.natAbs < 10 ^ 9) (hl : ns.length ≤ 1000000) : (PyData.tuple (ns.map .int)).showable = true ∧ (PyData.tuple (ns.map .int)).hasDict = false ∧ (PyData.tuple (ns.map .int)).depth ≤ 40 ∧ (PyData.tuple (ns.map .int)).shown.length ≤ sizeLine := by
  refine ⟨?_, ?_, ?_, ?_⟩
  · rw [PyData.showable]
    exact ints_show ns h
  · rw [PyData.hasDict]
    exact ints_noDict ns
  · rw [PyData.depth, ints_depth]
    decide
  · rw [PyData.shown]
    have h1 := fmt_text (PyData.shownAll (ns.map .int))
    have h2 := ints_piled ns h
    have h3 : sizeLine = 2 ^ 24 := rfl
    omega
theorem tupI_shaped (ns : List Int) : SeqAt.shaped (PyData.tuple (ns.map .int)) = true := by
  unfold SeqAt.shaped
  rw [PyData.canLay0, ints_lay, PyData.depth, ints_depth]
  rfl
theorem tupI_eqv (ns : List Int) : PyData.eqv (PyData.tuple (ns.map .int)) (PyData.tuple (ns.map .int)) = true := PySem.SeqAt.eqv_refl _ (by rw [PyData.canLay0]; exact ints_lay ns)
theorem dp_ints {K : PySem.W.Frag} {H : Hp} : ∀ ns : List Int, DpAll K H (ns.map V.int) (ns.map .int)
  | [] => .nil
  | n :: r => .cons (.int n) (dp_ints r)
theorem dp_tupI {K : PySem.W.Frag} {H : Hp} {p : Addr} {ns : List Int} (h : SqT K H p (ns.map V.int)) : Dp K H (.ref p) (.tuple (ns.map .int)) := .tup h (dp_ints ns)
end Gd
namespace L2
open PySem PySem.Spec PyProof.Rows
/-! d.items() of a dict whose keys are tuples -/
def Itit (d : Addr) (o : Obj) (kvs : List (List Key × V)) : It :=
  ⟨fun i H => H d = some (.frz o (.dT kvs)) ∧ i < kvs.length, fun i H x H' => ∃ T k v q, kvs[i]? = some (k, v) ∧ H q = some (.tup (k.map kV)) ∧ x = .ref T ∧ H T = none ∧ H' = upd H T (.tup [.ref q, v]), fun i H => H d = some (.frz o (.dT kvs)) ∧ kvs.length ≤ i⟩
section
variable {X : Cx} {pins : List (Addr × Obj)} {σ : St} {H : Hp} {s : Shared} {d : Addr} {o : Obj}
theorem Inv.frzTv {kvs : List (List Key × V)} (I : Inv X pins σ H s) (h : H d = some (.frz o (.dT kvs))) :
    (d == sysModules) = false ∧ s.heap.get? d = some o ∧ o.ExactDict ∧ ∃ (es : Array DictEntry) (ep : Nat), o.data = .dict es ep ∧ es.size = kvs.length ∧
      ∀ (i : Nat) (k : List Key) (v : V), kvs[i]? = some (k, v) → ∃ (en : DictEntry) (q : Addr), es[i]? = some en ∧ en.key = .ref q ∧ H q = some (.tup (k.map kV)) ∧ RelV v en.val := by
  obtain ⟨hd, z, hs, xs, pr, o', es, ep, ho, hx, hdt, he, _⟩ := I.hok d _ h
  rw [hd] at ho
  cases ho
  refine ⟨hs, hd, hx, es, ep, hdt, ?_, fun i k v e => ?_⟩
  · have l1 : es.size = xs.length := size_of_entries he
    have l2 : kvs.length = xs.length := Paired.length pr
    omega
  · obtain ⟨b, hb, e1, e2, e3⟩ := paired_get pr e
    have q := entry_at he i
    rw [hb] at q
    exact ⟨_, b.2.1, q, rfl, e2, e3⟩
end
section
variable {P : Program} {w : World} {K : PySem.W.Frag} {d : Addr} {o : Obj} {es : Array DictEntry} {ep : Nat}
theorem turn_itemsT {kvs : List (List Key × V)} {elts : List Expr} {kk : Nat} {tpos : Pos} (it : Addr) (hod : o.data = .dict es ep) :
    Turn P w K (.Tuple elts kk tpos) (Itit d o kvs) [it] it (fun i h => ∃ ok ov, IsItemIter h it d i kvs.length ep ok ov) where
  mem := by simp
  obj := fun i h st b hb => by
    have e : b = it := by simpa using hb
    subst e
    obtain ⟨ok, ov, e⟩ := st
    exact ⟨_, e, fun v z => nomatch z⟩
  keep := fun i h h' st k => let ⟨ok, ov, e⟩ := st; ⟨ok, ov, k it (by simp) _ e⟩
  item := by
    intro X hP hw hK hc i pins s σ H E I hf st hg
    subst hP hw hK
    obtain ⟨hd, hi⟩ := hg
    obtain ⟨hs, hgd, hx, es', ep', hdt, hsz, ent⟩ := I.frzTv hd
    obtain ⟨rfl, rfl⟩ := dict_ep hod hdt
    obtain ⟨⟨k, v⟩, hkv⟩ : ∃ p, kvs[i]? = some p := ⟨kvs[i], List.getElem?_eq_getElem hi⟩
    obtain ⟨en, q, hen, hkey, hq, rv⟩ := ent i k v hkv
    obtain ⟨ok, ov, he⟩ := st
    rw [← hsz] at he
    have hlt : it < s.heap.objs.size := Heap.lt_size he
    have hi2 : i < es'.size := by omega
    have een : es'[i] = en := by
      rw [Array.getElem?_eq_getElem hi2] at hen
      exact Option.some.inj hen
    refine PySem.wpAny_pyNext_items_item_raw he ⟨o, hgd, hx, hdt⟩ hi2 fun h' ho hT hz hk => ?_
    rw [een] at ho hT
    refine ⟨_, rfl, wpAny_letOwnedTupleGo_items (s := { s with heap := h' }) ho fun h'' he' sb => ?_⟩
    have hT2 : h''.get? s.heap.objs.size = some { cls := .type "tuple", data := .seq #[en.key, en.val] } := (sb.2 _ (Nat.ne_of_gt hlt)).trans hT
    have new : ObjOk X.prog X.w (upd H s.heap.objs.size (.tup [.ref q, v])) h'' s.heap.objs.size (.tup [.ref q, v]) :=
      ⟨by show 2 ≤ sizeLine; decide, [en.key, en.val], .cons hkey (.cons rv .nil), ⟨_, hT2, rfl, _, rfl⟩⟩
    have I1 : Inv X pins σ (upd H s.heap.objs.size (.tup [.ref q, v])) { s with heap := h'' } :=
      I.turnedNew (t' := s.toks) (ch := [it]) (fun b ob hb e => (sb.2 b (by simpa using hb)).trans (hk b ob (by simpa using hb) e)) hf (Nat.le_refl _) new
    refine ⟨.ref s.heap.objs.size, _, I1, rfl, ⟨_, k, v, q, hkv, hq, rfl, I.hok.fresh (Nat.le_refl _), rfl⟩, ⟨en.key, en.val, ?_⟩, fun b hb => ?_⟩
    · rw [← hsz]; exact he'
    · have e : b = it := by simpa using hb
      rw [e, upd_ne (Nat.ne_of_lt hlt)]
      exact (hf it (by simp)).1
  done := by
    intro X hP hw hK hc i pins s σ H E I hf st hg
    subst hP hw hK
    obtain ⟨hd, hi⟩ := hg
    obtain ⟨f0, f1, f2, f3, f4, f5⟩ := hf it (by simp)
    obtain ⟨hs, hgd, hx, es', ep', hdt, hsz, ent⟩ := I.frzTv hd
    obtain ⟨rfl, rfl⟩ := dict_ep hod hdt
    obtain ⟨ok, ov, he⟩ := st
    rw [← hsz] at he
    exact PySem.wpAny_pyNext_items_end_raw (I.ok.hd hc) he ⟨o, hgd, hx, hdt⟩ (by omega) fun h' eb => ⟨rfl, I.turned (t' := s.toks) (fun b ob hb e => eb b ob hb e) f0 f1 f3 f4 f5⟩
  self := fun A i s Q E st h => let ⟨_, _, e⟩ := st; PySem.W.kcp_self e h
end
def iItemsT (td : TE) : TI := fun σ H R => td σ H fun x H1 => ∃ d o kvs, x = .ref d ∧ H1 d = some (.frz o (.dT kvs)) ∧ R (Itit d o kvs) H1
section
variable {X : Cx} {e : Expr} {td : TE} {apos cpos : Pos}
theorem pi_itemsT {elts : List Expr} {kk : Nat} {tpos : Pos} (he : PE X e td) (hbase : attributeBase e "items" X.env (eval e X.env) = eval e X.env := by rfl) (hline : (apos.endLine == cpos.line) = true := by rfl) :
    PI X (.Tuple elts kk tpos) (.Call (.Attribute e "items" apos) [] [] cpos) (iItemsT td) := by
  refine ⟨fun pins s σ H R I h => ?_⟩
  refine wpAny_Call_method (T := "dict") (id := "dict.items") hbase rfl hline F.plainAttrs_dict F.slot_dict_items F.type_dict_items (thn (he.run pins s σ H _ I h) fun u s1 ⟨x, H1, I1, rx, d, o, kvs, ex, hd, q⟩ => ?_)
  subst ex
  obtain rfl : u = Value.ref d := rx
  obtain ⟨hs, hgd, hx, es, ep, hdt, hsz, ent⟩ := I1.frzTv hd
  have hm : s1.heap.DictRaw d es ep := ⟨o, hgd, hx, hdt⟩
  refine ⟨hm.typeIs, ?_, ?_⟩
  · exact fun a ea => by
      cases ea
      exact ⟨o, hgd, hx.2.1⟩
  have I2 : Inv X pins σ H1 { s1 with heap := s1.heap.push { cls := .type "dict_items", data := .fields #[.ref d] } } := I1.kept (t' := s1.toks) fun b ob q => Heap.get?_push_of_some _ q
  have fin : wpAny (model X.prog X.w) X.A (pyIter (.ref s1.heap.objs.size)) (PIE X pins σ (.Tuple elts kk tpos) R) X.xe { s1 with heap := s1.heap.push { cls := .type "dict_items", data := .fields #[.ref d] } } := by
    refine PySem.wpAny_pyIter_items_raw (d := d) ⟨_, Heap.get?_push_size _ rfl, rfl, rfl⟩ (hm.at fun o e => Heap.get?_push_of_some _ e) (pi_one (tk := s1.toks) I2 _ (turn_itemsT _ hdt) ⟨.none, .none, ?_⟩ q)
    rw [← hsz]
    exact Heap.get?_push_size _ rfl
  show wpAny _ _ (callWith cpos (.builtin "dict.items") [.ref d] [] []) _ X.xe s1
  exact method_meetsIn F.slot_dict_items F.entry_dict_items rfl (PySem.evalArgs_none ⟨rfl, hm.typeIs, F.args_dict_items_1 _, _, PySem.meets_dict_items_raw d hs, ⟨⟨es, ep, hm⟩, fin⟩⟩)
end
theorem walk_itemsT {d : Addr} {o : Obj} {kvs : List (List Key × V)} : Walk (Itit d o kvs) kvs.length (fun H => H d = some (.frz o (.dT kvs)))
    (fun i H x H' => ∃ T k v q, kvs[i]? = some (k, v) ∧ H q = some (.tup (k.map kV)) ∧ x = .ref T ∧ H T = none ∧ H' = upd H T (.tup [.ref q, v])) :=
  ⟨fun _ _ hi q => ⟨q, hi⟩, fun _ q => ⟨q, Nat.le_refl _⟩, fun _ _ _ _ _ _ y => y⟩
end L2
namespace L2
open PySem PySem.Spec PyProof.Rows
/-- over a list or a tuple -/
def iSeq (K : PySem.W.Frag) (tl : TE) : TI := fun σ H R => tl σ H fun x H1 => ∃ a, x = .ref a ∧ (((∃ xs, SqL K H1 a xs) ∧ R (Itl K a) H1) ∨ ((∃ xs, SqT K H1 a xs) ∧ R (Itt K a) H1))
theorem pi_seq {X : Cx} {tg l : Expr} {tl : TE} (hl : PE X l tl) : PI X tg l (iSeq X.K tl) := by
  refine ⟨fun pins s σ H R I h => ?_⟩
  refine thn (hl.run pins s σ H _ I h) fun v s1 ⟨x, H1, I1, r1, q1⟩ => ?_
  obtain ⟨a, e, q⟩ := q1
  subst e
  cases r1
  rcases q with ⟨⟨xs, hq⟩, q⟩ | ⟨⟨xs, hq⟩, q⟩
  · obtain ⟨its, rv, p, hz⟩ := I1.list hq
    refine wpAny_pyIter_list p.isList ?_
    refine ⟨s1.heap.objs.size, [s1.heap.objs.size], _, _, H1, rfl, I1.kept (t' := s1.toks) fun b o e => Heap.get?_push_of_some _ e, turn_list a _, ⟨_, Heap.get?_push_size _ rfl, rfl, rfl⟩, fun b hb => ?_, q⟩
    have e : b = s1.heap.objs.size := by simpa using hb
    subst e
    exact I1.fpOk (Nat.le_refl _) (I1.hok.fresh (Nat.le_refl _))
  · obtain ⟨its, rv, p, hz⟩ := I1.tuple hq
    refine wpAny_pyIter_tuple (show s1.heap.IsTuple a its.toArray from p) ?_
    refine ⟨s1.heap.objs.size, [s1.heap.objs.size], _, _, H1, rfl, I1.kept (t' := s1.toks) fun b o e => Heap.get?_push_of_some _ e, turn_tuple a _, ⟨_, Heap.get?_push_size _ rfl, rfl, rfl⟩, fun b hb => ?_, q⟩
    have e : b = s1.heap.objs.size := by simpa using hb
    subst e
    exact I1.fpOk (Nat.le_refl _) (I1.hok.fresh (Nat.le_refl _))
/-- f(a, ..) of a def that takes any number of arguments -/
def tCallR (sp : Sp) (E : XK) (t : TA) : TE := fun σ H Q => t σ H fun vs H1 => sp vs H1 Q E
theorem pe_callR {X : Cx} {CX : CXT} {k : Nat} {f : Addr} {sp : Sp} {E : XK} {x : Str} {e : Expr} {es : List Expr} {t : TA} {p pos : Pos} (F : FnR X.prog X.w X.K X.mg X.base CX k f sp) (hr : Room k X.A) (hg : Gl X x) (hm : X.mg x = some (.ref f)) (hk : PySem.W.keepIn X.K (.ref f) = true) (hx : Passes CX X E)
    (ha : PA X (e :: es) t) (hdb : (x == ("__debug__" : Str)) = false := by decide) (he : starEach (e :: es) X.env = (false, eval e X.env) :: starEach es X.env := by rfl) (hpl : (backTo pos (starEach es X.env)).any (·.1) = false := by rfl) :
    PE X (.Call (.Name x p) (e :: es) [] pos) (tCallR sp E t) := by
  refine ⟨fun pins s σ H Q I h => ?_⟩
  refine wpAny_Call_Name_kw (ld_glob I hg hm ?_ hdb)
  refine PySem.W.callWith_K (h₀ := X.base) I.ok.mod.kin hk (thn (ha.run pos pins s σ H _ I h) fun us s1 ⟨vs, H1, I1, r, q⟩ => ⟨I1.kIn, ?_⟩) he hpl
  exact wpAny_call (run_fnR F hr hx I1 r q)
/-- over a dict that was just made: it is locked from here on -/
def iKeysL (td : TE) : TI := fun σ H R => td σ H fun x H1 => ∃ d kvs, x = .ref d ∧ H1 d = some (.dK kvs) ∧ ∀ od, R (Itk d od kvs) (upd H1 d (.frz od (.dK kvs)))
theorem pi_keysL {X : Cx} {tg e : Expr} {td : TE} (he : PE X e td) : PI X tg e (iKeysL td) := by
  refine ⟨fun pins s σ H R I h => ?_⟩
  refine thn (he.run pins s σ H _ I h) fun u s1 ⟨x, H1, I1, rx, d, kvs, ex, hd, q⟩ => ?_
  subst ex
  obtain rfl : u = Value.ref d := rx
  obtain ⟨od, I2⟩ := I1.lock hd trivial
  obtain ⟨hs, hgd, hx, es, ep, vs, hdt, hsz, kv, hm⟩ := I2.frzK upd_same
  refine iter_keys hs hgd hx hdt (pi_one (tk := s1.toks) I2 _ (turn_keys _ hdt) ⟨_, Heap.get?_push_size _ rfl, rfl, ?_⟩ (q od))
  rw [hsz] <;> rfl
/-- name = {..} on one line, the name a local -/
theorem ps_setDc {X : Cx} {i : Nat} {y : Str} {py : Pos} {kx vx tg iter : Expr} {ifs : List Expr} {scope : Scope} {own : List (Str × Nat)} {pos spos : Pos} {wi : TI} {g : TG} {tt : TT} {tk tv : TE} (hc : X.calm = true) (hN : X.N.Nodup) (hy : X.N[i]? = some y) (hyl : X.env.scope.names.lookup y = some .local)
    (hsw : swapsWith (.DictComp kx vx [⟨tg, iter, ifs, 0⟩] scope pos) (some (.Name y py)) spos.line X.env = pure true) (hi : PI X tg iter wi) (ok : BlkOk X.N X.env.scope scope own)
    (hg : ∀ (s : Shared) (H : Hp) (C : Addr) (cl : List (Str × Addr)) (fp : List Addr), PG (X.blk s H scope (compEnvC scope cl C X.env) fp) tg g) (ht : ∀ (s : Shared) (H : Hp) (C : Addr) (cl : List (Str × Addr)) (fp : List Addr), PTs (X.blk s H scope (compEnvC scope cl C X.env) fp) ifs tt)
    (hk : ∀ (s : Shared) (H : Hp) (C : Addr) (cl : List (Str × Addr)) (fp : List Addr), PE (X.blk s H scope (compEnvC scope cl C X.env) fp) kx tk)
    (he : ∀ (s : Shared) (H : Hp) (C : Addr) (cl : List (Str × Addr)) (fp : List Addr), PE (X.blk s H scope (compEnvC scope cl C X.env) fp) vx tv) (hs : ∀ x, foldedSetIterable iter X.env x = pure x := by intro _; rfl) :
    PS X (.Assign [.Name y py] (.DictComp kx vx [⟨tg, iter, ifs, 0⟩] scope pos) spos) (tAsg (tDc wi g tt tk tv (own.map (·.2))) (gName i)) := by
  refine ⟨fun pins s σ H D I h => ?_⟩
  rw [exec_Assign_Name_used _ _ _ _ hsw]
  refine wpAny_bind (wpAny_standAt (wpAny_bind ?_))
  show wpAny _ X.A (do let _ ← comprehension (.DictComp kx vx [⟨tg, iter, ifs, 0⟩] scope pos) scope X.env (firstIterPos [⟨tg, iter, ifs, 0⟩] pos) newDict false (eval iter X.env) (some (assign (.Name y py) X.env))) _ _ s
  have h : tDc wi g tt tk tv (own.map (·.2)) σ H (fun x H1 => gName i x σ H1 D.nx) := h
  refine wpAny_bind (thn (dc_core (Qf := fun _ s' => SP X pins D .next s') hc hN I hi ok hg ht hk he hs h fun L C s' m H' I' q hn f => ?_) fun _ s' hq => wpAny_pure (wpAny_pure hq))
  show wpAny _ _ (assign (.Name y py) X.env (.ref L)) _ _ _
  refine wpAny_assign_Name (store_ok2 (v := V.ref L) I' hN hy (.inl hyl) rfl (fun s2 I2 ⟨a, sb, ha⟩ => ?_) (.inr hyl))
  obtain ⟨f0, f1, f2, f3, f4, f5⟩ := f
  have haC : C ≠ a := by
    rcases ha with z | z
    · rw [z]; exact f1
    · exact fun e => f4 y a z e.symm
  refine ⟨m, hn.sameBut sb haC, fun h3 sb3 => ?_⟩
  exact ⟨_, H', I2.turned (t' := s2.toks) (fun b o hb e => (sb3.2 b hb).trans e) f0 f1 f3 f4 f5, q⟩
theorem sw_trueD {kx vx : Expr} {gs : List Comprehension} {scope : Scope} {pos py : Pos} {y : Str} {l : Nat} {env : Env} (hk : env.scope.kind = .function) (hy : env.scope.names.lookup y = some .local) (hl : (py.line == pos.line) = true)
    (ha : (scope.names.any fun (n, k) => n == y && (k == .local || k == .cell)) = false) : swapsWith (.DictComp kx vx gs scope pos) (some (.Name y py)) l env = pure true := by
  have ky : env.kindOf y = some .local := hy
  have hb : env.blockKind = .function := by unfold Env.blockKind; rw [hk]; rfl
  unfold swapsWith
  simp only [hb, ky, ha, Expr.pos, hl]
  rfl
end L2
namespace Sn
open PySem PySem.Spec PyProof.Rows L2 Evl Gd
/-! one word of a reading at a time -/
section
variable {ta tr te tb tc td ty tv : TE} {tt : TA} {ts tz : TS} {D : Ends} {g : TG} {σ : L2.St} {H : Hp} {Q : VK} {K : PySem.W.Frag}
theorem c_of {Q : List V → Hp → Prop} (h : ta σ H fun x H1 => tt σ H1 fun xs H2 => Q (x :: xs) H2) : tCons ta tt σ H Q := h
theorem tup_of (h : tt σ H fun xs H1 => xs.length ≤ sizeLine ∧ ∀ p, H1 p = none → Q (.ref p) (upd H1 p (.tup xs))) : tTup tt σ H Q := h
theorem lst_of (h : tt σ H fun xs H1 => xs.length ≤ sizeLine ∧ ∀ p, H1 p = none → Q (.ref p) (upd H1 p (.lst xs))) : tLst tt σ H Q := h
theorem n_of {Q : List V → Hp → Prop} (h : Q [] H) : tNil σ H Q := h
theorem v_of {i : Nat} {v : V} (e : σ[i]? = some (some v)) (h : Q v H) : tVar i σ H Q := ⟨v, e, h⟩
theorem k_of {v : V} (h : Q v H) : tC v σ H Q := h
theorem seq_of (h : ts { D with nx := tz D } σ H) : tSeq ts tz D σ H := h
theorem asg_of {i : Nat} (h : te σ H fun x H1 => D.nx (σ.set i (some x)) H1) : tAsg te (gName i) D σ H := h
theorem asgG_of (h : te σ H fun x H1 => g x σ H1 D.nx) : tAsg te g D σ H := h
theorem par_of {i j : Nat} (h : tt σ H fun vs H1 => ∃ v w, vs = [v, w] ∧ D.nx ((σ.set i (some v)).set j (some w)) H1) : tPar i j tt D σ H := h
theorem ret_of (h : te σ H D.rt) : tRet te D σ H := h
theorem op_of {r : R2} (h : ta σ H fun x H1 => tb σ H1 fun y H2 => r x y H2 Q) : tOp r ta tb σ H Q := h
theorem call_of {sp : Sp} {dvs : List V} {E : XK} (h : tt σ H fun vs H1 => sp (vs ++ dvs) H1 Q E) : tCall sp dvs E tt σ H Q := h
theorem callK_of {sp : Sp} {gV : List V → List V → List V} {E : XK} {tk : TA} (h : tt σ H fun vs H1 => tk σ H1 fun zs H2 => sp (gV vs zs) H2 Q E) : tCallK sp gV E tt tk σ H Q := h
theorem callR_of {sp : Sp} {E : XK} (h : tt σ H fun vs H1 => sp vs H1 Q E) : tCallR sp E tt σ H Q := h
theorem cb_of {r : List V → Hp → VK → Prop} (h : tt σ H fun vs H1 => r vs H1 Q) : tCB r tt σ H Q := h
theorem test_of {Q : Bool → Hp → Prop} (h : te σ H fun x H1 => ∃ c, x = .bl c ∧ Q c H1) : tTest te σ H Q := h
theorem if_of {b : TT} (h : b σ H fun c H1 => if c = true then ta σ H1 Q else tb σ H1 Q) : tIf b ta tb σ H Q := h
theorem ifS_of {t : TT} {ta tb : TS} (h : t σ H fun c H1 => if c = true then ta D σ H1 else tb D σ H1) : tIfS t ta tb D σ H := h
theorem and_of {t u : TT} {Q : Bool → Hp → Prop} (h : t σ H fun c H1 => if c = true then u σ H1 Q else Q false H1) : tAnd t u σ H Q := h
theorem or_of {t u : TT} {Q : Bool → Hp → Prop} (h : t σ H fun c H1 => if c = true then Q true H1 else u σ H1 Q) : tOr t u σ H Q := h
theorem not_of {te : TT} {Q : Bool → Hp → Prop} (h : te σ H fun c H1 => Q (!c) H1) : tNot te σ H Q := h
theorem andv_of (h : ta σ H fun x H1 => ∃ c, x = .bl c ∧ if c = true then tb σ H1 Q else Q (.bl false) H1) : tAndV ta tb σ H Q := h
theorem notv_of (h : ta σ H fun x H1 => ∃ c, x = .bl c ∧ Q (.bl (!c)) H1) : tNotV ta σ H Q := h
theorem put_of (h : tv σ H fun v H1 => td σ H1 fun x H2 => ty σ H2 fun y H3 => ∃ a H4, x = .ref a ∧ DPut H3 a y v H4 ∧ D.nx σ H4) : sDPut td ty tv D σ H := h
theorem newK_of (h : ∀ p, H p = none → Q (.ref p) (upd H p (.dK []))) : tDNewK σ H Q := h
theorem dget_of (h : td σ H fun x H1 => ty σ H1 fun y H2 => ∃ a v, x = .ref a ∧ DGet H2 a y (some v) ∧ Q v H2) : tDGet td ty σ H Q := h
theorem din_of (h : ty σ H fun y H1 => td σ H1 fun x H2 => ∃ a o, x = .ref a ∧ DGet H2 a y o ∧ Q (.bl o.isSome) H2) : tDIn ty td σ H Q := h
theorem notin_of (h : ty σ H fun y H1 => td σ H1 fun x H2 => ∃ a o, x = .ref a ∧ DGet H2 a y o ∧ Q (.bl (!o.isSome)) H2) : tDNotIn ty td σ H Q := h
theorem drop_of (h : te σ H fun _ H1 => D.nx σ H1) : tDrop te D σ H := h
theorem make_of {C : Addr} {sp : Sp} {dvs : List V} {E : XK} (h : tt σ H fun vs H1 => ∀ x dx, H1 x = none → H1 dx = none → dx ≠ x → sp (.ref x :: (vs ++ dvs)) (upd (upd H1 dx (.own x)) x (.ins C dx [])) (fun v H2 => v = .non ∧ Q (.ref x) H2) E) : tMake C sp dvs E tt σ H Q := h
theorem meth_of {C : Addr} {m : Str} {sp : Sp} {dvs : List V} {E : XK} (h : ta σ H fun x H1 => ∃ a dx fs, x = .ref a ∧ H1 a = some (.ins C dx fs) ∧ fs.lookup m = none ∧ tt σ H1 fun vs H2 => sp (x :: (vs ++ dvs)) H2 Q E) : tMeth C m sp dvs E ta tt σ H Q := h
theorem lc_of {wi : TI} {tt : TT} {vs : List Nat} (h : wi σ H fun J H1 => ∀ D, H1 D = none → ∃ W : Nat → Nat → Hp → Prop, (∃ m, W 0 m (upd H1 D (.lst []))) ∧ ∀ i m H, W i m H →
  (J.stop i H ∧ Q (.ref D) H) ∨ (J.go i H ∧ ∃ Nx : Hp → Prop, (∀ H', Nx H' → ∃ m', m' < m ∧ W (i + 1) m' H') ∧ ∀ x H', J.yld i H x H' → g x (wipe σ vs) H' fun σ2 H2 => wipe σ2 vs = wipe σ vs ∧ tt σ2 H2 fun b H3 =>
    if b = true then te σ2 H3 fun y H4 => ∃ acc, H4 D = some (.lst acc) ∧ acc.length < sizeLine ∧ Nx (upd H4 D (.lst (acc ++ [y]))) else Nx H3)) : tLc wi g tt te vs σ H Q := h
theorem for_of {wi : TI} (h : wi σ H fun J H1 => ∃ W : Nat → Nat → L2.St → Hp → Prop, (∃ m, W 0 m σ H1) ∧ ∀ i m σ H, W i m σ H →
      (J.stop i H ∧ D.nx σ H) ∨ (J.go i H ∧ ∃ N : L2.St → Hp → Prop, (∀ σ' H', N σ' H' → ∃ m', m' < m ∧ W (i + 1) m' σ' H') ∧ ∀ x H', J.yld i H x H' → g x σ H' fun σ2 H2 => ts { D with nx := N, ct := N, bk := D.nx } σ2 H2)) : tFor wi g ts D σ H := h
theorem iL_of {R : It → Hp → Prop} (h : ta σ H fun x H1 => ∃ a, x = .ref a ∧ (∃ xs, SqL K H1 a xs) ∧ R (Itl K a) H1) : iList K ta σ H R := h
theorem iT_of {R : It → Hp → Prop} (h : ta σ H fun x H1 => ∃ a, x = .ref a ∧ (∃ xs, SqT K H1 a xs) ∧ R (Itt K a) H1) : iTup K ta σ H R := h
theorem kL_of {R : It → Hp → Prop} (h : td σ H fun x H1 => ∃ d kvs, x = .ref d ∧ H1 d = some (.dK kvs) ∧ ∀ od, R (Itk d od kvs) (upd H1 d (.frz od (.dK kvs)))) : iKeysL td σ H R := h
theorem r1_of {R : It → Hp → Prop} (h : tt σ H fun vs H1 => ∃ j : Int, vs = [.int j] ∧ -(2 ^ 62) ≤ j ∧ j < 2 ^ 62 ∧ R (Itr 0 j.toNat) H1) : iRng1 tt σ H R := h
theorem rev_of (h : te σ H fun x H1 => ∃ a xs, x = .ref a ∧ SqL K H1 a xs ∧ ∀ p, H1 p = none → Q (.ref p) (upd H1 p (.lst xs.reverse))) : tRevL K te σ H Q := h
theorem for1_of (h : tt σ H fun vs H1 => ∃ j : Int, vs = [.int j] ∧ -(2 ^ 62) ≤ j ∧ j < 2 ^ 62 ∧ ∃ W : Nat → Nat → L2.St → Hp → Prop, (∃ m, W 0 m σ H1) ∧ ∀ i m σ H, W i m σ H →
      ((Itr 0 j.toNat).stop i H ∧ D.nx σ H) ∨ ((Itr 0 j.toNat).go i H ∧ ∃ N : L2.St → Hp → Prop, (∀ σ' H', N σ' H' → ∃ m', m' < m ∧ W (i + 1) m' σ' H') ∧ ∀ x H', (Itr 0 j.toNat).yld i H x H' → g x σ H' fun σ2 H2 => ts { D with nx := N, ct := N, bk := D.nx } σ2 H2)) : tFor (iRng1 tt) g ts D σ H := h
theorem forS_of (h : ta σ H fun x H1 => ∃ a, x = .ref a ∧ (((∃ xs, SqL K H1 a xs) ∧ ∃ W : Nat → Nat → L2.St → Hp → Prop, (∃ m, W 0 m σ H1) ∧ ∀ i m σ H, W i m σ H →
      ((Itl K a).stop i H ∧ D.nx σ H) ∨ ((Itl K a).go i H ∧ ∃ N : L2.St → Hp → Prop, (∀ σ' H', N σ' H' → ∃ m', m' < m ∧ W (i + 1) m' σ' H') ∧ ∀ x H', (Itl K a).yld i H x H' → g x σ H' fun σ2 H2 => ts { D with nx := N, ct := N, bk := D.nx } σ2 H2)) ∨
    ((∃ xs, SqT K H1 a xs) ∧ ∃ W : Nat → Nat → L2.St → Hp → Prop, (∃ m, W 0 m σ H1) ∧ ∀ i m σ H, W i m σ H →
      ((Itt K a).stop i H ∧ D.nx σ H) ∨ ((Itt K a).go i H ∧ ∃ N : L2.St → Hp → Prop, (∀ σ' H', N σ' H' → ∃ m', m' < m ∧ W (i + 1) m' σ' H') ∧ ∀ x H', (Itt K a).yld i H x H' → g x σ H' fun σ2 H2 => ts { D with nx := N, ct := N, bk := D.nx } σ2 H2)))) : tFor (iSeq K ta) g ts D σ H := h
theorem ifE_yes {t : TT} (h : ∀ k : Bool → Hp → Prop, k true H → t σ H k) (q : ta σ H Q) : tIf t ta tb σ H Q := h _ (by
  show if true = true then ta σ H Q else tb σ H Q
  rw [if_pos rfl]
  exact q)
theorem ifE_no {t : TT} (h : ∀ k : Bool → Hp → Prop, k false H → t σ H k) (q : tb σ H Q) : tIf t ta tb σ H Q := h _ (by
  show if false = true then ta σ H Q else tb σ H Q
  rw [if_neg Bool.false_ne_true]
  exact q)
theorem seq_join (I : L2.St → Hp → Prop) (h1 : (∀ σ' H', I σ' H' → tz D σ' H') → tSeq ts tz D σ H) (h2 : ∀ σ' H', I σ' H' → tz D σ' H') : tSeq ts tz D σ H := h1 h2
end
/-! small facts of lists -/
theorem take_one {α : Type} {l : List α} {i : Nat} {x : α} (h : l[i]? = some x) : l.take (i + 1) = l.take i ++ [x] := by
  rw [List.take_add_one, h]
  rfl
theorem take_snoc {α β : Type} {l : List α} {i : Nat} {x : α} (f : α → β) (h : l[i]? = some x) : (l.take (i + 1)).map f = (l.take i).map f ++ [f x] := by
  rw [List.take_add_one, h, List.map_append]
  rfl
theorem map_at {α β : Type} {f : α → β} {l : List α} {i : Nat} {y : β} (h : (l.map f)[i]? = some y) : ∃ x, l[i]? = some x ∧ y = f x := by
  rw [List.getElem?_map] at h
  cases e : l[i]? with
  | none =>
    rw [e] at h
    cases h
  | some x =>
    rw [e] at h
    exact ⟨x, rfl, (Option.some.inj h).symm⟩
theorem at_map {l : List Int} {i : Nat} {x : V} (h : (l.map V.int)[i]? = some x) : ∃ k, l[i]? = some k ∧ x = .int k := map_at h
theorem filterMap_snoc {α β : Type} {l : List α} {i : Nat} {x : α} (f : α → Option β) (h : l[i]? = some x) : (l.take (i + 1)).filterMap f = (l.take i).filterMap f ++ (f x).toList := by
  rw [List.take_add_one, h, List.filterMap_append]
  show _ ++ List.filterMap f [x] = _
  cases e : f x with
  | none => rw [List.filterMap_cons_none e] <;> rfl
  | some y => rw [List.filterMap_cons_some e] <;> rfl
theorem flatMap_snoc {α β : Type} {l : List α} {i : Nat} {x : α} (f : α → List β) (h : l[i]? = some x) : (l.take (i + 1)).flatMap f = (l.take i).flatMap f ++ f x := by
  rw [List.take_add_one, h, List.flatMap_append]
  show _ ++ List.flatMap f [x] = _
  rw [List.flatMap_cons, List.flatMap_nil, List.append_nil]
theorem TdAll.last {K : PySem.W.Frag} {H : Hp} : ∀ {ys : List V} {ds : List PyData} {d : PyData}, TdAll K H ys (ds ++ [d]) → ∃ zs y, ys = zs ++ [y] ∧ TdAll K H zs ds ∧ Td K H y d
  | _, [], _, h => by
    obtain ⟨y, ys, rfl, h1, h2⟩ := TdAll.inv_cons h
    rw [h2.inv_nil]
    exact ⟨[], y, rfl, .nil, h1⟩
  | _, e :: ds, d, h => by
    obtain ⟨y, ys, rfl, h1, h2⟩ := TdAll.inv_cons h
    obtain ⟨zs, z, rfl, h3, h4⟩ := TdAll.last h2
    exact ⟨y :: zs, z, rfl, .cons h1 h3, h4⟩
theorem snoc_of {α : Type} : ∀ {l : List α}, l ≠ [] → ∃ m x, l = m ++ [x]
  | [], h => absurd rfl h
  | [x], _ => ⟨[], x, rfl⟩
  | x :: y :: l, _ => by
    obtain ⟨m, z, e⟩ := snoc_of (l := y :: l) (by simp)
    exact ⟨x :: m, z, by rw [e]; rfl⟩
theorem flat_congr {α β : Type} {f g : α → List β} : ∀ {l : List α}, (∀ x ∈ l, f x = g x) → l.flatMap f = l.flatMap g
  | [], _ => rfl
  | x :: l, h => by rw [List.flatMap_cons, List.flatMap_cons, h x List.mem_cons_self, flat_congr fun y hy => h y (List.mem_cons_of_mem _ hy)]
theorem strict_of {ns : List Int} (h : ns.Pairwise (· ≤ ·)) (nd : ns.Nodup) : ns.Pairwise (· < ·) := by
  refine List.Pairwise.imp₂ (fun a b h1 h2 => ?_) h nd
  have h3 : a ≠ b := h2
  omega
/-- strictly ascending lists of the same ints are the same -/
theorem asc_uniq : ∀ {a b : List Int}, a.Pairwise (· < ·) → b.Pairwise (· < ·) → (∀ n, n ∈ a ↔ n ∈ b) → a = b
  | [], [], _, _, _ => rfl
  | [], y :: b, _, _, h => absurd ((h y).mpr List.mem_cons_self) List.not_mem_nil
  | x :: a, [], _, _, h => absurd ((h x).mp List.mem_cons_self) List.not_mem_nil
  | x :: a, y :: b, ha, hb, h => by
    have h1 := List.pairwise_cons.mp ha
    have h2 := List.pairwise_cons.mp hb
    have e : x = y := by
      rcases List.mem_cons.mp ((h x).mp List.mem_cons_self) with e | m
      · exact e
      · rcases List.mem_cons.mp ((h y).mpr List.mem_cons_self) with e | m2
        · exact e.symm
        · have := h2.1 x m
          have := h1.1 y m2
          omega
    subst e
    rw [asc_uniq h1.2 h2.2 fun n => ?_]
    constructor
    · intro m
      rcases List.mem_cons.mp ((h n).mp (List.mem_cons_of_mem _ m)) with e | m2
      · have := h1.1 n m
        omega
      · exact m2
    · intro m
      rcases List.mem_cons.mp ((h n).mpr (List.mem_cons_of_mem _ m)) with e | m2
      · have := h2.1 n m
        omega
      · exact m2
theorem same_of {A : Int → Prop} {a b : List Int} (ha : a.Pairwise (· < ·)) (hb : b.Pairwise (· < ·)) (ia : ∀ n, n ∈ a ↔ A n) (ib : ∀ n, n ∈ b ↔ A n) : a = b := asc_uniq ha hb fun n => (ia n).trans (ib n).symm
theorem thing_src {t : Thing} {α : Arc} (h : α ∈ thingArcs t) : α.src.length ≤ 2 := by
  unfold thingArcs at h
  split at h
  · obtain ⟨p, _, e⟩ := List.mem_filterMap.mp h
    unfold slotArc at e
    split at e
    · cases e
      exact (show 1 ≤ 2 by decide)
    · cases e
  · split at h
    · obtain ⟨p, _, e⟩ := List.mem_filterMap.mp h
      unfold entryArc at e
      split at e
      · cases e
        exact Nat.le_refl 2
      · cases e
    · cases h
theorem arcs_src {s : Shot} {α : Arc} (h : α ∈ arcsOf s) : α.src.length ≤ 2 := by
  rcases List.mem_append.mp h with h | h
  · obtain ⟨r, _, rfl⟩ := List.mem_map.mp h
    exact (show 0 ≤ 2 by decide)
  · obtain ⟨t, _, ht⟩ := List.mem_flatMap.mp h
    exact thing_src ht
theorem filter_none (as : List Arc) : (as.filter fun α => decide (α.tgt ∉ ([] : List Int))) = as := List.filter_eq_self.mpr fun _ _ => by simp
/-! dicts of True -/
abbrev kTrue (met : List Int) : List (Key × V) := met.map fun n => (Sum.inl n, V.bl true)
theorem val_kTrue (n : Int) : ∀ met : List Int, (valV (kTrue met) (.inl n)).isSome = decide (n ∈ met)
  | [] => by simp [valV]
  | m :: met => by
    by_cases e : m = n
    · subst e
      show (valV ((Sum.inl m, V.bl true) :: kTrue met) (.inl m)).isSome = _
      rw [valV_pos rfl]
      simp
    · show (valV ((Sum.inl m, V.bl true) :: kTrue met) (.inl n)).isSome = _
      rw [valV_neg (fun q => e (Sum.inl.inj q)), val_kTrue n met]
      have : ¬ n = m := fun q => e q.symm
      simp [this]
theorem put_kTrue {n : Int} {met : List Int} (h : n ∉ met) : putK (kTrue met) (.inl n) (.bl true) = kTrue (met ++ [n]) := by
  have e : valV (kTrue met) (.inl n) = none := by
    have := val_kTrue n met
    rw [decide_eq_false h] at this
    cases q : valV (kTrue met) (.inl n) with
    | none => rfl
    | some v =>
      rw [q] at this
      cases this
  rw [putK_new _ e]
  show _ = (met ++ [n]).map _
  rw [List.map_append]
  rfl
def insT (met : List Int) (n : Int) : List Int := if n ∈ met then met else met ++ [n]
theorem put_ins (met : List Int) (n : Int) : putK (kTrue met) (.inl n) (.bl true) = kTrue (insT met n) := by
  unfold insT
  by_cases h : n ∈ met
  · rw [if_pos h]
    have e : (valV (kTrue met) (.inl n)).isSome = true := by
      rw [val_kTrue]
      exact decide_eq_true h
    unfold putK
    rw [valV_any, if_pos e]
    show (met.map fun n => ((Sum.inl n : Key), V.bl true)).map _ = _
    rw [List.map_map]
    refine List.map_congr_left fun m _ => ?_
    show (if (Sum.inl m : Key) = Sum.inl n then ((Sum.inl m : Key), V.bl true) else (Sum.inl m, V.bl true)) = _
    split <;> rfl
  · rw [if_neg h]
    exact put_kTrue h
theorem insT_mem {met : List Int} {n m : Int} : m ∈ insT met n ↔ m ∈ met ∨ m = n := by
  unfold insT
  by_cases h : n ∈ met
  · rw [if_pos h]
    constructor
    · exact .inl
    · rintro (q | q)
      · exact q
      · rw [q]
        exact h
  · rw [if_neg h, List.mem_append, List.mem_singleton]
theorem insT_nodup {met : List Int} {n : Int} (nd : met.Nodup) : (insT met n).Nodup := by
  unfold insT
  by_cases h : n ∈ met
  · rw [if_pos h]
    exact nd
  · rw [if_neg h, List.nodup_append]
    refine ⟨nd, by simp, fun a ha b hb e => ?_⟩
    rw [List.mem_singleton.mp hb] at e
    rw [e] at ha
    exact h ha
theorem insT_pre (met : List Int) (n : Int) : met <+: insT met n := by
  unfold insT
  split
  · exact List.prefix_refl _
  · exact List.prefix_append _ _
theorem insT_len (met : List Int) (n : Int) : (insT met n).length ≤ met.length + 1 := by
  unfold insT
  split
  · omega
  · rw [List.length_append, List.length_singleton]
    omega
/-! a list or a tuple -/
def SqA (K : PySem.W.Frag) (H : Hp) (a : Addr) (xs : List V) : Prop := SqL K H a xs ∨ SqT K H a xs
theorem SqA.ex {K : PySem.W.Frag} {H H' : Hp} {a : Addr} {xs : List V} (h : SqA K H a xs) (e : Ex H H') : SqA K H' a xs := h.imp (ex_l e) (ex_t e)
/-- over what is there from the beginning and stays -/
theorem for_seqA {K : PySem.W.Frag} {ta : TE} {g : TG} {tb : TS} {D : Ends} {σ : L2.St} {H0 H : Hp} {a : Addr} {xs : List V} (hq : SqA K H0 a xs) (Pv : Nat → L2.St → Hp → Prop) (hv : ∀ Q : VK, Q (.ref a) H → ta σ H Q) (h0 : Pv 0 σ H) (hl : ∀ i σ H, Pv i σ H → Ex H0 H)
    (hs : ∀ i x σ H, xs[i]? = some x → Pv i σ H → g x σ H fun σ2 H2 => tb { D with nx := Pv (i + 1), ct := Pv (i + 1), bk := D.nx } σ2 H2) (hd : ∀ σ H, Pv xs.length σ H → D.nx σ H) : tFor (iSeq K ta) g tb D σ H := by
  refine forS_of (hv _ ⟨a, rfl, ?_⟩)
  rcases hq with hq | hq
  · exact .inl ⟨⟨xs, ex_l (hl _ _ _ h0) hq⟩, for_list (K := K) (a := a) (xs := xs) Pv h0 (fun i σ H _ p => ex_l (hl _ _ _ p) hq) hs hd⟩
  · exact .inr ⟨⟨xs, ex_t (hl _ _ _ h0) hq⟩, for_tup (K := K) (a := a) (xs := xs) Pv h0 (fun i σ H _ p => ex_t (hl _ _ _ p) hq) hs hd⟩
theorem lc_seqA {K : PySem.W.Frag} {ta te : TE} {g : TG} {tt : TT} {vs : List Nat} {σ : L2.St} {H0 H : Hp} {a : Addr} {xs : List V} {Q : VK} (hq : SqA K H0 a xs) (e0 : Ex H0 H) (hv : ∀ Q : VK, Q (.ref a) H → ta σ H Q)
    (k : ∀ D, H D = none → ∃ Pv : Nat → Hp → Prop, Pv 0 (upd H D (.lst [])) ∧ (∀ i H, Pv i H → Ex H0 H) ∧
      (∀ i x H, xs[i]? = some x → Pv i H → g x (wipe σ vs) H fun σ2 H2 => wipe σ2 vs = wipe σ vs ∧ tt σ2 H2 fun b H3 => if b = true then te σ2 H3 fun y H4 => ∃ acc, H4 D = some (.lst acc) ∧ acc.length < sizeLine ∧ Pv (i + 1) (upd H4 D (.lst (acc ++ [y]))) else Pv (i + 1) H3) ∧
      ∀ H, Pv xs.length H → Q (.ref D) H) : tLc (iSeq K ta) g tt te vs σ H Q := by
  refine lc_of (hv _ ⟨a, rfl, ?_⟩)
  rcases hq with hq | hq
  · refine .inl ⟨⟨xs, ex_l e0 hq⟩, fun D hD => ?_⟩
    obtain ⟨Pv, h0, hl, hs, hd⟩ := k D hD
    exact lc_list (K := K) (a := a) (xs := xs) Pv h0 (fun i H _ p => ex_l (hl _ _ p) hq) hs hd
  · refine .inr ⟨⟨xs, ex_t e0 hq⟩, fun D hD => ?_⟩
    obtain ⟨Pv, h0, hl, hs, hd⟩ := k D hD
    exact lc_tup (K := K) (a := a) (xs := xs) Pv h0 (fun i H _ p => ex_t (hl _ _ p) hq) hs hd
end Sn
/-! what repr may show (as in SkFit, without what is drawn), and ints of many digits -/
namespace Sn
open PySem PySem.Spec PyProof.Rows L2 Evl Gd
/-- may be shown by repr: depth at most k, at most L signs -/
structure Fit (d : PyData) (k L : Nat) : Prop where
  sh : d.showable = true
  nd : d.hasDict = false
  dp : d.depth ≤ k
  ln : d.shown.length ≤ L
structure FitAll (ds : List PyData) (k L : Nat) : Prop where
  sh : PyData.showableAll ds = true
  nd : PyData.hasDictAll ds = false
  dp : PyData.depthAll ds ≤ k
  ln : piled (PyData.shownAll ds) ≤ L
theorem Fit.up {d : PyData} {k L k' L' : Nat} (h : Fit d k L) (a : k ≤ k') (b : L ≤ L') : Fit d k' L' := ⟨h.sh, h.nd, Nat.le_trans h.dp a, Nat.le_trans h.ln b⟩
theorem FitAll.nil {k L : Nat} : FitAll [] k L := ⟨rfl, rfl, Nat.zero_le _, Nat.zero_le _⟩
theorem FitAll.cons {d : PyData} {ds : List PyData} {k a b L : Nat} (h : Fit d k a) (g : FitAll ds k b) (e : a + 2 + b ≤ L) : FitAll (d :: ds) k L := by
  refine ⟨?_, ?_, ?_, ?_⟩
  · rw [PyData.showableAll, h.sh, g.sh]
    rfl
  · rw [PyData.hasDictAll, h.nd, g.nd]
    rfl
  · rw [PyData.depthAll]
    have := h.dp
    have := g.dp
    omega
  · rw [PyData.shownAll, piled_cons]
    have := h.ln
    have := g.ln
    omega
theorem FitAll.map {α : Type} {f : α → PyData} {k a : Nat} : ∀ {l : List α}, (∀ x ∈ l, Fit (f x) k a) → FitAll (l.map f) k ((a + 2) * l.length)
  | [], _ => .nil
  | x :: l, h => by
    refine FitAll.cons (h x List.mem_cons_self) (FitAll.map fun y hy => h y (List.mem_cons_of_mem _ hy)) ?_
    rw [List.length_cons, Nat.mul_succ]
    omega
theorem FitAll.up {ds : List PyData} {k L k' L' : Nat} (h : FitAll ds k L) (a : k ≤ k') (b : L ≤ L') : FitAll ds k' L' := ⟨h.sh, h.nd, Nat.le_trans h.dp a, Nat.le_trans h.ln b⟩
theorem FitAll.tup {ds : List PyData} {k L : Nat} (h : FitAll ds k L) : Fit (.tuple ds) (k + 1) (L + 2) := by
  refine ⟨?_, ?_, ?_, ?_⟩
  · rw [PyData.showable]
    exact h.sh
  · rw [PyData.hasDict]
    exact h.nd
  · rw [PyData.depth]
    have := h.dp
    omega
  · rw [PyData.shown]
    have := fmt_text (PyData.shownAll ds)
    have := h.ln
    omega
theorem FitAll.lst {ds : List PyData} {k L : Nat} (h : FitAll ds k L) : Fit (.list ds) (k + 1) (L + 3) := by
  refine ⟨?_, ?_, ?_, ?_⟩
  · rw [PyData.showable]
    exact h.sh
  · rw [PyData.hasDict]
    exact h.nd
  · rw [PyData.depth]
    have := h.dp
    omega
  · rw [PyData.shown]
    have h1 := listText_len_le (PyData.shownAll ds)
    have h2 := h.ln
    have h3 : ∀ ts : List Str, (ts.map (·.length)).sum + 2 * ts.length = piled ts := by
      intro ts
      induction ts with
      | nil => rfl
      | cons t ts ih =>
        rw [piled_cons, List.map_cons, List.sum_cons, List.length_cons, ← ih]
        omega
    rw [h3] at h1
    omega
theorem fit_int {i : Int} (h : 0 ≤ i ∧ i ≤ 1000) : Fit (.int i) 0 10 := by
  have hb : i.natAbs < 10 ^ 9 := by omega
  refine ⟨?_, rfl, Nat.le_refl _, int_len hb⟩
  have := ints_show [i] (fun m hm => by rw [List.mem_singleton.mp hm]; exact hb)
  rw [List.map_cons, List.map_nil, PyData.showableAll, PyData.showableAll, Bool.and_true] at this
  exact this
theorem fit_none : Fit .none 0 10 := ⟨rfl, rfl, Nat.le_refl _, by decide +kernel⟩
theorem fit_str {z : Str} {L : Nat} (h : (PyData.shown (.str z)).length ≤ L) : Fit (.str z) 0 L := ⟨rfl, rfl, Nat.le_refl _, h⟩
/-- an int below 10 ^ 120 -/
theorem fit_wide {i : Int} (h : i.natAbs < 10 ^ 120) : Fit (.int i) 0 121 := by
  refine ⟨?_, rfl, Nat.le_refl _, ?_⟩
  · rw [PyData.showable]
    refine decide_eq_true ?_
    by_cases z : i.natAbs = 0
    · rw [z]
      decide
    · exact Nat.lt_of_lt_of_le ((Nat.log2_lt z).mpr (Nat.lt_of_lt_of_le h (by decide : (10 : Nat) ^ 120 ≤ 2 ^ 400))) (by decide)
  · have e := int_text_length_le10 (a := i) (k := 120) (by decide) h
    rw [PyData.shown, PySem.ofString_length]
    exact e
/-- an int of at most three digits -/
theorem fit_small {i : Int} (h : -1000 ≤ i ∧ i ≤ 1000) : Fit (.int i) 0 10 := by
  have hb : i.natAbs < 10 ^ 9 := by omega
  refine ⟨?_, rfl, Nat.le_refl _, int_len hb⟩
  have := ints_show [i] (fun m hm => by rw [List.mem_singleton.mp hm]; exact hb)
  rw [List.map_cons, List.map_nil, PyData.showableAll, PyData.showableAll, Bool.and_true] at this
  exact this
theorem fit_ints {ns : List Int} (h : ∀ n ∈ ns, 0 ≤ n ∧ n ≤ 1000) (l : ns.length ≤ 1000) : Fit (.tuple (ns.map .int)) 1 12002 := (FitAll.map fun n hn => fit_int (h n hn)).tup.up (by decide) (by omega)
theorem rep_of {K : PySem.W.Frag} {x : V} {e : PyData} {H : Hp} {Q : VK} {k L : Nat} (h : Dp K H x e) (f : Fit e k L) (k1 : k ≤ 40) (l1 : L ≤ 90000) (q : Q (.str e.shown) H) : rReprD K [x] H Q :=
  ⟨x, e, rfl, h, f.sh, f.nd, Nat.le_trans f.dp k1, Nat.le_trans (Nat.le_trans f.ln l1) (by rw [sizeLine_eq]; decide), q⟩
end Sn
namespace Qw
open PySem PySem.Spec PyProof.Rows L2 Evl Gd
def topS (i : Nat) : Stmt := PySem.Challenge.pw_crossheaps_k68_rows_of_any_form.main.body.getD i (.Pass ⟨0, 0, 0, 0⟩)
abbrev sSource : Stmt := topS 43
abbrev sTake : Stmt := topS 44
abbrev sOf : Stmt := topS 45
abbrev nSource : List Str := ["_law_script", "_law_k", "_law_cell", "_law_own"]
abbrev nTake : List Str := ["_law_pot_here", "_law_many", "_law_digit", "_law_prime", "_law_mixed"]
abbrev nOf : List Str := ["_law_pot_here", "_law_some"]
theorem scSource : FnScope nSource ["_law_script", "_law_k"] (defScope sSource) := ⟨rfl, rfl, rfl, by decide +kernel, rfl, by decide +kernel, by decide +kernel⟩
theorem scTake : FnScope nTake ["_law_pot_here", "_law_many"] (defScope sTake) := ⟨rfl, rfl, rfl, by decide +kernel, rfl, by decide +kernel, by decide +kernel⟩
theorem scOf : FnScope nOf ["_law_pot_here", "_law_some"] (defScope sOf) := ⟨rfl, rfl, rfl, by decide +kernel, rfl, by decide +kernel, by decide +kernel⟩
def CPowW (i j : Int) : Prop := 0 ≤ j ∧ (Builtin.Int.intBits i : Int) * j ≤ bitsLine
theorem op_powW {X : Cx} : OpR X (binaryOp .Pow) (rI CPowW fun i j => .int (i ^ j.toNat)) := opI fun _ _ _ _ _ _ _ hc q => pow_int hc.1 hc.2 q
def big : Int := 1000000000000000000000000000000000000000000000000000000000000 ^ 5
/-- the pot of draws: at most n draws so far -/
def Pot (H : Hp) (d : Addr) (n : Int) : Prop := ∃ g b m : Int, H d = some (.lst [.int g, .int b, .int m]) ∧ 0 ≤ g ∧ g < big ∧ 0 ≤ b ∧ b < 2305843009213693952 ∧ 0 ≤ m ∧ m ≤ n
theorem Pot.up {H : Hp} {d : Addr} {n k : Int} (h : Pot H d n) (e : n ≤ k) : Pot H d k := by
  obtain ⟨g, b, m, h0, h1, h2, h3, h4, h5, h6⟩ := h
  exact ⟨g, b, m, h0, h1, h2, h3, h4, h5, by omega⟩
theorem Pot.ex {H H' : Hp} {d : Addr} {n : Int} (e : Evl.Ex H H') (h : Pot H d n) : Pot H' d n := by
  obtain ⟨g, b, m, h0, h⟩ := h
  exact ⟨g, b, m, e d _ h0, h⟩
/-- all but the pot stays -/
def Off (d : Addr) (H H' : Hp) : Prop := ∀ a o, a ≠ d → H a = some o → H' a = some o
theorem Off.refl (d : Addr) (H : Hp) : Off d H H := fun _ _ _ h => h
theorem Off.of {d : Addr} {H H' : Hp} (e : Evl.Ex H H') : Off d H H' := fun a o _ h => e a o h
theorem Off.trans {d : Addr} {H H1 H2 : Hp} (a : Off d H H1) (b : Off d H1 H2) : Off d H H2 := fun x o n h => b x o n (a x o n h)
theorem Off.upd {d : Addr} {H H' : Hp} {o : HO} (e : Off d H H') : Off d H (upd H' d o) := fun a u n h => by
  rw [upd_ne n]
  exact e a u n h
def spSource (K : PySem.W.Frag) : Sp := fun vs H Q _ => ∃ (a : Addr) (ns : List Int) (k : Int), vs = [.ref a, .int k] ∧ SqL K H a (ns.map V.int) ∧ ns.length ≤ 63 ∧ 0 ≤ k ∧ k ≤ 2 ∧
  ∀ H' d, Evl.Ex H H' → H d = none → Pot H' d 0 → Q (.ref d) H'
def spTake : Sp := fun vs H Q _ => ∃ (d : Addr) (n many : Int), vs = [.ref d, .int many] ∧ Pot H d n ∧ n ≤ 1000000 ∧ 0 < many ∧ many ≤ 1000000000000 ∧
  ∀ H' r, Off d H H' → Pot H' d (n + 1) → 0 ≤ r → r < many → Q (.int r) H'
section
variable {P : Program} {w : World} {K : PySem.W.Frag} {mg : Str → Option Value} {base : Heap}
theorem ok_source {f : Addr} {fd : FuncData} (F : Fun K "_law_pot" "_law_pot" sSource f fd) (mL : mg "len" = none) (mA : mg "abs" = none) (mI : mg "int" = none) : FnOk P w K mg base CX0 1 f fd ["_law_script", "_law_k"] (spSource K) := by
  refine F.ok scSource (fun vs H Q E h => ?_) (fun cdv A outer s H vs Q E hr h => ?_)
  · obtain ⟨a, ns, k, rfl, _⟩ := h
    rfl
  · obtain ⟨a, ns, k, rfl, hS, hz, h0, h2, q⟩ := h
    refine ⟨_, pss_cons (ps_set (i := 2) scSource.nd rfl (.inl rfl) (pe_ifExp (pt_cmpR op_lt (pv 1) (pe_callB call_len_seq (by rfl) mL PySem.boot_len (pa_cons (pv 0) pa_nil)) (nomark _)) (pe_ix ix_list (pv 0) (pv 1) (fun _ _ => rfl)) (pe_op op_add (pe_op op_mul pe_int (pv 1)) pe_int)))
      (pss_cons (ps_set (i := 3) scSource.nd rfl (.inl rfl) (pe_op op_mul (pe_op op_mod (pe_callB call_abs (by rfl) mA (by decide +kernel) (pa_cons (pv 2) pa_nil)) (pe_op op_powW (pe_op op_pow pe_int pe_int) pe_int))
          (pe_callTy call_int1 (by rfl) mI (by decide +kernel) (pa_cons (pe_cmpR op_ge (pe_callB call_abs (by rfl) mA (by decide +kernel) (pa_cons (pv 2) pa_nil)) (pe_op op_pow pe_int pe_int) (nomark _)) pa_nil))))
      (pss_one (ps_ret (pe_lst (pa_cons (pv 3) (pa_cons (pe_op op_mod (pe_op op_add (pe_op op_add (pe_op op_mul (pe_op op_mod (pv 2) pe_int) pe_int) (pe_op op_mul (pe_op op_mul pe_int (pv 1)) (pv 1))) pe_int) pe_int) (pa_cons pe_int pa_nil))))))), ?_⟩
    let c : Int := if h : k.toNat < ns.length then ns[k.toNat] else 31 * k + 18
    refine s_asg (i := 2) (v := .int c) (ev_if (et_test (ev_op (ev_var rfl) (ev_len (ev_var rfl) hS) rv_I0)) (fun hb => ?_) (fun hb => ?_)) fun H1 e1 => ?_
    · have hk : k < ((ns.map V.int).length : Int) := of_decide_eq_true hb
      rw [List.length_map] at hk
      have hk2 : k.toNat < ns.length := by omega
      refine ev_op (ev_var rfl) (ev_var rfl) (rv_ixL hS ?_)
      have e0 : k = ((k.toNat : Nat) : Int) := by omega
      rw [e0]
      refine atI_nat ?_
      rw [List.getElem?_map, List.getElem?_eq_getElem hk2]
      show some (V.int _) = some (V.int c)
      rw [show c = ns[k.toNat] from dif_pos hk2]
    · have hk : ¬ k < ((ns.map V.int).length : Int) := of_decide_eq_false hb
      rw [List.length_map] at hk
      rw [show c = 31 * k + 18 from dif_neg (by omega)]
      exact ev_op (ev_op ev_c (ev_var rfl) (rv_I (.inl ⟨by decide, by decide⟩))) ev_c rv_I0
    clear_value c
    have evAbs : ∀ H2 : Hp, Ev (tCB (fun xs H Q => ∃ i, xs = [V.int i] ∧ Q (.int (if i < 0 then -i else i)) H) (tCons (tVar 2) tNil)) ((L2.start nSource [V.ref a, V.int k]).set 2 (some (.int c))) H2 (.int (if c < 0 then -c else c)) :=
      fun H2 => ev_cb (ea_cons (ev_var rfl) ea_nil) fun H3 _ Q q => ⟨c, rfl, q H3 (Ex.refl H3)⟩
    let g : Int := (if c < 0 then -c else c) % big * (if decide ((10 : Int) ^ (18 : Int).toNat ≤ (if c < 0 then -c else c)) = true then 1 else 0)
    have hbig : (0 : Int) < big := by decide +kernel
    have hg : 0 ≤ g ∧ g < big := by
      have h1 := Int.emod_nonneg (if c < 0 then -c else c) (b := big) (by omega)
      have h2 := Int.emod_lt_of_pos (if c < 0 then -c else c) hbig
      show 0 ≤ _ * _ ∧ _ * _ < big
      generalize decide ((10 : Int) ^ (18 : Int).toNat ≤ (if c < 0 then -c else c)) = z
      cases z
      · rw [if_neg Bool.false_ne_true, Int.mul_zero]
        omega
      · rw [if_pos rfl, Int.mul_one]
        exact ⟨h1, h2⟩
    dsimp only
    refine st_seq (s_asg (i := 3) (v := .int g) (ev_op (ev_op (evAbs H1) (ev_op (ev_op ev_c ev_c (rv_I ⟨by decide, by decide, by decide⟩)) ev_c (rv_I ⟨by decide +kernel, by decide +kernel⟩)) (rv_I (by decide +kernel))) (ev_cb (ea_cons (ev_op (evAbs H1) (ev_op ev_c ev_c (rv_I ⟨by decide, by decide, by decide⟩)) rv_I0) ea_nil) fun H3 _ Q q => .inr ⟨_, rfl, q H3 (Ex.refl H3)⟩) (rv_I (.inr ?_))) fun H2 e2 => ?_)
    · generalize decide ((10 : Int) ^ (18 : Int).toNat ≤ (if c < 0 then -c else c)) = z
      cases z <;> decide
    clear_value g
    dsimp only
    let b : Int := (c % 2305843009213693951 * 69697 + 7577 * k * k + 59) % 2305843009213693921
    have hb1 := Int.emod_nonneg (c % 2305843009213693951 * 69697 + 7577 * k * k + 59) (b := 2305843009213693921) (by decide)
    have hb2 := Int.emod_lt_of_pos (c % 2305843009213693951 * 69697 + 7577 * k * k + 59) (b := 2305843009213693921) (by decide)
    refine s_retL (xs := [.int g, .int b, .int 0]) (el_lst (ea_cons (ev_var rfl) (ea_cons (ev_op (ev_op (ev_op (ev_op (ev_op (ev_var rfl) ev_c (rv_I (by decide))) ev_c (rv_I (.inr ⟨by decide, by decide⟩))) (ev_op (ev_op ev_c (ev_var rfl) (rv_I (.inl ⟨by decide, by decide⟩))) (ev_var rfl) (rv_I (.inr ⟨by omega, by omega⟩))) rv_I0) ev_c rv_I0) ev_c (rv_I (by decide))) (ea_cons ev_c ea_nil))) (by show 3 ≤ 100000; decide)) fun p H3 hp e3 h3 => ?_
    exact q H3 p ((e1.trans e2).trans e3) (fresh_back (e1.trans e2) hp) ⟨g, b, 0, h3, hg.1, hg.2, hb1, by omega, Int.le_refl 0, Int.le_refl 0⟩
theorem ok_take {f : Addr} {fd : FuncData} (F : Fun K "_law_take" "_law_take" sTake f fd) : FnOk P w K mg base CX0 1 f fd ["_law_pot_here", "_law_many"] spTake := by
  refine F.ok scTake (fun vs H Q E h => ?_) (fun cdv A outer s H vs Q E hr h => ?_)
  · obtain ⟨a, n, k, rfl, _⟩ := h
    rfl
  · obtain ⟨d, n, many, rfl, hP, hn, h0, h1, q⟩ := h
    refine ⟨_, pss_cons (ps_if (pt_cmpR op_gt (pe_ix ix_list (pv 0) pe_int (fun _ _ => rfl)) pe_int (nomark _))
        (pss_cons (ps_set (i := 2) scTake.nd rfl (.inl rfl) (pe_op op_mod (pe_ix ix_list (pv 0) pe_int (fun _ _ => rfl)) (pv 1)))
        (pss_cons (ps_asg (pe_op op_fdivW (pe_ix ix_list (pv 0) pe_int (fun _ _ => rfl)) (pv 1)) (pg_sub (pv 0) pe_int set_list))
        (pss_one (ps_ret (pv 2))))) pss_nil)
      (pss_cons (ps_asg (pe_op op_add (pe_ix ix_list (pv 0) pe_int (fun _ _ => rfl)) pe_int) (pg_sub (pv 0) pe_int set_list))
      (pss_cons (ps_set (i := 3) scTake.nd rfl (.inl rfl) (pe_ix ix_list (pe_lst (pa_cons pe_int (pa_cons pe_int (pa_cons pe_int (pa_cons pe_int pa_nil))))) (pe_op op_mod (pe_ix ix_list (pv 0) pe_int (fun _ _ => rfl)) pe_int) (fun _ _ => rfl)))
      (pss_cons (ps_set (i := 4) scTake.nd rfl (.inl rfl) (pe_op op_mod (pe_op op_pow (pe_op op_add (pe_op op_add (pe_ix ix_list (pv 0) pe_int (fun _ _ => rfl)) (pe_op op_mul (pe_op op_mul pe_int (pe_ix ix_list (pv 0) pe_int (fun _ _ => rfl))) (pe_ix ix_list (pv 0) pe_int (fun _ _ => rfl)))) pe_int) pe_int) (pv 3)))
      (pss_one (ps_ret (pe_op op_mod (pe_op op_fdiv (pe_op op_mod (pe_op op_mul (pv 4) (pe_op op_add (pe_op op_mod (pv 4) pe_int) (pe_op op_mul pe_int (pe_ix ix_list (pv 0) pe_int (fun _ _ => rfl))))) (pv 3)) pe_int) (pv 1))))))), ?_⟩
    obtain ⟨g, b, m, hd, hg0, hg1, hb0, hb1, hm0, hm1⟩ := hP
    have at0 : ∀ x y z : Int, atI [V.int x, .int y, .int z] 0 = some (.int x) := fun x y z => atI_nat (j := 0) rfl
    have at1 : ∀ x y z : Int, atI [V.int x, .int y, .int z] 1 = some (.int y) := fun x y z => atI_nat (j := 1) rfl
    have at2 : ∀ x y z : Int, atI [V.int x, .int y, .int z] 2 = some (.int z) := fun x y z => atI_nat (j := 2) rfl
    refine s_if (b := decide (0 < g)) (et_test (ev_op (ev_op (ev_var rfl) ev_c (rv_ixL (sq_of hd) (at0 _ _ _))) ev_c rv_I0)) (fun hb H1 e1 => ?_) (fun hb H1 e1 => ?_)
    · have hg : 0 < g := of_decide_eq_true hb
      have d1 := e1 d _ hd
      refine st_seq (s_asg (i := 2) (v := .int (g % many)) (ev_op (ev_op (ev_var rfl) ev_c (rv_ixL (sq_of d1) (at0 _ _ _))) (ev_var rfl) (rv_I h0)) fun H2 e2 => ?_)
      have d2 := e2 d _ d1
      dsimp only
      have wd : CDivW g many := wide_div h0 (b := 64) (by omega) (by decide) (by decide)
      refine st_seq (s_setL (j := 0) d2 (ev_op (ev_op (ev_var rfl) ev_c (rv_ixL (sq_of d2) (at0 _ _ _))) (ev_var rfl) (rv_I wd)) (ev_var rfl) ev_c (show 0 < 3 by decide) fun H3 e3 => ?_)
      dsimp only
      refine s_ret (v := .int (g % many)) (ev_var rfl) fun H4 e4 => ?_
      have h5 : Off d H H3 := Off.of ((e1.trans e2).trans e3)
      have nn := Int.ediv_nonneg hg0 (show 0 ≤ many by omega)
      have le : g / many ≤ g := Int.ediv_le_self many hg0
      refine q H4 _ ((h5.upd).trans (Off.of e4)) ⟨g / many, b, m, e4 d _ upd_same, nn, by omega, hb0, hb1, hm0, by omega⟩ (Int.emod_nonneg _ (by omega)) (Int.emod_lt_of_pos _ h0)
    · have d1 := e1 d _ hd
      dsimp only [tNext]
      refine st_seq (s_setL (j := 2) d1 (ev_op (ev_op (ev_var rfl) ev_c (rv_ixL (sq_of d1) (at2 _ _ _))) ev_c rv_I0) (ev_var rfl) ev_c (show 2 < 3 by decide) fun H3 e3 => ?_)
      dsimp only
      have d3 : (upd H3 d (.lst ([V.int g, .int b, .int m].set 2 (.int (m + 1))))) d = some (.lst [V.int g, .int b, .int (m + 1)]) := upd_same
      have o3 : Off d H (upd H3 d (.lst ([V.int g, .int b, .int m].set 2 (.int (m + 1))))) := (Off.of (e1.trans e3)).upd
      generalize upd H3 d (.lst ([V.int g, .int b, .int m].set 2 (.int (m + 1)))) = H3' at d3 o3 ⊢
      have m0 : (0 : Int) ≤ m + 1 := by omega
      have hn4 : ∃ p : Int, atI [V.int 2305843009213693951, .int 2305843009213693921, .int 2305843009213693907, .int 2305843009213693723] ((m + 1) % 4) = some (.int p) ∧ 0 < p ∧ p < 2305843009213693952 := by
        have l1 := Int.emod_nonneg (m + 1) (show (4 : Int) ≠ 0 by decide)
        have l2 := Int.emod_lt_of_pos (m + 1) (show (0 : Int) < 4 by decide)
        have cs : (m + 1) % 4 = 0 ∨ (m + 1) % 4 = 1 ∨ (m + 1) % 4 = 2 ∨ (m + 1) % 4 = 3 := by omega
        rcases cs with e | e | e | e <;> rw [e]
        · exact ⟨_, atI_nat (j := 0) rfl, by decide, by decide⟩
        · exact ⟨_, atI_nat (j := 1) rfl, by decide, by decide⟩
        · exact ⟨_, atI_nat (j := 2) rfl, by decide, by decide⟩
        · exact ⟨_, atI_nat (j := 3) rfl, by decide, by decide⟩
      obtain ⟨p, hp, p0, p1⟩ := hn4
      refine st_seq (s_asg (i := 3) (v := .int p) ?_ fun H4 e4 => ?_)
      · intro Ha ea Qa ka
        refine el_lst (ea_cons ev_c (ea_cons ev_c (ea_cons ev_c (ea_cons ev_c ea_nil)))) (by show 4 ≤ 100000; decide) Ha (Ex.refl Ha) _ fun l Hb _ eb hl => ?_
        have db := (ea.trans eb) d _ d3
        exact ⟨_, rfl, d, _, _, _, rfl, rfl, sq_of db, at2 _ _ _, m + 1, 4, rfl, rfl, (show (0 : Int) < 4 by decide), l, _, _, _, rfl, rfl, sq_of hl, hp, ka Hb eb⟩
      have d4 := e4 d _ d3
      dsimp only
      refine st_seq (s_asg (i := 4) (v := .int ((b + 104917 * (m + 1) * (m + 1) + 43) ^ (3 : Int).toNat % p)) (ev_op (ev_op (ev_op (ev_op (ev_op (ev_var rfl) ev_c (rv_ixL (sq_of d4) (at1 _ _ _))) (ev_op (ev_op ev_c (ev_op (ev_var rfl) ev_c (rv_ixL (sq_of d4) (at2 _ _ _))) (rv_I (.inl ⟨by decide, by decide⟩))) (ev_op (ev_var rfl) ev_c (rv_ixL (sq_of d4) (at2 _ _ _))) (rv_I (.inr ⟨by omega, by omega⟩))) rv_I0) ev_c rv_I0) ev_c (rv_I ⟨by decide, by decide, ?_⟩)) (ev_var rfl) (rv_I p0)) fun H5 e5 => ?_)
      · have t1 : (m + 1) * (m + 1) ≤ 1000001 * 1000001 := Int.mul_le_mul (by omega) (by omega) m0 (by decide)
        have t0 : 0 ≤ (m + 1) * (m + 1) := Int.mul_nonneg m0 m0
        have t2 : 104917 * (m + 1) * (m + 1) = 104917 * ((m + 1) * (m + 1)) := Int.mul_assoc _ _ _
        rw [t2]
        generalize (m + 1) * (m + 1) = z at t0 t1 ⊢
        omega
      generalize hy : (b + 104917 * (m + 1) * (m + 1) + 43) ^ (3 : Int).toNat % p = y
      have y0 : 0 ≤ y := by rw [← hy]; exact Int.emod_nonneg _ (by omega)
      have y1 : y < p := by rw [← hy]; exact Int.emod_lt_of_pos _ p0
      have d5 := e5 d _ d4
      dsimp only
      refine s_ret (v := .int (y * (y % 1000033 + 89 * (m + 1)) % p / 4111 % many)) (ev_op (ev_op (ev_op (ev_op (ev_var rfl) (ev_op (ev_op (ev_var rfl) ev_c (rv_I (by decide))) (ev_op ev_c (ev_op (ev_var rfl) ev_c (rv_ixL (sq_of d5) (at2 _ _ _))) (rv_I (.inl ⟨by decide, by decide⟩))) rv_I0) (rv_I (.inl ⟨by omega, by omega⟩))) (ev_var rfl) (rv_I p0)) ev_c (rv_I ⟨by decide, by decide⟩)) (ev_var rfl) (rv_I h0)) fun H7 e7 => ?_
      have e47 := (e4.trans e5).trans e7
      exact q H7 _ (o3.trans (Off.of e47)) ⟨g, b, m + 1, e47 d _ d3, hg0, hg1, hb0, hb1, m0, by omega⟩ (Int.emod_nonneg _ (by omega)) (Int.emod_lt_of_pos _ h0)
theorem Pot.ne {H : Hp} {d p : Addr} {n : Int} (h : Pot H d n) (hp : H p = none) : p ≠ d := fun e => by
  obtain ⟨g, b, m, h0, _⟩ := h
  rw [e, h0] at hp
  cases hp
theorem rd_take {σ : L2.St} {H : Hp} {E : XK} {td tm : TE} {d : Addr} {n many : Int} {Q : VK} (hd : Ev td σ H (.ref d)) (hm : Ev tm σ H (.int many)) (hP : Pot H d n) (h1 : n ≤ 1000000) (h2 : 0 < many) (h3 : many ≤ 1000000000000)
    (k : ∀ H' r, Off d H H' → Pot H' d (n + 1) → 0 ≤ r → r < many → Q (.int r) H') : tCall spTake [] E (tCons td (tCons tm tNil)) σ H Q := by
  refine hd H (Ex.refl H) _ fun H1 e1 => hm H1 e1 _ fun H2 e2 => ?_
  exact ⟨d, n, many, rfl, hP.ex (e1.trans e2), h1, h2, h3, fun H' r o p a b => k H' r ((Off.of (e1.trans e2)).trans o) p a b⟩
/-- one of a list's items -/
def spOf : Sp := fun vs H Q _ => ∃ (d l : Addr) (n : Int) (xs : List V), vs = [.ref d, .ref l] ∧ Pot H d n ∧ n ≤ 1000000 ∧ l ≠ d ∧ H l = some (.lst xs) ∧ 0 < xs.length ∧ xs.length ≤ 1000 ∧
  ∀ H' x, x ∈ xs → Off d H H' → Pot H' d (n + 1) → Q x H'
theorem ok_of {f fT : Addr} {fd fdT : FuncData} (F : Fun K "_law_of" "_law_of" sOf f fd) (FT : Fun K "_law_take" "_law_take" sTake fT fdT) (bT : Binds K fdT ["_law_pot_here", "_law_many"] []) (gT : mg "_law_take" = some (.ref fT)) (mL : mg "len" = none) :
    FnOk P w K mg base CX0 2 f fd ["_law_pot_here", "_law_some"] spOf := by
  have GT : FnOk P w K mg base CX0 1 fT fdT ["_law_pot_here", "_law_many"] spTake := ok_take FT
  refine F.ok scOf (fun vs H Q E h => ?_) (fun cdv A outer s H vs Q E hr h => ?_)
  · obtain ⟨d, l, n, xs, rfl, _⟩ := h
    rfl
  · obtain ⟨d, l, n, xs, rfl, hP, hn, ne, hl, z0, z1, q⟩ := h
    refine ⟨_, pss_one (ps_ret (pe_ix ix_list (pv 1) (pe_call GT hr (by rfl) gT FT.kp bT .nil pass0 (pa_cons (pv 0) (pa_cons (pe_callB call_len_seq (by rfl) mL PySem.boot_len (pa_cons (pv 1) pa_nil)) pa_nil))) (fun _ _ => rfl))), ?_⟩
    refine ⟨_, rfl, ?_⟩
    refine rd_take (ev_var rfl) (ev_len (ev_var rfl) (sq_of hl)) hP hn (by omega) (by omega) fun H1 r o p r0 r1 => ?_
    obtain ⟨j, rfl⟩ : ∃ j : Nat, r = j := ⟨r.toNat, by omega⟩
    have jn : j < xs.length := by omega
    exact ⟨l, xs, j, _, rfl, rfl, sq_of (o l _ ne hl), atI_nat (List.getElem?_eq_getElem jn), q H1 _ (List.getElem_mem jn) o p⟩
end
end Qw
/-! any word of ASCII signs: what is a name, a number, a value, a place, as the signs say -/
namespace Qw
open PySem PySem.Spec PyProof.Rows L2 Evl Gd
def low (c : Nat) : Bool := decide (97 ≤ c) && decide (c ≤ 122)
def upp (c : Nat) : Bool := decide (65 ≤ c) && decide (c ≤ 90)
def dig (c : Nat) : Bool := decide (48 ≤ c) && decide (c ≤ 57)
/-- its signs are ASCII -/
def Asc (l : List Nat) : Prop := ∀ c ∈ l, c < 128
theorem ascii_signs : ∀ c : Fin 128, Unicode.isAlpha c.val = (low c.val || upp c.val) ∧ Unicode.isLower c.val = low c.val ∧ Unicode.isUpper c.val = upp c.val ∧ Unicode.isTitle c.val = false ∧ Unicode.isDigit c.val = dig c.val := by decide +kernel
theorem sign {c : Nat} (h : c < 128) : Unicode.isAlpha c = (low c || upp c) ∧ Unicode.isLower c = low c ∧ Unicode.isUpper c = upp c ∧ Unicode.isTitle c = false ∧ Unicode.isDigit c = dig c := ascii_signs ⟨c, h⟩
theorem low_upp {c : Nat} (h : low c = true) : upp c = false := by
  unfold low at h
  rw [Bool.and_eq_true] at h
  have h1 := of_decide_eq_true h.1
  unfold upp
  rw [decide_eq_false (show ¬ c ≤ 90 by omega), Bool.and_false]
theorem Asc.tail {c : Nat} {l : List Nat} (h : Asc (c :: l)) : Asc l := fun d hd => h d (List.mem_cons_of_mem _ hd)
theorem all_sign {p q : Nat → Bool} : ∀ {l : List Nat}, Asc l → (∀ c, c < 128 → p c = q c) → l.all p = l.all q
  | [], _, _ => rfl
  | c :: l, h, e => by rw [List.all_cons, List.all_cons, e c (h c List.mem_cons_self), all_sign h.tail e]
theorem any_sign {p q : Nat → Bool} : ∀ {l : List Nat}, Asc l → (∀ c, c < 128 → p c = q c) → l.any p = l.any q
  | [], _, _ => rfl
  | c :: l, h, e => by rw [List.any_cons, List.any_cons, e c (h c List.mem_cons_self), any_sign h.tail e]
variable {w : Str}
theorem isascii_is (h : Asc (TL.tl w)) : Txt.isascii w = true := by
  unfold Txt.isascii
  rw [← Array.all_toList, List.all_eq_true]
  exact fun c hc => decide_eq_true (h c hc)
theorem isalpha_is (h : Asc (TL.tl w)) : Txt.isalpha w = (decide (TL.tl w ≠ []) && (TL.tl w).all fun c => low c || upp c) := by
  unfold Txt.isalpha
  rw [← Array.all_toList, all_sign (q := fun c => low c || upp c) h fun c hc => (sign hc).1]
  congr 1
  have := TL.len_tl w
  refine decide_eq_decide.mpr ⟨fun z e => ?_, fun z => ?_⟩
  · rw [e] at this
    have : w.length = 0 := this
    omega
  · have := List.length_pos_iff.mpr z
    omega
theorem isdigit_is (h : Asc (TL.tl w)) : Txt.isdigit w = (decide (TL.tl w ≠ []) && (TL.tl w).all dig) := by
  unfold Txt.isdigit
  rw [← Array.all_toList, all_sign (q := dig) h fun c hc => (sign hc).2.2.2.2]
  congr 1
  have := TL.len_tl w
  refine decide_eq_decide.mpr ⟨fun z e => ?_, fun z => ?_⟩
  · rw [e] at this
    have : w.length = 0 := this
    omega
  · have := List.length_pos_iff.mpr z
    omega
theorem islower_is (h : Asc (TL.tl w)) : Txt.islower w = ((TL.tl w).any low && !(TL.tl w).any upp) := by
  unfold Txt.islower
  rw [← Array.any_toList, ← Array.any_toList]
  have e1 : w.cps.toList.any Unicode.isLower = (TL.tl w).any low := any_sign h fun c hc => (sign hc).2.1
  have e2 : (w.cps.toList.any fun c => Unicode.isUpper c || Unicode.isTitle c) = (TL.tl w).any upp := any_sign h fun c hc => by
    show (Unicode.isUpper c || Unicode.isTitle c) = upp c
    rw [(sign hc).2.2.1, (sign hc).2.2.2.1, Bool.or_false]
  rw [e1, e2]
/-! ### names -/
/-- letters, the first of either size, the rest small -/
def nameL : List Nat → Bool
  | [] => false
  | c :: l => (low c || upp c) && l.all low
theorem steps_low : ∀ {l : List Nat}, Asc l → l.all (fun c => low c || upp c) = true → (l.foldl titleStep (some (true, true))).any (·.2) = l.all low
  | [], _, _ => rfl
  | c :: l, h, a => by
    rw [List.all_cons, Bool.and_eq_true] at a
    obtain ⟨s1, s2, s3, s4, s5⟩ := sign (h c List.mem_cons_self)
    rw [List.foldl_cons, List.all_cons]
    cases z : low c with
    | true =>
      have : titleStep (some (true, true)) c = some (true, true) := by
        unfold titleStep
        simp [s2, s3, s4, z, low_upp z]
      rw [this, steps_low h.tail a.2, Bool.true_and]
    | false =>
      have u : upp c = true := by
        rw [z, Bool.false_or] at a
        exact a.1
      have n : titleStep (some (true, true)) c = none := by
        unfold titleStep
        simp [s2, s3, s4, z, u]
      rw [n, Bool.false_and]
      have all : ∀ l : List Nat, l.foldl titleStep none = none := fun l => by
        induction l with
        | nil => rfl
        | cons c l ih => rw [List.foldl_cons]; exact ih
      rw [all]
      rfl
theorem istitle_is {c : Nat} {l : List Nat} (h : Asc (c :: l)) (a : (c :: l).all (fun c => low c || upp c) = true) (e : TL.tl w = c :: l) (u : upp c = true) : Txt.istitle w = l.all low := by
  unfold Txt.istitle
  rw [← Array.foldl_toList]
  have e' : w.cps.toList = c :: l := e
  rw [List.all_cons, Bool.and_eq_true] at a
  obtain ⟨s1, s2, s3, s4, s5⟩ := sign (h c List.mem_cons_self)
  rw [e', List.foldl_cons]
  have : titleStep (some (false, false)) c = some (true, true) := by
    unfold titleStep
    simp [s2, s3, s4, u]
  rw [this, steps_low h.tail a.2]
theorem low_any {l : List Nat} (a : l.all (fun c => low c || upp c) = true) : (!l.any upp) = l.all low := by
  induction l with
  | nil => rfl
  | cons c l ih =>
    rw [List.all_cons, Bool.and_eq_true] at a
    rw [List.any_cons, List.all_cons, Bool.not_or, ih a.2]
    cases z : low c with
    | true => rw [low_upp z]; rfl
    | false =>
      have u : upp c = true := by
        have := a.1
        rw [z, Bool.false_or] at this
        exact this
      rw [u]
      rfl
/-- the program's look at a name: letters, ASCII, all small or a title -/
theorem name_is (h : Asc (TL.tl w)) : (Txt.isalpha w && (Txt.isascii w && (Txt.islower w || Txt.istitle w))) = nameL (TL.tl w) := by
  rw [isalpha_is h, isascii_is h, islower_is h, Bool.true_and]
  cases e : TL.tl w with
  | nil => rfl
  | cons c l =>
    rw [e] at h
    rw [decide_eq_true (List.cons_ne_nil c l), Bool.true_and]
    show _ = ((low c || upp c) && l.all low)
    cases a : (c :: l).all fun c => low c || upp c with
    | false =>
      rw [Bool.false_and]
      rw [List.all_cons] at a
      cases z : low c || upp c with
      | false => rfl
      | true =>
        rw [z, Bool.true_and] at a
        cases y : l.all low with
        | false => rfl
        | true =>
          have : l.all (fun c => low c || upp c) = true := List.all_eq_true.mpr fun d hd => by rw [List.all_eq_true.mp y d hd]; rfl
          rw [this] at a
          cases a
    | true =>
      rw [Bool.true_and, low_any a]
      have a' := a
      rw [List.all_cons, Bool.and_eq_true] at a'
      rw [a'.1, Bool.true_and]
      cases z : low c with
      | true =>
        rw [List.any_cons, z, Bool.true_or, Bool.true_and, List.all_cons, z, Bool.true_and]
        cases y : l.all low with
        | true => rfl
        | false =>
          rw [Bool.false_or]
          unfold Txt.istitle
          rw [← Array.foldl_toList]
          have e' : w.cps.toList = c :: l := e
          obtain ⟨s1, s2, s3, s4, s5⟩ := sign (h c List.mem_cons_self)
          rw [e', List.foldl_cons]
          have n : titleStep (some (false, false)) c = none := by
            unfold titleStep
            simp [s2, s3, s4, z, low_upp z]
          have all : ∀ l : List Nat, l.foldl titleStep none = none := fun l => by
            induction l with
            | nil => rfl
            | cons c l ih => rw [List.foldl_cons]; exact ih
          rw [n, all]
          rfl
      | false =>
        have u : upp c = true := by
          have := a'.1
          rw [z, Bool.false_or] at this
          exact this
        rw [istitle_is h a e u, List.all_cons, z, Bool.false_and, Bool.and_false, Bool.false_or]
/-! ### numbers -/
theorem dig_iff {c : Nat} : dig c = true ↔ 48 ≤ c ∧ c ≤ 57 := by
  unfold dig
  rw [Bool.and_eq_true, decide_eq_true_iff, decide_eq_true_iff]
theorem num_dig (n : Nat) : (TL.numL n).all dig = true := List.all_eq_true.mpr fun c hc => dig_iff.mpr (TL.numL_digits n c hc)
/-- signs of a number without idle zeros -/
theorem num_of : ∀ (k : Nat) {c : Nat} {l : List Nat}, l.length ≤ k → (c :: l).all dig = true → c ≠ 48 → ∃ n, (c :: l) = TL.numL n ∧ 0 < n := by
  intro k
  induction k with
  | zero =>
    intro c l hl a hc
    obtain rfl : l = [] := List.eq_nil_of_length_eq_zero (by omega)
    rw [List.all_cons, Bool.and_eq_true] at a
    have := dig_iff.mp a.1
    refine ⟨c - 48, ?_, by omega⟩
    rw [TL.numL_lt (by omega), show 48 + (c - 48) = c by omega]
  | succ k ih =>
    intro c l hl a hc
    rcases List.eq_nil_or_concat l with rfl | ⟨r, e, rfl⟩
    · rw [List.all_cons, Bool.and_eq_true] at a
      have := dig_iff.mp a.1
      refine ⟨c - 48, ?_, by omega⟩
      rw [TL.numL_lt (by omega), show 48 + (c - 48) = c by omega]
    · rw [List.concat_eq_append] at hl a ⊢
      rw [List.length_append, List.length_singleton] at hl
      rw [show c :: (r ++ [e]) = (c :: r) ++ [e] from rfl, List.all_append, Bool.and_eq_true] at a
      obtain ⟨n, hn, pos⟩ := ih (by omega) a.1 hc
      have he := dig_iff.mp (by
        have := a.2
        rw [List.all_cons, Bool.and_eq_true] at this
        exact this.1)
      refine ⟨10 * n + (e - 48), ?_, by omega⟩
      rw [TL.numL_step (by omega), show (10 * n + (e - 48)) / 10 = n by omega, show (10 * n + (e - 48)) % 10 = e - 48 by omega, ← hn, show 48 + (e - 48) = e by omega]
      rfl
/-- a number as it is written, m at most -/
def NumW (l : List Nat) (m : Nat) : Prop := ∃ n, n ≤ m ∧ l = TL.numL n
theorem num_zero : TL.numL 0 = [48] := TL.numL_lt (by decide)
theorem num_head {n : Nat} : ∃ c l, TL.numL n = c :: l ∧ (c = 48 → n = 0) := by
  induction n using Nat.strongRecOn with
  | _ n ih =>
    by_cases h : n < 10
    · exact ⟨48 + n, [], TL.numL_lt h, fun e => by omega⟩
    · obtain ⟨c, l, e, z⟩ := ih (n / 10) (by omega)
      refine ⟨c, l ++ [48 + n % 10], by rw [TL.numL_step (by omega), e]; rfl, fun hc => ?_⟩
      have := z hc
      omega
/-- written as a number, or no number at all -/
theorem canon {l : List Nat} (ne : l ≠ []) (a : l.all dig = true) : (l.head? ≠ some 48 ∨ l = [48]) ↔ ∃ n, l = TL.numL n := by
  constructor
  · rintro (h | rfl)
    · cases l with
      | nil => exact absurd rfl ne
      | cons c l =>
        obtain ⟨n, e, _⟩ := num_of l.length (Nat.le_refl _) a (fun z => h (by rw [z]; rfl))
        exact ⟨n, e⟩
    · exact ⟨0, num_zero.symm⟩
  · rintro ⟨n, rfl⟩
    obtain ⟨c, l, e, z⟩ := num_head (n := n)
    by_cases hc : c = 48
    · right
      rw [z hc, num_zero]
    · left
      rw [e]
      exact fun x => hc (Option.some.inj x)
theorem num_big {n k : Nat} (h : 10 ^ k ≤ n) : k < (TL.numL n).length := by
  induction k generalizing n with
  | zero => exact List.length_pos_iff.mpr (TL.numL_ne n)
  | succ k ih =>
    have h10 : 10 ≤ n := by
      have : 10 ^ 1 ≤ 10 ^ (k + 1) := Nat.pow_le_pow_right (by decide) (by omega)
      omega
    rw [TL.numL_step h10, List.length_append, List.length_singleton]
    have := ih (n := n / 10) (by
      rw [Nat.pow_succ] at h
      omega)
    omega
end Qw
/-! a dict of the top with text keys: any text is a key or none -/
namespace Gd
open PySem PySem.Spec PyProof.Rows L2
theorem keys_find {P : Params} {z : Str} : ∀ {l : List DictEntry} {ks : List Str}, l.map He.keyOf = He.keysIn P ks → (l.find? (·.key.isStr z)).isSome = decide (z ∈ ks) ∧ l.any (·.refKey) = false
  | [], [], _ => ⟨by simp, rfl⟩
  | [], k :: ks, h => by cases h
  | e :: r, [], h => by cases h
  | e :: r, k :: ks, h => by
    have h1 : He.keyOf e :: r.map He.keyOf = some (k, PyData.keyHash P k) :: He.keysIn P ks := h
    injection h1 with h2 h3
    obtain ⟨i1, i2⟩ := keys_find (z := z) h3
    unfold He.keyOf at h2
    split at h2
    · rename_i x t q
      have h4 := Option.some.inj h2
      obtain ⟨h5, h6⟩ := Prod.mk.inj h4
      subst h5
      refine ⟨?_, ?_⟩
      · by_cases c : x = z
        · subst c
          rw [List.find?_cons_of_pos (by rw [q]; show ((x == x) = true); exact beq_self_eq_true x)]
          simp
        · rw [List.find?_cons_of_neg (by rw [q]; show ¬ ((x == z) = true); exact fun y => c (eq_of_beq y)), i1]
          have : (z ∈ x :: ks) = (z ∈ ks) := by
            apply propext
            rw [List.mem_cons]
            exact ⟨fun y => y.resolve_left fun e => c e.symm, .inr⟩
          simp only [this]
      · rw [List.any_cons, i2, Bool.or_false]
        show DictEntry.refKey e = false
        unfold DictEntry.refKey
        rw [q]
    · cases h2
theorem dic_ns {K : PySem.W.Frag} {w : World} {a : Addr} {ks : List Str} (h : He.dicW K a = some (He.keysIn w.params ks)) (z : Str) : ∃ r, PySem.W.nsIn K a z = some r ∧ r.isSome = decide (z ∈ ks) := by
  unfold He.dicW at h
  unfold PySem.W.nsIn
  cases q : K.lookup a with
  | none =>
    rw [q] at h
    cases h
  | some o =>
    obtain ⟨oc, od, dt, osl⟩ := o
    rw [q] at h
    cases oc with
    | type c =>
      cases od with
      | none =>
        cases dt with
        | dict es n =>
          have h1 : (match decide (c = "dict") && (osl.isEmpty && !(a == sysModules)) with
            | true => some (es.toList.map He.keyOf)
            | false => none) = some (He.keysIn w.params ks) := h
          cases zz : decide (c = "dict") && (osl.isEmpty && !(a == sysModules)) with
          | false =>
            rw [zz] at h1
            cases h1
          | true =>
            rw [zz] at h1
            obtain ⟨f1, f2⟩ := keys_find (z := z) (Option.some.inj h1)
            show ∃ r, (match es.toList.find? (·.key.isStr z) with
              | some e => some (some e.val)
              | none => if es.toList.any (·.refKey) then none else some none) = some r ∧ r.isSome = decide (z ∈ ks)
            cases y : es.toList.find? (·.key.isStr z) with
            | some e =>
              rw [y] at f1
              exact ⟨_, rfl, f1⟩
            | none =>
              rw [y] at f1
              refine ⟨none, ?_, f1⟩
              show (if es.toList.any (·.refKey) = true then none else some none) = some none
              rw [f2, if_neg Bool.false_ne_true]
        | _ => cases h
      | some b => cases dt <;> cases h
    | _ => cases od <;> cases dt <;> cases h
end Gd
/-! the forms' words, any: is_name, is_local, whole_of, number_of -/
namespace Qw
open PySem PySem.Spec PyProof.Rows L2 Evl Gd Sn
abbrev sIsName : Stmt := topS 16
abbrev sIsLocal : Stmt := topS 17
abbrev sWhole : Stmt := topS 18
abbrev sNumber : Stmt := topS 19
abbrev sValue : Stmt := topS 20
abbrev sSlot : Stmt := topS 21
abbrev nIsName : List Str := ["word"]
abbrev nWhole : List Str := ["word", "digits"]
abbrev nNumber : List Str := ["word", "most", "number"]
abbrev nValue : List Str := ["word", "number"]
abbrev nSlot : List Str := ["word", "name", "_", "slot"]
theorem scIsName : FnScope nIsName ["word"] (defScope sIsName) := ⟨rfl, rfl, rfl, by decide +kernel, rfl, by decide +kernel, by decide +kernel⟩
theorem scIsLocal : FnScope nIsName ["word"] (defScope sIsLocal) := ⟨rfl, rfl, rfl, by decide +kernel, rfl, by decide +kernel, by decide +kernel⟩
theorem scWhole : FnScope nWhole ["word", "digits"] (defScope sWhole) := ⟨rfl, rfl, rfl, by decide +kernel, rfl, by decide +kernel, by decide +kernel⟩
theorem scNumber : FnScope nNumber ["word", "most"] (defScope sNumber) := ⟨rfl, rfl, rfl, by decide +kernel, rfl, by decide +kernel, by decide +kernel⟩
theorem scValue : FnScope nValue ["word"] (defScope sValue) := ⟨rfl, rfl, rfl, by decide +kernel, rfl, by decide +kernel, by decide +kernel⟩
theorem scSlot : FnScope nSlot ["word"] (defScope sSlot) := ⟨rfl, rfl, rfl, by decide +kernel, rfl, by decide +kernel, by decide +kernel⟩
theorem mt_istitle {X : Cx} : MtR X "str.istitle" (fun x xs H Q => ∃ a, x = .str a ∧ xs = [] ∧ True ∧ Q (.bl (Txt.istitle a)) H) := mt0 fun x _ s _ _ h => PySem.SC.istitle (h (PySem.Value.bool (PySem.Txt.istitle x)) s.toks rfl)
theorem m0_of {r : V → List V → Hp → VK → Prop} {to : TE} {σ : L2.St} {H : Hp} {Q : VK} (h : to σ H fun x H1 => (∃ a, x = V.str a) ∧ r x [] H1 Q) : tM0 r to σ H Q := h
theorem m1_of {r : V → List V → Hp → VK → Prop} {to te : TE} {σ : L2.St} {H : Hp} {Q : VK} (h : to σ H fun x H1 => (∃ a, x = V.str a) ∧ te σ H1 fun y H2 => r x [y] H2 Q) : tM1 r to te σ H Q := h
theorem orv_of {ta tb : TE} {σ : L2.St} {H : Hp} {Q : VK} (h : ta σ H fun x H1 => ∃ c, x = .bl c ∧ if c = true then Q (.bl true) H1 else tb σ H1 Q) : tOrV ta tb σ H Q := h
theorem slS_of {r : V → Option Int → Option Int → Hp → VK → Prop} {te tl : TE} {σ : L2.St} {H : Hp} {Q : VK} (h : te σ H fun x H1 => tl σ H1 fun y H2 => ∃ i, y = .int i ∧ r x (some i) none H2 Q) : tSl r te (tPart tl) tNoPart σ H Q := h
theorem un_of {r : V → Hp → VK → Prop} {ta : TE} {σ : L2.St} {H : Hp} {Q : VK} (h : ta σ H fun x H1 => r x H1 Q) : tUn r ta σ H Q := h
/-- a word: ASCII signs, not too many -/
structure Wd (w : Str) : Prop where
  asc : Asc (TL.tl w)
  few : w.length ≤ 99000
def takenL : List Str := ["none", "get", "at", "is", "then", "record", "weak", "map", "counted", "traced", "let", "drop", "hold", "release", "pin", "unpin", "say", "if", "else", "end", "repeat", "proc", "do", "minor", "rings", "begin", "slice", "compact", "finalize", "settle"]
/-- the tables and bounds of the forms that words are asked of -/
structure Tb (K : PySem.W.Frag) (w : World) (mg : Str → Option Value) (dT dS : Addr) : Prop where
  letters : ∃ t, mg "MOST_LETTERS" = some (.int 8 t)
  digits : ∃ t, mg "MOST_DIGITS" = some (.int 10 t)
  most : ∃ t, mg "MOST_VALUE" = some (.int 1000000000 t)
  taken : mg "TAKEN" = some (.ref dT)
  tk : ∃ es n, KDict K w dT es n
  tn : ∀ z, ∃ r, PySem.W.nsIn K dT z = some r ∧ r.isSome = decide (z ∈ takenL)
  slots : mg "SLOTS" = some (.ref dS)
  sl : ∃ es n, KDict K w dS es n
  sn : ∀ m : Fin 6, ∃ t, PySem.W.nsIn K dS (Str.ofString (toString ((m.val : Nat) : Int))) = some (some (.int m.val t))
  so : ∀ z, ∃ r, PySem.W.nsIn K dS z = some r ∧ r.isSome = decide (z ∈ (["0", "1", "2", "3", "4", "5"] : List Str))
def nameB (w : Str) : Bool := decide (w.length ≤ 8) && (!decide (w ∈ takenL) && nameL (TL.tl w))
def localB (w : Str) : Bool := nameB w && (TL.tl w).all low
def spIsName : Sp := fun vs H Q _ => ∃ w : Str, vs = [.str w] ∧ Wd w ∧ Q (.bl (nameB w)) H
def spIsLocal : Sp := fun vs H Q _ => ∃ w : Str, vs = [.str w] ∧ Wd w ∧ Q (.bl (localB w)) H
def spWhole : Sp := fun vs H Q _ => ∃ w : Str, vs = [.str w, .int 10] ∧ Wd w ∧ (∀ n : Nat, n < 10000000000 → TL.tl w = TL.numL n → Q (.int n) H) ∧ ((¬ ∃ n, n < 10000000000 ∧ TL.tl w = TL.numL n) → Q .non H)
def spNumber : Sp := fun vs H Q _ => ∃ (w : Str) (m : Nat), vs = [.str w, .int m] ∧ m ≤ 1000000000 ∧ Wd w ∧ (∀ n : Nat, n ≤ m → TL.tl w = TL.numL n → Q (.int n) H) ∧ (¬ NumW (TL.tl w) m → Q .non H)
section
variable {P : Program} {w : World} {K : PySem.W.Frag} {mg : Str → Option Value} {base : Heap} {dT dS : Addr}
theorem ok_isname {f : Addr} {fd : FuncData} (F : Fun K "is_name" "is_name" sIsName f fd) (T : Tb K w mg dT dS) (mL : mg "len" = none) : FnOk P w K mg base CX0 1 f fd ["word"] spIsName := by
  obtain ⟨t8, g8⟩ := T.letters
  obtain ⟨es, n, kd⟩ := T.tk
  refine F.ok scIsName (fun vs H Q E h => ?_) (fun cdv A outer s H vs Q E hr h => ?_)
  · obtain ⟨w, rfl, _⟩ := h
    rfl
  · obtain ⟨w', rfl, wd, q⟩ := h
    have hu := hu_of hr
    have few := wd.few
    refine ⟨_, pss_cons (ps_if (pw_or (pt_cmpR op_gt (pe_callB call_len_str (by rfl) mL PySem.boot_len (pa_cons (pv 0) pa_nil)) (pe_glob (v := .int 8) (by rfl) g8 ⟨t8, rfl⟩) (nomark _)) (pw_or1 (pt_cmpR (op_in_kd kd) (pv 0) (pe_glob (v := .ref dT) (by rfl) T.taken rfl) (by rfl)))).pt (pss_one (ps_ret pe_bl)) pss_nil) <|
      pss_one (ps_ret (pe_and (pe_m0 PySem.F.slot_str_isalpha PySem.F.type_str_isalpha mt_isalpha (pv 0)) (pe_and (pe_m0 PySem.F.slot_str_isascii PySem.F.type_str_isascii mt_isascii (pv 0)) (pe_one (pe_or (pe_m0 PySem.F.slot_str_islower PySem.F.type_str_islower mt_islower (pv 0)) (pe_one (pe_m0 PySem.F.slot_str_istitle PySem.F.type_str_istitle mt_istitle (pv 0)))))))), ?_⟩
    obtain ⟨r, e1, e2⟩ := T.tn w'
    refine seq_of (ifS_of (or_of (test_of (op_of (cb_of (c_of (v_of rfl (n_of ⟨_, rfl, by rw [sizeLine_eq]; omega, k_of ⟨_, _, rfl, rfl, _, rfl, ?_⟩⟩))))))))
    by_cases l8 : w'.length ≤ 8
    · rw [decide_eq_false (by omega), if_neg Bool.false_ne_true]
      refine test_of (op_of (v_of rfl (k_of ⟨_, _, rfl, rfl, e1, _, rfl, ?_⟩)))
      rw [e2]
      by_cases tk : w' ∈ takenL
      · rw [if_pos (decide_eq_true tk)]
        refine ret_of (k_of ?_)
        unfold nameB at q
        rw [decide_eq_true tk, Bool.not_true, Bool.false_and, Bool.and_false] at q
        exact q
      · rw [if_neg (by rw [decide_eq_false tk]; exact Bool.false_ne_true)]
        unfold nameB at q
        rw [decide_eq_true l8, decide_eq_false tk, Bool.not_false, Bool.true_and, Bool.true_and, ← name_is wd.asc] at q
        dsimp only [tNext]
        refine ret_of (andv_of (m0_of (v_of rfl ⟨⟨_, rfl⟩, _, rfl, rfl, trivial, _, rfl, ?_⟩)))
        cases a2 : Txt.isalpha w' with
        | false =>
          rw [if_neg Bool.false_ne_true]
          rw [a2, Bool.false_and] at q
          exact q
        | true =>
          rw [if_pos rfl]
          rw [a2, Bool.true_and] at q
          refine andv_of (m0_of (v_of rfl ⟨⟨_, rfl⟩, _, rfl, rfl, trivial, _, rfl, ?_⟩))
          rw [isascii_is wd.asc, Bool.true_and] at q
          rw [isascii_is wd.asc, if_pos rfl]
          refine orv_of (m0_of (v_of rfl ⟨⟨_, rfl⟩, _, rfl, rfl, trivial, _, rfl, ?_⟩))
          cases c : Txt.islower w' with
          | true =>
            rw [if_pos rfl]
            rw [c, Bool.true_or] at q
            exact q
          | false =>
            rw [if_neg Bool.false_ne_true]
            rw [c, Bool.false_or] at q
            exact m0_of (v_of rfl ⟨⟨_, rfl⟩, _, rfl, rfl, trivial, q⟩)
    · rw [decide_eq_true (by omega), if_pos rfl]
      rw [if_pos rfl]
      refine ret_of (k_of ?_)
      unfold nameB at q
      rw [decide_eq_false l8, Bool.false_and] at q
      exact q
theorem ok_islocal {f fN : Addr} {fd fdN : FuncData} (F : Fun K "is_local" "is_local" sIsLocal f fd) (FN : Fun K "is_name" "is_name" sIsName fN fdN) (bN : Binds K fdN ["word"] []) (gN : mg "is_name" = some (.ref fN)) (GN : FnOk P w K mg base CX0 1 fN fdN ["word"] spIsName) : FnOk P w K mg base CX0 2 f fd ["word"] spIsLocal := by
  refine F.ok scIsLocal (fun vs H Q E h => ?_) (fun cdv A outer s H vs Q E hr h => ?_)
  · obtain ⟨w, rfl, _⟩ := h
    rfl
  · obtain ⟨w', rfl, wd, q⟩ := h
    refine ⟨_, pss_one (ps_ret (pe_and (pe_call GN hr (by rfl) gN FN.kp bN .nil pass0 (pa_cons (pv 0) pa_nil)) (pe_one (pe_m0 PySem.F.slot_str_islower PySem.F.type_str_islower mt_islower (pv 0))))), ?_⟩
    refine ret_of (andv_of (call_of (c_of (v_of rfl (n_of ⟨_, rfl, wd, nameB w', rfl, ?_⟩)))))
    unfold localB at q
    cases b : nameB w' with
    | false =>
      rw [if_neg Bool.false_ne_true]
      rw [b, Bool.false_and] at q
      exact q
    | true =>
      rw [if_pos rfl]
      rw [b, Bool.true_and] at q
      refine m0_of (v_of rfl ⟨⟨_, rfl⟩, _, rfl, rfl, trivial, ?_⟩)
      have : Txt.islower w' = (TL.tl w').all low := by
        rw [islower_is wd.asc]
        unfold nameB at b
        rw [Bool.and_eq_true, Bool.and_eq_true] at b
        cases e : TL.tl w' with
        | nil => rw [e] at b; exact absurd b.2.2 Bool.false_ne_true
        | cons c l =>
          have nm := b.2.2
          rw [e] at nm
          have nm : ((low c || upp c) && l.all low) = true := nm
          rw [Bool.and_eq_true] at nm
          have al : (c :: l).all (fun c => low c || upp c) = true := by
            rw [List.all_cons, nm.1, Bool.true_and]
            exact List.all_eq_true.mpr fun d hd => by rw [List.all_eq_true.mp nm.2 d hd]; rfl
          rw [low_any al]
          cases z : low c with
          | true => rw [List.any_cons, z, Bool.true_or, Bool.true_and]
          | false => rw [List.all_cons, z, Bool.false_and, Bool.and_false]
      rw [this]
      exact q
end
end Qw
/-! whole_of, number_of, value_of, slot_of of any word -/
namespace Qw
open PySem PySem.Spec PyProof.Rows L2 Evl Gd Sn
theorem zero_is {w : Str} {c : Nat} (h : w.cps.toList[0]? = some c) : decide (V.str (⟨#[c]⟩ : Str) = V.str "0") = decide (c = 48) := by
  by_cases z : c = 48
  · subst z
    decide +kernel
  · rw [decide_eq_false z, decide_eq_false]
    intro e
    have : (⟨#[c]⟩ : Str) = "0" := V.str.inj e
    have e2 : (#[c] : Array Nat).toList = ("0" : Str).cps.toList := congrArg (fun z : Str => z.cps.toList) this
    rw [show ("0" : Str).cps.toList = [48] from by decide +kernel] at e2
    exact z (List.cons.inj e2).1
theorem str_num {w : Str} {n : Nat} (h : TL.tl w = TL.numL n) : w = Str.ofString (toString (n : Int)) := TL.ext_tl (h.trans (TL.tl_num n).symm)
theorem int_is {w : Str} {n : Nat} (h : TL.tl w = TL.numL n) (l : w.length ≤ 640) : PySem.intText? w = some n := by
  have := TL.len_tl w
  rw [str_num h]
  exact TL.int_num (by rw [← h, ← this]; omega)
theorem eq_zero {w : Str} : decide (V.str w = V.str "0") = decide (TL.tl w = [48]) := by
  refine decide_eq_decide.mpr ⟨fun e => ?_, fun e => ?_⟩
  · rw [V.str.inj e]
    decide +kernel
  · rw [TL.ext_tl (y := ("0" : Str)) (e.trans (by decide +kernel))]
section
variable {P : Program} {w : World} {K : PySem.W.Frag} {mg : Str → Option Value} {base : Heap} {dT dS : Addr}
theorem ok_whole {f : Addr} {fd : FuncData} (F : Fun K "whole_of" "whole_of" sWhole f fd) (mL : mg "len" = none) (mI : mg "int" = none) : FnOk P w K mg base CX0 1 f fd ["word", "digits"] spWhole := by
  refine F.ok scWhole (fun vs H Q E h => ?_) (fun cdv A outer s H vs Q E hr h => ?_)
  · obtain ⟨w, rfl, _⟩ := h
    rfl
  · obtain ⟨w', rfl, wd, yes, no⟩ := h
    have few := wd.few
    have len := TL.len_tl w'
    refine ⟨_, pss_cons (ps_if (pw_or (pt_cmpR op_gt (pe_callB call_len_str (by rfl) mL PySem.boot_len (pa_cons (pv 0) pa_nil)) (pv 1) (nomark _)) (pw_or (pt_not (pt_val (pe_m0 PySem.F.slot_str_isdigit PySem.F.type_str_isdigit mt_isdigit (pv 0)))) (pw_or1 (pt_not (pt_val (pe_m0 PySem.F.slot_str_isascii PySem.F.type_str_isascii mt_isascii (pv 0))))))).pt (pss_one (ps_ret pe_non)) pss_nil) <|
      pss_one (ps_ret (pe_ifExp (pw_and (pt_cmpR op_eq (pe_ix ix_str (pv 0) pe_int (fun _ _ => rfl)) pe_str (nomark _)) (pw_and1 (pt_cmpR op_ne (pv 0) pe_str (nomark _)))).pt pe_non (pe_callTy call_int_str (by rfl) mI (by decide +kernel) (pa_cons (pv 0) pa_nil)))), ?_⟩
    refine seq_of (ifS_of (or_of (test_of (op_of (cb_of (c_of (v_of rfl (n_of ⟨_, rfl, by rw [sizeLine_eq]; omega, v_of rfl ⟨_, _, rfl, rfl, _, rfl, ?_⟩⟩))))))))
    by_cases l10 : w'.length ≤ 10
    · rw [decide_eq_false (by omega), if_neg Bool.false_ne_true]
      refine or_of (not_of (test_of (m0_of (v_of rfl ⟨⟨_, rfl⟩, _, rfl, rfl, trivial, _, rfl, ?_⟩))))
      rw [isdigit_is wd.asc]
      by_cases dg : TL.tl w' ≠ [] ∧ (TL.tl w').all dig = true
      · rw [decide_eq_true dg.1, dg.2, if_neg (show ¬ (!(true && true)) = true from Bool.false_ne_true)]
        refine not_of (test_of (m0_of (v_of rfl ⟨⟨_, rfl⟩, _, rfl, rfl, trivial, _, rfl, ?_⟩)))
        rw [isascii_is wd.asc, if_neg (show ¬ (!true) = true from Bool.false_ne_true)]
        dsimp only [tNext]
        cases e : TL.tl w' with
        | nil => exact absurd e dg.1
        | cons c l =>
        have e0 : w'.cps.toList[0]? = some c := by
          have : w'.cps.toList = c :: l := e
          rw [this]
          rfl
        have fin : ((c :: l).head? ≠ some 48 ∨ (c :: l) = [48]) → ∀ {σ : L2.St}, σ[0]? = some (some (.str w')) → tCB (fun xs H Q => ∃ a n, xs = [.str a] ∧ PySem.intText? a = some n ∧ a.length ≤ 640 ∧ Q (.int n) H) (tCons (tVar 0) tNil) σ H Q := fun can σ h => by
          obtain ⟨n, hn⟩ := (canon (List.cons_ne_nil c l) (by rw [← e]; exact dg.2)).mp can
          have hn' : TL.tl w' = TL.numL n := e.trans hn
          refine cb_of (c_of (v_of h (n_of ⟨_, _, rfl, int_is hn' (by omega), by omega, yes n ?_ hn'⟩)))
          by_cases big : 10 ^ 10 ≤ n
          · have := num_big big
            rw [← hn', ← len] at this
            omega
          · omega
        refine ret_of (if_of (and_of (test_of (op_of (v_of rfl (k_of ⟨_, 0, c, rfl, rfl, by rw [sizeLine_eq]; omega, atI_nat (j := 0) e0, k_of ⟨rfl, _, rfl, ?_⟩⟩))))))
        rw [zero_is e0]
        by_cases c48 : c = 48
        · rw [decide_eq_true c48, if_pos rfl]
          refine test_of (op_of (v_of rfl (k_of ⟨rfl, _, rfl, ?_⟩)))
          rw [eq_zero, e]
          by_cases z : (c :: l) = [48]
          · rw [decide_eq_true z, if_neg (show ¬ (!true) = true from Bool.false_ne_true)]
            exact fin (.inr z) rfl
          · rw [decide_eq_false z, if_pos (show (!false) = true from rfl)]
            refine k_of (no ?_)
            rintro ⟨n, _, hn⟩
            have can := (canon (List.cons_ne_nil c l) (by rw [← e]; exact dg.2)).mpr ⟨n, e.symm.trans hn⟩
            rcases can with h | h
            · exact h (by rw [c48]; rfl)
            · exact z h
        · rw [decide_eq_false c48, if_neg Bool.false_ne_true, if_neg Bool.false_ne_true]
          exact fin (.inl fun h => c48 (Option.some.inj h)) rfl
      · have dd : (decide (TL.tl w' ≠ []) && (TL.tl w').all dig) = false := by
          cases y : (decide (TL.tl w' ≠ []) && (TL.tl w').all dig) with
          | false => rfl
          | true =>
            rw [Bool.and_eq_true] at y
            exact absurd ⟨of_decide_eq_true y.1, y.2⟩ dg
        rw [dd, if_pos (show (!false) = true from rfl), if_pos rfl]
        refine ret_of (k_of (no ?_))
        rintro ⟨n, _, hn⟩
        rw [hn] at dg
        exact dg ⟨TL.numL_ne n, num_dig n⟩
    · rw [decide_eq_true (by omega), if_pos rfl, if_pos rfl]
      refine ret_of (k_of (no ?_))
      rintro ⟨n, h, hn⟩
      have := TL.numL_len (n := n) (k := 10) (by decide) (by omega)
      rw [← hn, ← len] at this
      omega
theorem ok_number {f fW : Addr} {fd fdW : FuncData} (F : Fun K "number_of" "number_of" sNumber f fd) (FW : Fun K "whole_of" "whole_of" sWhole fW fdW) (T : Tb K w mg dT dS) (bW : Binds K fdW ["word", "digits"] []) (gW : mg "whole_of" = some (.ref fW)) (GW : FnOk P w K mg base CX0 1 fW fdW ["word", "digits"] spWhole) : FnOk P w K mg base CX0 2 f fd ["word", "most"] spNumber := by
  obtain ⟨t10, g10⟩ := T.digits
  refine F.ok scNumber (fun vs H Q E h => ?_) (fun cdv A outer s H vs Q E hr h => ?_)
  · obtain ⟨w, m, rfl, _⟩ := h
    rfl
  · obtain ⟨w', m, rfl, hm, wd, yes, no⟩ := h
    refine ⟨_, pss_cons (ps_set (i := 2) scNumber.nd rfl (.inl rfl) (pe_call GW hr (by rfl) gW FW.kp bW .nil pass0 (pa_cons (pv 0) <| pa_cons (pe_glob (v := .int 10) (by rfl) g10 ⟨t10, rfl⟩) pa_nil))) <|
      pss_one (ps_ret (pe_ifExp (pw_or (pt_cmpR op_isN (pv 2) pe_non (nomark _)) (pw_or1 (pt_cmpR op_gt (pv 2) (pv 1) (nomark _)))).pt pe_non (pv 2))), ?_⟩
    refine seq_of (asg_of (call_of (c_of (v_of rfl (c_of (k_of (n_of ⟨_, rfl, wd, fun n hn e => ?_, fun none => ?_⟩)))))))
    · dsimp only
      refine ret_of (if_of (or_of (test_of (op_of (v_of rfl (k_of ⟨rfl, _, rfl, ?_⟩))))))
      rw [show decide (V.int (n : Int) = V.non) = false from by simp, if_neg Bool.false_ne_true]
      refine test_of (op_of (v_of rfl (v_of rfl ⟨_, _, rfl, rfl, _, rfl, ?_⟩)))
      by_cases nm : n ≤ m
      · rw [decide_eq_false (by omega), if_neg Bool.false_ne_true]
        exact v_of rfl (yes n nm e)
      · rw [decide_eq_true (by omega), if_pos rfl]
        refine k_of (no ?_)
        rintro ⟨n', h1, h2⟩
        have := TL.numL_inj (e.symm.trans h2)
        omega
    · dsimp only
      refine ret_of (if_of (or_of (test_of (op_of (v_of rfl (k_of ⟨rfl, _, rfl, ?_⟩))))))
      rw [decide_eq_true rfl, if_pos rfl, if_pos rfl]
      refine k_of (no ?_)
      rintro ⟨n', h1, h2⟩
      exact none ⟨n', by omega, h2⟩
end
end Qw
/-! value_of, slot_of of any word -/
namespace Qw
open PySem PySem.Spec PyProof.Rows L2 Evl Gd Sn
theorem tl_dash : TL.tl ("-" : Str) = [45] := by decide +kernel
theorem starts_iff {w : Str} : Txt.startswith w "-" = true ↔ ∃ l, TL.tl w = 45 :: l := by
  have at0 : Txt.startswith w "-" = true ↔ TL.pre [45] (TL.tl w) = true := by
    rw [← tl_dash]
    have := TL.at_iff (x := w) (y := "-") (by rw [tl_dash]; exact List.cons_ne_nil _ _) 0
    rw [List.drop_zero] at this
    rw [← this]
    unfold Txt.startswith
    rw [Bool.and_eq_true]
    constructor
    · intro z
      exact ⟨of_decide_eq_true z.1, z.2⟩
    · intro z
      exact ⟨decide_eq_true z.1, z.2⟩
  rw [at0]
  constructor
  · intro p
    cases e : TL.tl w with
    | nil => rw [e] at p; cases p
    | cons a r =>
      rw [e] at p
      by_cases a45 : a = 45
      · exact ⟨r, by rw [a45]⟩
      · rw [TL.pre_of_head [] r a45] at p
        cases p
  · rintro ⟨l, e⟩
    rw [e]
    unfold TL.pre
    exact beq_self_eq_true _
theorem tail_is {w : Str} {c : Nat} {l : List Nat} (h : TL.tl w = c :: l) : TL.tl (cutS w (some 1) none) = l := by
  have len := TL.len_tl w
  rw [h, List.length_cons] at len
  unfold cutS
  rw [TL.tl_mk, show w.cps.toList = c :: l from h]
  have h1 : HT.sIx w.length 0 (some ((1 : Nat) : Int)) = min 1 w.length := HT.sIx_nat w.length 0 1
  have h2 : HT.sIx w.length w.length none = w.length := rfl
  rw [show (some (1 : Int)) = some ((1 : Nat) : Int) from rfl, h1, h2, Nat.min_eq_left (by omega), List.drop_one, List.tail_cons, List.take_of_length_le (by omega)]
def ValW (w : Str) : Prop := w = "none" ∨ nameB w = true ∨ NumW (TL.tl w) 1000000000 ∨ ∃ l, TL.tl w = 45 :: l ∧ NumW l 1000000000 ∧ l ≠ [48]
def spValue : Sp := fun vs H Q _ => ∃ w : Str, vs = [.str w] ∧ Wd w ∧ (ValW w → ∀ v, (v = V.non ∨ (∃ i, v = V.int i) ∨ v = V.str w) → Q v H) ∧ (¬ ValW w → Q (.bl false) H)
theorem alpha_no {w : Str} {l : List Nat} (h : Asc (TL.tl w)) (a : Txt.isalpha w = true) : (¬ ∃ n, TL.tl w = TL.numL n) ∧ TL.tl w ≠ 45 :: l := by
  rw [isalpha_is h, Bool.and_eq_true] at a
  constructor
  · rintro ⟨n, e⟩
    obtain ⟨c, r, e2, _⟩ := num_head (n := n)
    have d := num_dig n
    rw [e, e2] at a
    rw [e2] at d
    rw [List.all_cons, Bool.and_eq_true] at a d
    have d1 := dig_iff.mp d.1
    have : (low c || upp c) = false := by
      unfold low upp
      rw [decide_eq_false (show ¬ 97 ≤ c by omega), decide_eq_false (show ¬ 65 ≤ c by omega)]
      rfl
    rw [this] at a
    exact absurd a.2.1 Bool.false_ne_true
  · intro e
    rw [e, List.all_cons, Bool.and_eq_true] at a
    exact absurd a.2.1 (by decide)
theorem name_alpha {w : Str} (h : Asc (TL.tl w)) (n : nameB w = true) : Txt.isalpha w = true := by
  unfold nameB at n
  rw [Bool.and_eq_true, Bool.and_eq_true, ← name_is h, Bool.and_eq_true] at n
  exact n.2.2.1
section
variable {P : Program} {w : World} {K : PySem.W.Frag} {mg : Str → Option Value} {base : Heap} {dT dS : Addr}
theorem ok_value {f fN fU : Addr} {fd fdN fdU : FuncData} (F : Fun K "value_of" "value_of" sValue f fd) (FN : Fun K "is_name" "is_name" sIsName fN fdN) (FU : Fun K "number_of" "number_of" sNumber fU fdU) (T : Tb K w mg dT dS) (bN : Binds K fdN ["word"] []) (bU : Binds K fdU ["word", "most"] []) (gN : mg "is_name" = some (.ref fN)) (gU : mg "number_of" = some (.ref fU))
    (GN' : FnOk P w K mg base CX0 1 fN fdN ["word"] spIsName) (GU : FnOk P w K mg base CX0 2 fU fdU ["word", "most"] spNumber) : FnOk P w K mg base CX0 3 f fd ["word"] spValue := by
  have GN : FnOk P w K mg base CX0 2 fN fdN ["word"] spIsName := GN'.mono (by decide)
  obtain ⟨tm, gm⟩ := T.most
  refine F.ok scValue (fun vs H Q E h => ?_) (fun cdv A outer s H vs Q E hr h => ?_)
  · obtain ⟨w, rfl, _⟩ := h
    rfl
  · obtain ⟨w', rfl, wd, yes, no⟩ := h
    have few := wd.few
    have len := TL.len_tl w'
    refine ⟨_, pss_cons (ps_if (pt_cmpR op_eq (pv 0) pe_str (nomark _)) (pss_one (ps_ret pe_non)) pss_nil) <|
      pss_cons (ps_if (pt_val (pe_m0 PySem.F.slot_str_isalpha PySem.F.type_str_isalpha mt_isalpha (pv 0))) (pss_one (ps_ret (pe_ifExp (pt_val (pe_call GN hr (by rfl) gN FN.kp bN .nil pass0 (pa_cons (pv 0) pa_nil))) (pv 0) pe_bl))) pss_nil) <|
      pss_cons (ps_if (pt_val (pe_m1 PySem.F.slot_str_startswith PySem.F.type_str_startswith mt_startswith (pv 0) pe_str)) (pss_cons (ps_set (i := 1) scValue.nd rfl (.inl rfl) (pe_call GU hr (by rfl) gU FU.kp bU .nil pass0 (pa_cons (pe_slice sl_str (pv 0) (po_some pe_int) po_none) <| pa_cons (pe_glob (v := .int 1000000000) (by rfl) gm ⟨tm, rfl⟩) pa_nil))) <|
        pss_one (ps_ret (pe_ifExp (pw_or (pt_cmpR op_isN (pv 1) pe_non (nomark _)) (pw_or1 (pt_cmpR op_eq (pv 1) pe_int (nomark _)))).pt pe_bl (pe_un un_neg (pv 1))))) pss_nil) <|
      pss_cons (ps_set (i := 1) scValue.nd rfl (.inl rfl) (pe_call GU hr (by rfl) gU FU.kp bU .nil pass0 (pa_cons (pv 0) <| pa_cons (pe_glob (v := .int 1000000000) (by rfl) gm ⟨tm, rfl⟩) pa_nil))) <|
      pss_one (ps_ret (pe_ifExp (pt_cmpR op_isN (pv 1) pe_non (nomark _)) pe_bl (pv 1))), ?_⟩
    refine seq_of (ifS_of (test_of (op_of (v_of rfl (k_of ⟨rfl, _, rfl, ?_⟩)))))
    by_cases wn : w' = "none"
    · rw [decide_eq_true (by rw [wn]), if_pos rfl]
      exact ret_of (k_of (yes (.inl wn) _ (.inl rfl)))
    rw [decide_eq_false (fun e => wn (V.str.inj e)), if_neg Bool.false_ne_true]
    dsimp only [tNext]
    refine seq_of (ifS_of (test_of (m0_of (v_of rfl ⟨⟨_, rfl⟩, _, rfl, rfl, trivial, _, rfl, ?_⟩))))
    cases al : Txt.isalpha w' with
    | true =>
      rw [if_pos rfl]
      refine ret_of (if_of (test_of (call_of (c_of (v_of rfl (n_of ⟨_, rfl, wd, nameB w', rfl, ?_⟩))))))
      cases nb : nameB w' with
      | true =>
        rw [if_pos rfl]
        exact v_of rfl (yes (.inr (.inl nb)) _ (.inr (.inr rfl)))
      | false =>
        rw [if_neg Bool.false_ne_true]
        refine k_of (no ?_)
        rintro (h | h | ⟨n, _, h⟩ | ⟨l, h, _⟩)
        · exact wn h
        · rw [nb] at h
          cases h
        · exact (alpha_no (l := []) wd.asc al).1 ⟨n, h⟩
        · exact (alpha_no wd.asc al).2 h
    | false =>
      have nb : nameB w' = false := by
        cases y : nameB w' with
        | false => rfl
        | true =>
          rw [name_alpha wd.asc y] at al
          cases al
      rw [if_neg Bool.false_ne_true]
      dsimp only [tNext]
      refine seq_of (ifS_of (test_of (m1_of (v_of rfl ⟨⟨_, rfl⟩, k_of ⟨_, _, rfl, rfl, _, rfl, ?_⟩⟩))))
      by_cases dash : ∃ l, TL.tl w' = 45 :: l
      · obtain ⟨l, hl⟩ := dash
        have tl := tail_is hl
        have wt : Wd (cutS w' (some 1) none) := ⟨by rw [tl]; exact fun c hc => wd.asc c (by rw [hl]; exact List.mem_cons_of_mem _ hc), Nat.le_trans (cutS_length _ _ _) few⟩
        have nn : ¬ NumW (TL.tl w') 1000000000 := by
          rintro ⟨n, _, e⟩
          have := num_dig n
          rw [← e, hl, List.all_cons] at this
          cases this
        rw [starts_iff.mpr ⟨l, hl⟩, if_pos rfl]
        refine seq_of (asg_of (call_of (c_of (slS_of (v_of rfl (k_of ⟨1, rfl, _, rfl, by rw [sizeLine_eq]; omega, c_of (k_of (n_of ⟨_, 1000000000, rfl, Nat.le_refl _, wt, fun n hn e => ?_, fun none => ?_⟩))⟩))))))
        · rw [tl] at e
          dsimp only
          refine ret_of (if_of (or_of (test_of (op_of (v_of rfl (k_of ⟨rfl, _, rfl, ?_⟩))))))
          rw [show decide (V.int (n : Int) = V.non) = false from by simp, if_neg Bool.false_ne_true]
          refine test_of (op_of (v_of rfl (k_of ⟨rfl, _, rfl, ?_⟩)))
          by_cases n0 : n = 0
          · subst n0
            rw [show decide (V.int ((0 : Nat) : Int) = V.int 0) = true from decide_eq_true rfl, if_pos rfl]
            refine k_of (no ?_)
            rintro (h | h | h | ⟨l', h, _, h3⟩)
            · exact wn h
            · rw [nb] at h
              cases h
            · exact nn h
            · rw [hl] at h
              have : l = l' := (List.cons.inj h).2
              rw [← this, e, num_zero] at h3
              exact h3 rfl
          · rw [decide_eq_false (fun z => n0 (by have := V.int.inj z; omega)), if_neg Bool.false_ne_true]
            refine un_of (v_of rfl ⟨_, rfl, yes (.inr (.inr (.inr ⟨l, hl, ⟨n, hn, e⟩, fun z => ?_⟩))) _ (.inr (.inl ⟨_, rfl⟩))⟩)
            rw [e, ← num_zero] at z
            exact n0 (TL.numL_inj z)
        · rw [tl] at none
          dsimp only
          refine ret_of (if_of (or_of (test_of (op_of (v_of rfl (k_of ⟨rfl, _, rfl, ?_⟩))))))
          rw [decide_eq_true rfl, if_pos rfl, if_pos rfl]
          refine k_of (no ?_)
          rintro (h | h | h | ⟨l', h, h2, _⟩)
          · exact wn h
          · rw [nb] at h
            cases h
          · exact nn h
          · rw [hl] at h
            have : l = l' := (List.cons.inj h).2
            rw [← this] at h2
            exact none h2
      · rw [show Txt.startswith w' "-" = false from by
          cases y : Txt.startswith w' "-" with
          | false => rfl
          | true => exact absurd (starts_iff.mp y) dash, if_neg Bool.false_ne_true]
        dsimp only [tNext]
        refine seq_of (asg_of (call_of (c_of (v_of rfl (c_of (k_of (n_of ⟨_, 1000000000, rfl, Nat.le_refl _, wd, fun n hn e => ?_, fun none => ?_⟩)))))))
        · dsimp only
          refine ret_of (if_of (test_of (op_of (v_of rfl (k_of ⟨rfl, _, rfl, ?_⟩)))))
          rw [show decide (V.int (n : Int) = V.non) = false from by simp, if_neg Bool.false_ne_true]
          exact v_of rfl (yes (.inr (.inr (.inl ⟨n, hn, e⟩))) _ (.inr (.inl ⟨n, rfl⟩)))
        · dsimp only
          refine ret_of (if_of (test_of (op_of (v_of rfl (k_of ⟨rfl, _, rfl, ?_⟩)))))
          rw [decide_eq_true rfl, if_pos rfl]
          refine k_of (no ?_)
          rintro (h | h | h | ⟨l', h, _⟩)
          · exact wn h
          · rw [nb] at h
            cases h
          · exact none h
          · exact dash ⟨l', h⟩
end
end Qw
/-! slot_of of any word -/
namespace Qw
open PySem PySem.Spec PyProof.Rows L2 Evl Gd Sn
/-- a place: a name, a point, a figure below six -/
def SlotW (w : Str) : Prop := ∃ (o : Str) (m : Fin 6), nameB o = true ∧ TL.tl w = TL.tl o ++ [46, 48 + m.val]
theorem first_dot : ∀ {l : List Nat}, 46 ∈ l → ∃ p q, l = p ++ 46 :: q ∧ 46 ∉ p
  | [], h => absurd h List.not_mem_nil
  | c :: l, h => by
    by_cases e : c = 46
    · exact ⟨[], l, by rw [e]; rfl, List.not_mem_nil⟩
    · obtain ⟨p, q, e2, n⟩ := first_dot ((List.mem_cons.mp h).resolve_left fun z => e z.symm)
      refine ⟨c :: p, q, by rw [e2]; rfl, fun z => ?_⟩
      rcases List.mem_cons.mp z with z | z
      · exact e z.symm
      · exact n z
theorem dot_uniq : ∀ {p q p' q' : List Nat}, 46 ∉ p → 46 ∉ p' → p ++ 46 :: q = p' ++ 46 :: q' → p = p' ∧ q = q'
  | [], _, [], _, _, _, e => ⟨rfl, (List.cons.inj e).2⟩
  | [], _, c :: p', _, _, n, e => absurd (by rw [← (List.cons.inj e).1]; exact List.mem_cons_self) n
  | c :: p, _, [], _, n, _, e => absurd (by rw [(List.cons.inj e).1]; exact List.mem_cons_self) n
  | c :: p, _, d :: p', _, n, n', e => by
    obtain ⟨e1, e2⟩ := List.cons.inj e
    obtain ⟨e3, e4⟩ := dot_uniq (fun z => n (List.mem_cons_of_mem _ z)) (fun z => n' (List.mem_cons_of_mem _ z)) e2
    exact ⟨by rw [e1, e3], e4⟩
theorem name_dot {o : Str} (h : nameB o = true) : 46 ∉ TL.tl o := by
  unfold nameB at h
  rw [Bool.and_eq_true, Bool.and_eq_true] at h
  have n := h.2.2
  intro z
  cases e : TL.tl o with
  | nil => rw [e] at z; cases z
  | cons c l =>
    rw [e] at n z
    have n : ((low c || upp c) && l.all low) = true := n
    rw [Bool.and_eq_true] at n
    rcases List.mem_cons.mp z with z | z
    · rw [← z] at n
      exact absurd n.1 (by decide)
    · exact absurd (List.all_eq_true.mp n.2 _ z) (by decide)
theorem six_is : ∀ z ∈ (["0", "1", "2", "3", "4", "5"] : List Str), ∃ m : Fin 6, z = Str.ofString (toString ((m.val : Nat) : Int)) ∧ TL.tl z = [48 + m.val] := by decide +kernel
theorem six_mem : ∀ m : Fin 6, (SX.S [48 + m.val]) ∈ (["0", "1", "2", "3", "4", "5"] : List Str) := by decide +kernel
theorem tl_S (l : List Nat) : TL.tl (SX.S l) = l := TL.tl_mk l
theorem part_yes {w : Str} {p q : List Nat} (e : TL.tl w = p ++ 46 :: q) (n : 46 ∉ p) : Txt.partition w "." = (SX.S p, SX.S [46], SX.S q) := by
  have h1 : w = SX.S (p ++ 46 :: q) := TL.ext_tl (e.trans (tl_S _).symm)
  have h2 : ("." : Str) = SX.S [46] := TL.ext_tl ((show TL.tl ("." : Str) = [46] by decide +kernel).trans (tl_S _).symm)
  rw [h1, h2]
  exact SX.partition_some (List.cons_ne_nil _ _) (SX.par_head (sep := []) q n)
theorem part_no {w : Str} (n : 46 ∉ TL.tl w) : Txt.partition w "." = (w, SX.S [], SX.S []) := by
  have h1 : w = SX.S (TL.tl w) := (SX.S_tl w).symm
  have h2 : ("." : Str) = SX.S [46] := TL.ext_tl ((show TL.tl ("." : Str) = [46] by decide +kernel).trans (tl_S _).symm)
  rw [h2]
  have := SX.partition_none (a := TL.tl w) (b := [46]) (List.cons_ne_nil _ _) (SX.par_head_none (sep := []) n)
  rw [← h1] at this
  exact this
def spSlot : Sp := fun vs H Q _ => ∃ w : Str, vs = [.str w] ∧ Wd w ∧ (SlotW w → ∀ H' t o m, Ex H H' → H' t = some (.tup [.str o, .int m]) → Q (.ref t) H') ∧ (¬ SlotW w → ∀ H', Ex H H' → Q .non H')
section
variable {P : Program} {w : World} {K : PySem.W.Frag} {mg : Str → Option Value} {base : Heap} {dT dS : Addr}
theorem ok_slot {f fN : Addr} {fd fdN : FuncData} (F : Fun K "slot_of" "slot_of" sSlot f fd) (FN : Fun K "is_name" "is_name" sIsName fN fdN) (T : Tb K w mg dT dS) (bN : Binds K fdN ["word"] []) (gN : mg "is_name" = some (.ref fN)) (GN : FnOk P w K mg base CX0 1 fN fdN ["word"] spIsName) : FnOk P w K mg base CX0 2 f fd ["word"] spSlot := by
  obtain ⟨es, n, kd⟩ := T.sl
  refine F.ok scSlot (fun vs H Q E h => ?_) (fun cdv A outer s H vs Q E hr h => ?_)
  · obtain ⟨w, rfl, _⟩ := h
    rfl
  · obtain ⟨w', rfl, wd, yes, no⟩ := h
    have few := wd.few
    refine ⟨_, pss_cons (ps_asg (pe_partition (pv 0) pe_str) (pg_tup (n := 3) rfl (pgs_cons (pg_name (i := 1) scSlot.nd rfl (.inl rfl)) <| pgs_cons (pg_name (i := 2) scSlot.nd rfl (.inl rfl)) <| pgs_cons (pg_name (i := 3) scSlot.nd rfl (.inl rfl)) pgs_nil))) <|
      pss_one (ps_ret (pe_ifExp (pw_and (pt_cmpR (op_in_kd kd) (pv 3) (pe_glob (v := .ref dS) (by rfl) T.slots rfl) (by rfl)) (pw_and1 (pt_val (pe_call GN hr (by rfl) gN FN.kp bN .nil pass0 (pa_cons (pv 1) pa_nil))))).pt (pe_tup (pa_cons (pv 1) <| pa_cons (pe_ix ix_kdict (pe_glob (v := .ref dS) (by rfl) T.slots rfl) (pv 3) (fun _ _ => rfl)) pa_nil)) pe_non)), ?_⟩
    refine seq_of (asgG_of (m1_of (v_of rfl ⟨⟨_, rfl⟩, k_of ⟨_, _, rfl, rfl, by decide +kernel, by rw [sizeLine_eq]; omega, fun p hp => ?_⟩⟩)))
    obtain ⟨nm, sl, ep, how⟩ : ∃ nm sl : Str, (∃ mid : Str, Txt.partition w' "." = (nm, mid, sl)) ∧ ((46 ∉ TL.tl w' ∧ sl = SX.S []) ∨ (TL.tl w' = TL.tl nm ++ 46 :: TL.tl sl ∧ 46 ∉ TL.tl nm)) := by
      by_cases d : 46 ∈ TL.tl w'
      · obtain ⟨p, q, e, n⟩ := first_dot d
        exact ⟨SX.S p, SX.S q, ⟨_, part_yes e n⟩, .inr ⟨by rw [tl_S p, tl_S q]; exact e, by rw [tl_S p]; exact n⟩⟩
      · exact ⟨w', SX.S [], ⟨_, part_no d⟩, .inl ⟨d, rfl⟩⟩
    obtain ⟨mid, ep⟩ := ep
    rw [ep]
    have e1 : Ex H (upd H p (.tup [.str nm, .str mid, .str sl])) := Ex.new hp
    refine ⟨p, _, rfl, st_of upd_same, rfl, .str nm, _, rfl, .str mid, _, rfl, .str sl, _, rfl, rfl, ?_⟩
    dsimp only [gName]
    generalize upd H p (.tup [.str nm, .str mid, .str sl]) = H1 at e1 ⊢
    obtain ⟨r, r1, r2⟩ := T.so sl
    refine ret_of (if_of (and_of (test_of (op_of (v_of rfl (k_of ⟨_, _, rfl, rfl, r1, _, rfl, ?_⟩))))))
    rw [r2]
    by_cases six : sl ∈ (["0", "1", "2", "3", "4", "5"] : List Str)
    · rw [if_pos (decide_eq_true six)]
      obtain ⟨m, rfl, em⟩ := six_is sl six
      rcases how with ⟨_, z⟩ | ⟨e, n⟩
      · rw [z, tl_S] at em
        cases em
      have wn : Wd nm := ⟨fun c hc => wd.asc c (by rw [e]; exact List.mem_append_left _ hc), by
        have h1 := TL.len_tl w'
        have h2 := TL.len_tl nm
        rw [e, List.length_append] at h1
        omega⟩
      refine test_of (call_of (c_of (v_of rfl (n_of ⟨_, rfl, wn, nameB nm, rfl, ?_⟩))))
      cases nb : nameB nm with
      | true =>
        rw [if_pos rfl]
        obtain ⟨t, ht⟩ := T.sn m
        refine tup_of (c_of (v_of rfl (c_of (op_of (k_of (v_of rfl ⟨_, _, .int ((m.val : Nat) : Int), rfl, rfl, ⟨es, _, _, kd.at_, kd.lit, ht, ⟨t, rfl⟩⟩, n_of ⟨by show 2 ≤ sizeLine; decide, fun p2 hp2 => ?_⟩⟩))))))
        exact yes ⟨nm, m, nb, by rw [e, em]⟩ _ p2 nm _ (e1.trans (Ex.new hp2)) upd_same
      | false =>
        rw [if_neg Bool.false_ne_true]
        refine k_of (no ?_ H1 e1)
        rintro ⟨o, m', ho, eo⟩
        obtain ⟨e3, _⟩ := dot_uniq n (name_dot ho) (e.symm.trans eo)
        rw [TL.ext_tl e3, ho] at nb
        cases nb
    · rw [if_neg (by rw [decide_eq_false six]; exact Bool.false_ne_true), if_neg Bool.false_ne_true]
      refine k_of (no ?_ H1 e1)
      rintro ⟨o, m', ho, eo⟩
      rcases how with ⟨d, _⟩ | ⟨e, n⟩
      · exact d (by rw [eo]; exact List.mem_append_right _ List.mem_cons_self)
      · obtain ⟨_, e4⟩ := dot_uniq n (name_dot ho) (e.symm.trans eo)
        refine six ?_
        rw [TL.ext_tl (x := sl) (y := SX.S [48 + m'.val]) (e4.trans (tl_S _).symm)]
        exact six_mem m'
end
end Qw
/-! word_form, asked_form of any words -/
namespace Qw
open PySem PySem.Spec PyProof.Rows L2 Evl Gd Sn
abbrev sWord : Stmt := topS 22
abbrev sAsked : Stmt := topS 23
abbrev sRec : Stmt := topS 24
abbrev sWeak : Stmt := topS 25
abbrev sMap : Stmt := topS 26
abbrev nWord : List Str := ["verb", "name", "word", "value", "place"]
abbrev nAsked : List Str := ["verb", "name", "words"]
abbrev nOne : List Str := ["words"]
theorem scWord : FnScope nWord ["verb", "name", "word"] (defScope sWord) := ⟨rfl, rfl, rfl, by decide +kernel, rfl, by decide +kernel, by decide +kernel⟩
theorem scAsked : FnScope nAsked ["verb", "name", "words"] (defScope sAsked) := ⟨rfl, rfl, rfl, by decide +kernel, rfl, by decide +kernel, by decide +kernel⟩
theorem scRec : FnScope nOne ["words"] (defScope sRec) := ⟨rfl, rfl, rfl, by decide +kernel, rfl, by decide +kernel, by decide +kernel⟩
theorem scWeak : FnScope nOne ["words"] (defScope sWeak) := ⟨rfl, rfl, rfl, by decide +kernel, rfl, by decide +kernel, by decide +kernel⟩
theorem scMap : FnScope nOne ["words"] (defScope sMap) := ⟨rfl, rfl, rfl, by decide +kernel, rfl, by decide +kernel, by decide +kernel⟩
/-- a value that is no object -/
def isPlainV : V → Bool
  | .non => true
  | .int _ => true
  | .str _ => true
  | .bl _ => true
  | _ => false
theorem plain_is {x : V} {b : Bool} {u v : Value} (h : isPlainV x = true) (rx : RelV x v) (ry : RelV (.bl b) u) : plainIs v u = true ∧ (v == u) = decide (x = .bl b) := by
  have eu : u = Value.bool b := ry
  subst eu
  cases x with
  | non =>
    have : v = Value.none := rx
    subst this
    exact ⟨rfl, by simp⟩
  | int i =>
    obtain ⟨t, e⟩ := rx
    subst e
    exact ⟨rfl, by simp⟩
  | str z =>
    obtain ⟨t, e⟩ := rx
    subst e
    exact ⟨rfl, by simp⟩
  | bl c =>
    have : v = Value.bool c := rx
    subst this
    refine ⟨rfl, ?_⟩
    by_cases e : c = b
    · subst e
      simp
    · rw [decide_eq_false (fun z => e (V.bl.inj z))]
      exact beq_eq_false_iff_ne.mpr fun z => e (Value.bool.inj z)
  | _ => cases h
def rNotF : R2 := fun x y H Q => ∃ b : Bool, isPlainV x = true ∧ y = .bl b ∧ Q (.bl (!decide (x = .bl b))) H
def rIsF : R2 := fun x y H Q => ∃ b : Bool, isPlainV x = true ∧ y = .bl b ∧ Q (.bl (decide (x = .bl b))) H
theorem op_notF {X : Cx} : OpR X (compareOp .IsNot) rNotF := by
  intro pins s σ H x y v u Q I rx ry h
  obtain ⟨b, hx, rfl, q⟩ := h
  obtain ⟨h1, h2⟩ := plain_is hx rx ry
  refine wpAny_isNot_plain h1 ?_
  rw [show (!v == u) = !(v == u) from rfl, h2]
  exact ⟨.bl _, H, I, rfl, q⟩
theorem op_isF {X : Cx} : OpR X (compareOp .Is) rIsF := by
  intro pins s σ H x y v u Q I rx ry h
  obtain ⟨b, hx, rfl, q⟩ := h
  obtain ⟨h1, h2⟩ := plain_is hx rx ry
  refine wpAny_is_plain h1 ?_
  rw [h2]
  exact ⟨.bl _, H, I, rfl, q⟩
section
variable {K : PySem.W.Frag} {σ : L2.St} {H : Hp} {Q : VK}
theorem ixk_of {i k : Nat} {l : Addr} {xs : List V} {v : V} (e : σ[i]? = some (some (.ref l))) (h : H l = some (.lst xs)) (a : xs[k]? = some v) (q : Q v H) : tOp (rIxL K) (tVar i) (tC (.int k)) σ H Q :=
  ⟨_, e, l, xs, k, v, rfl, rfl, sq_of h, atI_nat a, q⟩
theorem len_of {i : Nat} {l : Addr} {xs : List V} (m : Int) (e : σ[i]? = some (some (.ref l))) (h : H l = some (.lst xs)) (hm : (xs.length : Int) = m) (q : Q (.int m) H) : tCB (fun xs H Q => ∃ p ys, xs = [V.ref p] ∧ (SqL K H p ys ∨ SqT K H p ys) ∧ Q (V.int ↑ys.length) H) (tCons (tVar i) tNil) σ H Q :=
  cb_of (c_of (v_of e (n_of ⟨l, xs, rfl, .inl (sq_of h), by rw [hm]; exact q⟩)))
end
/-- answers a tuple -/
def IsTup (H H' : Hp) (v : V) : Prop := Ex H H' ∧ ∃ t xs, v = .ref t ∧ H' t = some (.tup xs)
/-- words in a list -/
structure Ws (H : Hp) (l : Addr) (ws : List Str) : Prop where
  at_ : H l = some (.lst (ws.map V.str))
  wd : ∀ w ∈ ws, Wd w
  few : ws.length ≤ 100000
theorem Ws.ex {H H' : Hp} {l : Addr} {ws : List Str} (e : Ex H H') (h : Ws H l ws) : Ws H' l ws := ⟨e _ _ h.at_, h.wd, h.few⟩
def AskedF (ws : List Str) : Prop := (∃ w, ws = [("get" : Str), w] ∧ nameB w = true) ∨ ∃ w u, ws = [w, ("at" : Str), u] ∧ nameB w = true ∧ nameB u = true
def spWord : Sp := fun vs H Q _ => ∃ (z : Str) (y : V) (w : Str), vs = [.str z, y, .str w] ∧ z ∈ (["let", "say"] : List Str) ∧ Wd w ∧ (ValW w ∨ SlotW w → ∀ H' t z' y' x xs, Ex H H' → H' t = some (.tup (.str z' :: y' :: x :: xs)) → (x = .non ∨ (∃ i, x = .int i) ∨ ∃ u, x = .str u) → Q (.ref t) H') ∧ (¬ (ValW w ∨ SlotW w) → ∀ H', Ex H H' → Q .non H')
def spAsked : Sp := fun vs H Q _ => ∃ (z : Str) (y : V) (l : Addr) (ws : List Str), vs = [.str z, y, .ref l] ∧ z ∈ (["let", "say"] : List Str) ∧ Ws H l ws ∧ (AskedF ws → ∀ H' v, IsTup H H' v → Q v H') ∧ (¬ AskedF ws → ∀ H', Ex H H' → Q .non H')
/-- a form's promise: a tuple at such words, else None -/
def spF (G : List Str → Prop) : Sp := fun vs H Q _ => ∃ (l : Addr) (ws : List Str), vs = [.ref l] ∧ Ws H l ws ∧ ws ≠ [] ∧ (G ws → ∀ H' v, IsTup H H' v → Q v H') ∧ (¬ G ws → ∀ H', Ex H H' → Q .non H')
theorem verb_len : ∀ z ∈ (["let", "say"] : List Str), z.length ≤ 3 := by decide +kernel
theorem int_no {n : Nat} {k : Int} (h : (n : Int) ≠ k) : decide (V.int (n : Int) = V.int k) = false := decide_eq_false fun e => h (V.int.inj e)
section
variable {P : Program} {w : World} {K : PySem.W.Frag} {mg : Str → Option Value} {base : Heap} {dT dS : Addr}
theorem ok_word {f fV fS : Addr} {fd fdV fdS : FuncData} (F : Fun K "word_form" "word_form" sWord f fd) (FV : Fun K "value_of" "value_of" sValue fV fdV) (FS : Fun K "slot_of" "slot_of" sSlot fS fdS) (bV : Binds K fdV ["word"] []) (bS : Binds K fdS ["word"] []) (gV : mg "value_of" = some (.ref fV)) (gS : mg "slot_of" = some (.ref fS))
    (GV : FnOk P w K mg base CX0 3 fV fdV ["word"] spValue) (GS' : FnOk P w K mg base CX0 2 fS fdS ["word"] spSlot) : FnOk P w K mg base CX0 4 f fd ["verb", "name", "word"] spWord := by
  have GS : FnOk P w K mg base CX0 3 fS fdS ["word"] spSlot := GS'.mono (by decide)
  refine F.ok scWord (fun vs H Q E h => ?_) (fun cdv A outer s H vs Q E hr h => ?_)
  · obtain ⟨z, y, w, rfl, _⟩ := h
    rfl
  · obtain ⟨z, y, w', rfl, hz, wd, yes, no⟩ := h
    have zl := verb_len z hz
    have l6 : (" value" : Str).length = 6 := by decide +kernel
    have l5 : (" slot" : Str).length = 5 := by decide +kernel
    refine ⟨_, pss_cons (ps_set (i := 3) scWord.nd rfl (.inl rfl) (pe_call GV hr (by rfl) gV FV.kp bV .nil pass0 (pa_cons (pv 2) pa_nil))) <|
      pss_cons (ps_if (pt_cmpR op_notF (pv 3) pe_bl (nomark _)) (pss_one (ps_ret (pe_tup (pa_cons (pe_op op_add_str (pv 0) pe_str) <| pa_cons (pv 1) <| pa_cons (pv 3) pa_nil)))) pss_nil) <|
      pss_cons (ps_set (i := 4) scWord.nd rfl (.inl rfl) (pe_call GS hr (by rfl) gS FS.kp bS .nil pass0 (pa_cons (pv 2) pa_nil))) <|
      pss_one (ps_ret (pe_ifExp (pt_cmpR op_isN (pv 4) pe_non (nomark _)) pe_non (pe_tup (pa_cons (pe_op op_add_str (pv 0) pe_str) <| pa_cons (pv 1) <| pa_cons (pe_ix ix_tup (pv 4) pe_int (fun _ _ => rfl)) <| pa_cons (pe_ix ix_tup (pv 4) pe_int (fun _ _ => rfl)) pa_nil)))), ?_⟩
    refine seq_of (asg_of (call_of (c_of (v_of rfl (n_of ⟨_, rfl, wd, fun val v hv => ?_, fun nval => ?_⟩)))))
    · dsimp only
      have pl : isPlainV v = true ∧ (v = .non ∨ (∃ i, v = .int i) ∨ ∃ u, v = .str u) ∧ decide (v = .bl false) = false := by
        rcases hv with rfl | ⟨i, rfl⟩ | rfl
        · exact ⟨rfl, .inl rfl, by simp⟩
        · exact ⟨rfl, .inr (.inl ⟨_, rfl⟩), by simp⟩
        · exact ⟨rfl, .inr (.inr ⟨_, rfl⟩), by simp⟩
      refine seq_of (ifS_of (test_of (op_of (v_of rfl (k_of ⟨false, pl.1, rfl, _, rfl, ?_⟩)))))
      rw [pl.2.2, if_pos (show (!false) = true from rfl)]
      refine ret_of (tup_of (c_of (op_of (v_of rfl (k_of ⟨_, _, rfl, rfl, (by rw [sizeLine_eq, l6]; omega), c_of (v_of rfl (c_of (v_of rfl (n_of ⟨by show 3 ≤ sizeLine; decide, fun p hp => ?_⟩))))⟩)))))
      exact yes (.inl val) _ p _ _ _ _ (Ex.new hp) upd_same pl.2.1
    · dsimp only
      refine seq_of (ifS_of (test_of (op_of (v_of rfl (k_of ⟨false, rfl, rfl, _, rfl, ?_⟩)))))
      rw [decide_eq_true rfl, if_neg (show ¬ (!true) = true from Bool.false_ne_true)]
      dsimp only [tNext]
      refine seq_of (asg_of (call_of (c_of (v_of rfl (n_of ⟨_, rfl, wd, fun sl H1 t o m e1 ht => ?_, fun nsl H1 e1 => ?_⟩)))))
      · dsimp only
        refine ret_of (if_of (test_of (op_of (v_of rfl (k_of ⟨rfl, _, rfl, ?_⟩)))))
        rw [show decide (V.ref t = V.non) = false from by simp, if_neg Bool.false_ne_true]
        refine tup_of (c_of (op_of (v_of rfl (k_of ⟨_, _, rfl, rfl, (by rw [sizeLine_eq, l5]; omega), c_of (v_of rfl (c_of (op_of (v_of rfl (k_of ⟨t, _, 0, _, rfl, rfl, st_of ht, atI_nat (j := 0) rfl, c_of (op_of (v_of rfl (k_of ⟨t, _, 1, _, rfl, rfl, st_of ht, atI_nat (j := 1) rfl, n_of ⟨by show 4 ≤ sizeLine; decide, fun p hp => ?_⟩⟩)))⟩)))))⟩))))
        exact yes (.inr sl) _ p _ _ _ _ (e1.trans (Ex.new hp)) upd_same (.inr (.inr ⟨_, rfl⟩))
      · dsimp only
        refine ret_of (if_of (test_of (op_of (v_of rfl (k_of ⟨rfl, _, rfl, ?_⟩)))))
        rw [decide_eq_true rfl, if_pos rfl]
        exact k_of (no (fun h => h.elim nval nsl) H1 e1)
theorem ok_asked {f fN : Addr} {fd fdN : FuncData} (F : Fun K "asked_form" "asked_form" sAsked f fd) (FN : Fun K "is_name" "is_name" sIsName fN fdN) (bN : Binds K fdN ["word"] []) (gN : mg "is_name" = some (.ref fN)) (mL : mg "len" = none)
    (GN' : FnOk P w K mg base CX0 1 fN fdN ["word"] spIsName) : FnOk P w K mg base CX0 4 f fd ["verb", "name", "words"] spAsked := by
  have GN : FnOk P w K mg base CX0 3 fN fdN ["word"] spIsName := GN'.mono (by decide)
  refine F.ok scAsked (fun vs H Q E h => ?_) (fun cdv A outer s H vs Q E hr h => ?_)
  · obtain ⟨z, y, l, ws, rfl, _⟩ := h
    rfl
  · obtain ⟨z, y, l, ws, rfl, hz, hws, yes, no⟩ := h
    have hl := hws.at_
    have zl := verb_len z hz
    have l4 : (" get" : Str).length = 4 := by decide +kernel
    have l3 : (" at" : Str).length = 3 := by decide +kernel
    refine ⟨_, pss_cons (ps_if (pw_and (pt_cmpR op_eq (pe_callB call_len_seq (by rfl) mL PySem.boot_len (pa_cons (pv 2) pa_nil)) pe_int (nomark _)) (pw_and (pt_cmpR op_eq (pe_ix ix_list (pv 2) pe_int (fun _ _ => rfl)) pe_str (nomark _)) (pw_and1 (pt_val (pe_call GN hr (by rfl) gN FN.kp bN .nil pass0 (pa_cons (pe_ix ix_list (pv 2) pe_int (fun _ _ => rfl)) pa_nil)))))).pt
        (pss_one (ps_ret (pe_tup (pa_cons (pe_op op_add_str (pv 0) pe_str) <| pa_cons (pv 1) <| pa_cons (pe_ix ix_list (pv 2) pe_int (fun _ _ => rfl)) pa_nil)))) pss_nil) <|
      pss_cons (ps_if (pw_and (pt_cmpR op_eq (pe_callB call_len_seq (by rfl) mL PySem.boot_len (pa_cons (pv 2) pa_nil)) pe_int (nomark _)) (pw_and (pt_cmpR op_eq (pe_ix ix_list (pv 2) pe_int (fun _ _ => rfl)) pe_str (nomark _)) (pw_and (pt_val (pe_call GN hr (by rfl) gN FN.kp bN .nil pass0 (pa_cons (pe_ix ix_list (pv 2) pe_int (fun _ _ => rfl)) pa_nil))) (pw_and1 (pt_val (pe_call GN hr (by rfl) gN FN.kp bN .nil pass0 (pa_cons (pe_ix ix_list (pv 2) pe_int (fun _ _ => rfl)) pa_nil))))))).pt
        (pss_one (ps_ret (pe_tup (pa_cons (pe_op op_add_str (pv 0) pe_str) <| pa_cons (pv 1) <| pa_cons (pe_ix ix_list (pv 2) pe_int (fun _ _ => rfl)) <| pa_cons (pe_ix ix_list (pv 2) pe_int (fun _ _ => rfl)) pa_nil)))) pss_nil) <|
      pss_one (ps_ret pe_non), ?_⟩
    have lw : (ws.map V.str).length = ws.length := List.length_map ..
    match ws, hws, hl, yes, no, lw with
    | [a, b], hws, hl, yes, no, _ =>
      refine seq_of (ifS_of (and_of (test_of (op_of (len_of 2 rfl hl rfl (k_of ⟨rfl, _, rfl, ?_⟩))))))
      rw [decide_eq_true rfl, if_pos rfl]
      refine and_of (test_of (op_of (ixk_of rfl hl (k := 0) rfl (k_of ⟨rfl, _, rfl, ?_⟩))))
      by_cases ga : a = "get"
      · rw [decide_eq_true (by rw [ga]), if_pos rfl]
        refine test_of (call_of (c_of (ixk_of rfl hl (k := 1) rfl (n_of ⟨_, rfl, hws.wd b (by simp), nameB b, rfl, ?_⟩))))
        cases nb : nameB b with
        | true =>
          rw [if_pos rfl]
          refine ret_of (tup_of (c_of (op_of (v_of rfl (k_of ⟨_, _, rfl, rfl, (by rw [sizeLine_eq, l4]; omega), c_of (v_of rfl (c_of (ixk_of rfl hl (k := 1) rfl (n_of ⟨by show 3 ≤ sizeLine; decide, fun p hp => ?_⟩))))⟩)))))
          exact yes (.inl ⟨b, by rw [ga], nb⟩) _ _ ⟨Ex.new hp, p, _, rfl, upd_same⟩
        | false =>
          rw [if_neg Bool.false_ne_true]
          dsimp only [tNext]
          refine seq_of (ifS_of (and_of (test_of (op_of (len_of 2 rfl hl rfl (k_of ⟨rfl, _, rfl, ?_⟩))))))
          rw [show decide (V.int 2 = V.int 3) = false from by decide +kernel, if_neg Bool.false_ne_true, if_neg Bool.false_ne_true]
          dsimp only [tNext]
          refine ret_of (k_of (no ?_ H (Ex.refl H)))
          rintro (⟨w, e, h⟩ | ⟨w, u, e, _⟩)
          · cases e
            rw [nb] at h
            cases h
          · cases e
      · rw [decide_eq_false (fun e => ga (V.str.inj e)), if_neg Bool.false_ne_true, if_neg Bool.false_ne_true]
        dsimp only [tNext]
        refine seq_of (ifS_of (and_of (test_of (op_of (len_of 2 rfl hl rfl (k_of ⟨rfl, _, rfl, ?_⟩))))))
        rw [show decide (V.int 2 = V.int 3) = false from by decide +kernel, if_neg Bool.false_ne_true, if_neg Bool.false_ne_true]
        dsimp only [tNext]
        refine ret_of (k_of (no ?_ H (Ex.refl H)))
        rintro (⟨w, e, h⟩ | ⟨w, u, e, _⟩)
        · cases e
          exact ga rfl
        · cases e
    | [a, b, c], hws, hl, yes, no, _ =>
      refine seq_of (ifS_of (and_of (test_of (op_of (len_of 3 rfl hl rfl (k_of ⟨rfl, _, rfl, ?_⟩))))))
      rw [show decide (V.int 3 = V.int 2) = false from by decide +kernel, if_neg Bool.false_ne_true, if_neg Bool.false_ne_true]
      dsimp only [tNext]
      refine seq_of (ifS_of (and_of (test_of (op_of (len_of 3 rfl hl rfl (k_of ⟨rfl, _, rfl, ?_⟩))))))
      rw [decide_eq_true rfl, if_pos rfl]
      refine and_of (test_of (op_of (ixk_of rfl hl (k := 1) rfl (k_of ⟨rfl, _, rfl, ?_⟩))))
      have bad : ¬ (b = "at" ∧ nameB a = true ∧ nameB c = true) → ¬ AskedF [a, b, c] := fun n => by
        rintro (⟨w, e, h⟩ | ⟨w, u, e, h1, h2⟩)
        · cases e
        · cases e
          exact n ⟨rfl, h1, h2⟩
      by_cases gb : b = "at"
      · rw [decide_eq_true (by rw [gb]), if_pos rfl]
        refine and_of (test_of (call_of (c_of (ixk_of rfl hl (k := 0) rfl (n_of ⟨_, rfl, hws.wd a (by simp), nameB a, rfl, ?_⟩)))))
        cases na : nameB a with
        | false =>
          rw [if_neg Bool.false_ne_true, if_neg Bool.false_ne_true]
          dsimp only [tNext]
          refine ret_of (k_of (no (bad fun h => by rw [na] at h; cases h.2.1) H (Ex.refl H)))
        | true =>
          rw [if_pos rfl]
          refine test_of (call_of (c_of (ixk_of rfl hl (k := 2) rfl (n_of ⟨_, rfl, hws.wd c (by simp), nameB c, rfl, ?_⟩))))
          cases nc : nameB c with
          | false =>
            rw [if_neg Bool.false_ne_true]
            dsimp only [tNext]
            refine ret_of (k_of (no (bad fun h => by rw [nc] at h; cases h.2.2) H (Ex.refl H)))
          | true =>
            rw [if_pos rfl]
            refine ret_of (tup_of (c_of (op_of (v_of rfl (k_of ⟨_, _, rfl, rfl, (by rw [sizeLine_eq, l3]; omega), c_of (v_of rfl (c_of (ixk_of rfl hl (k := 0) rfl (c_of (ixk_of rfl hl (k := 2) rfl (n_of ⟨by show 4 ≤ sizeLine; decide, fun p hp => ?_⟩))))))⟩)))))
            exact yes (.inr ⟨a, c, by rw [gb], na, nc⟩) _ _ ⟨Ex.new hp, p, _, rfl, upd_same⟩
      · rw [decide_eq_false (fun e => gb (V.str.inj e)), if_neg Bool.false_ne_true, if_neg Bool.false_ne_true]
        dsimp only [tNext]
        exact ret_of (k_of (no (bad fun h => gb h.1) H (Ex.refl H)))
    | [], hws, hl, yes, no, lw =>
      refine seq_of (ifS_of (and_of (test_of (op_of (len_of (0 : Nat) rfl hl (by rw [lw]; rfl) (k_of ⟨rfl, _, rfl, ?_⟩))))))
      rw [int_no (by decide), if_neg Bool.false_ne_true, if_neg Bool.false_ne_true]
      dsimp only [tNext]
      refine seq_of (ifS_of (and_of (test_of (op_of (len_of (0 : Nat) rfl hl (by rw [lw]; rfl) (k_of ⟨rfl, _, rfl, ?_⟩))))))
      rw [int_no (by decide), if_neg Bool.false_ne_true, if_neg Bool.false_ne_true]
      dsimp only [tNext]
      refine ret_of (k_of (no ?_ H (Ex.refl H)))
      rintro (⟨w, e, _⟩ | ⟨w, u, e, _⟩) <;> cases e
    | [a], hws, hl, yes, no, lw =>
      refine seq_of (ifS_of (and_of (test_of (op_of (len_of (1 : Nat) rfl hl (by rw [lw]; rfl) (k_of ⟨rfl, _, rfl, ?_⟩))))))
      rw [int_no (by decide), if_neg Bool.false_ne_true, if_neg Bool.false_ne_true]
      dsimp only [tNext]
      refine seq_of (ifS_of (and_of (test_of (op_of (len_of (1 : Nat) rfl hl (by rw [lw]; rfl) (k_of ⟨rfl, _, rfl, ?_⟩))))))
      rw [int_no (by decide), if_neg Bool.false_ne_true, if_neg Bool.false_ne_true]
      dsimp only [tNext]
      refine ret_of (k_of (no ?_ H (Ex.refl H)))
      rintro (⟨w, e, _⟩ | ⟨w, u, e, _⟩) <;> cases e
    | a :: b :: c :: d :: r, hws, hl, yes, no, lw =>
      refine seq_of (ifS_of (and_of (test_of (op_of (len_of (r.length + 4 : Nat) rfl hl (by rw [lw]; rfl) (k_of ⟨rfl, _, rfl, ?_⟩))))))
      rw [int_no (by omega), if_neg Bool.false_ne_true, if_neg Bool.false_ne_true]
      dsimp only [tNext]
      refine seq_of (ifS_of (and_of (test_of (op_of (len_of (r.length + 4 : Nat) rfl hl (by rw [lw]; rfl) (k_of ⟨rfl, _, rfl, ?_⟩))))))
      rw [int_no (by omega), if_neg Bool.false_ne_true, if_neg Bool.false_ne_true]
      dsimp only [tNext]
      refine ret_of (k_of (no ?_ H (Ex.refl H)))
      rintro (⟨w, e, _⟩ | ⟨w, u, e, _⟩) <;> cases e
end
end Qw
/-! the small forms of any words -/
namespace Qw
open PySem PySem.Spec PyProof.Rows L2 Evl Gd Sn
abbrev sName : Stmt := topS 30
abbrev sNumF : Stmt := topS 31
abbrev sBare : Stmt := topS 32
abbrev sIf : Stmt := topS 33
abbrev nNumF : List Str := ["words", "number"]
abbrev nIf : List Str := ["words", "left", "right"]
theorem scName : FnScope nOne ["words"] (defScope sName) := ⟨rfl, rfl, rfl, by decide +kernel, rfl, by decide +kernel, by decide +kernel⟩
theorem scNumF : FnScope nNumF ["words"] (defScope sNumF) := ⟨rfl, rfl, rfl, by decide +kernel, rfl, by decide +kernel, by decide +kernel⟩
theorem scBare : FnScope nOne ["words"] (defScope sBare) := ⟨rfl, rfl, rfl, by decide +kernel, rfl, by decide +kernel, by decide +kernel⟩
theorem scIf : FnScope nIf ["words"] (defScope sIf) := ⟨rfl, rfl, rfl, by decide +kernel, rfl, by decide +kernel, by decide +kernel⟩
theorem inV_strs {z : Str} : ∀ zs : List Str, inV (.str z) (zs.map V.str) = decide (z ∈ zs)
  | [] => by simp [inV]
  | g :: zs => by
    have ih := inV_strs (z := z) zs
    unfold inV at ih ⊢
    rw [List.map_cons, List.any_cons, ih]
    show (decide (g = z) || decide (z ∈ zs)) = decide (z ∈ g :: zs)
    by_cases e : g = z
    · subst e
      simp
    · have e2 : ¬ z = g := fun q => e q.symm
      by_cases m : z ∈ zs
      · simp [m]
      · simp [m, e, e2]
def homes2 : List Str := ["counted", "traced"]
theorem homes_flat : (homes2.map V.str).all flatV = true := by decide +kernel
/-- the homes, the sizes -/
structure Tb2 (K : PySem.W.Frag) (w : World) (mg : Str → Option Value) (dH dZ : Addr) : Prop where
  homes : mg "HOMES" = some (.ref dH)
  hm : ∀ H, SqT K H dH (homes2.map V.str)
  sizes : mg "SIZES" = some (.ref dZ)
  sz : ∃ es n, KDict K w dZ es n
  zn : ∀ m : Fin 7, ∃ t, PySem.W.nsIn K dZ (Str.ofString (toString ((m.val : Nat) : Int))) = some (some (.int m.val t))
  zo : ∀ z, ∃ r, PySem.W.nsIn K dZ z = some r ∧ r.isSome = decide (z ∈ (["0", "1", "2", "3", "4", "5", "6"] : List Str))
def gNm (ws : List Str) : Prop := ∃ v o : Str, ws = [v, o] ∧ nameB o = true
def gNum (ws : List Str) : Prop := ∃ v o : Str, ws = [v, o] ∧ NumW (TL.tl o) 10000
def gBare (ws : List Str) : Prop := ∃ v : Str, ws = [v]
def gIf (ws : List Str) : Prop := ∃ v a b : Str, ws = [v, a, "is", b] ∧ ValW a ∧ ValW b
def gWeak (ws : List Str) : Prop := ∃ a b c d h o : Str, ws = [a, b, c, d, h, o] ∧ h ∈ homes2 ∧ nameB o = true
def gMap (ws : List Str) : Prop := ∃ a b c d h : Str, ws = [a, b, c, d, h] ∧ h ∈ homes2
theorem int_yes {n : Nat} {k : Int} (h : (n : Int) = k) : decide (V.int (n : Int) = V.int k) = true := decide_eq_true (by rw [h])
theorem two_le : (2 : Nat) ≤ sizeLine := by show 2 ≤ sizeLine; decide
theorem str_eq {a b : Str} : decide (V.str a = V.str b) = decide (a = b) := decide_eq_decide.mpr ⟨V.str.inj, fun e => by rw [e]⟩
theorem val_plain {w' : Str} {v : V} (h : v = V.non ∨ (∃ i, v = V.int i) ∨ v = V.str w') : isPlainV v = true ∧ decide (v = .bl false) = false := by
  rcases h with rfl | ⟨i, rfl⟩ | rfl
  · exact ⟨rfl, by simp⟩
  · exact ⟨rfl, by simp⟩
  · exact ⟨rfl, by simp⟩
section
variable {P : Program} {w : World} {K : PySem.W.Frag} {mg : Str → Option Value} {base : Heap} {dT dS dH dZ : Addr}
theorem ok_name {f fN : Addr} {fd fdN : FuncData} (F : Fun K "name_form" "name_form" sName f fd) (FN : Fun K "is_name" "is_name" sIsName fN fdN) (bN : Binds K fdN ["word"] []) (gN : mg "is_name" = some (.ref fN)) (mL : mg "len" = none)
    (GN' : FnOk P w K mg base CX0 1 fN fdN ["word"] spIsName) : FnOk P w K mg base CX0 3 f fd ["words"] (spF gNm) := by
  have GN : FnOk P w K mg base CX0 2 fN fdN ["word"] spIsName := GN'.mono (by decide)
  refine F.ok scName (fun vs H Q E h => ?_) (fun cdv A outer s H vs Q E hr h => ?_)
  · obtain ⟨l, ws, rfl, _⟩ := h
    rfl
  · obtain ⟨l, ws, rfl, hws, ne, yes, no⟩ := h
    have hl := hws.at_
    have lw : ((ws.map V.str).length : Int) = (ws.length : Int) := by rw [List.length_map]
    refine ⟨_, pss_one (ps_ret (pe_ifExp (pw_and (pt_cmpR op_eq (pe_callB call_len_seq (by rfl) mL PySem.boot_len (pa_cons (pv 0) pa_nil)) pe_int (nomark _)) (pw_and1 (pt_val (pe_call GN hr (by rfl) gN FN.kp bN .nil pass0 (pa_cons (pe_ix ix_list (pv 0) pe_int (fun _ _ => rfl)) pa_nil))))).pt (pe_tup (pa_cons (pe_ix ix_list (pv 0) pe_int (fun _ _ => rfl)) <| pa_cons (pe_ix ix_list (pv 0) pe_int (fun _ _ => rfl)) pa_nil)) pe_non)), ?_⟩
    refine ret_of (if_of (and_of (test_of (op_of (len_of (ws.length : Nat) rfl hl lw (k_of ⟨rfl, _, rfl, ?_⟩))))))
    by_cases c : ws.length = 2
    · rw [int_yes (by omega), if_pos rfl]
      match ws, c with
      | [v, o], _ =>
      refine test_of (call_of (c_of (ixk_of rfl hl (k := 1) rfl (n_of ⟨_, rfl, hws.wd o (by simp), nameB o, rfl, ?_⟩))))
      cases nb : nameB o with
      | true =>
        rw [if_pos rfl]
        refine tup_of (c_of (ixk_of rfl hl (k := 0) rfl (c_of (ixk_of rfl hl (k := 1) rfl (n_of ⟨two_le, fun p hp => ?_⟩)))))
        exact yes ⟨v, o, rfl, nb⟩ _ _ ⟨Ex.new hp, p, _, rfl, upd_same⟩
      | false =>
        rw [if_neg Bool.false_ne_true]
        refine k_of (no ?_ H (Ex.refl H))
        rintro ⟨v', o', e, h⟩
        cases e
        rw [nb] at h
        cases h
    · rw [int_no (by omega), if_neg Bool.false_ne_true, if_neg Bool.false_ne_true]
      refine k_of (no ?_ H (Ex.refl H))
      rintro ⟨v', o', rfl, _⟩
      exact c rfl
theorem ok_numf {f fU : Addr} {fd fdU : FuncData} (F : Fun K "number_form" "number_form" sNumF f fd) (FU : Fun K "number_of" "number_of" sNumber fU fdU) (bU : Binds K fdU ["word", "most"] []) (gU : mg "number_of" = some (.ref fU)) (gM : ∃ t, mg "MOST_NUMBER" = some (.int 10000 t)) (mL : mg "len" = none)
    (GU : FnOk P w K mg base CX0 2 fU fdU ["word", "most"] spNumber) : FnOk P w K mg base CX0 3 f fd ["words"] (spF gNum) := by
  obtain ⟨tm, gm⟩ := gM
  refine F.ok scNumF (fun vs H Q E h => ?_) (fun cdv A outer s H vs Q E hr h => ?_)
  · obtain ⟨l, ws, rfl, _⟩ := h
    rfl
  · obtain ⟨l, ws, rfl, hws, ne, yes, no⟩ := h
    have hl := hws.at_
    have lw : ((ws.map V.str).length : Int) = (ws.length : Int) := by rw [List.length_map]
    refine ⟨_, pss_cons (ps_if (pt_cmpR op_ne (pe_callB call_len_seq (by rfl) mL PySem.boot_len (pa_cons (pv 0) pa_nil)) pe_int (nomark _)) (pss_one (ps_ret pe_non)) pss_nil) <|
      pss_cons (ps_set (i := 1) scNumF.nd rfl (.inl rfl) (pe_call GU hr (by rfl) gU FU.kp bU .nil pass0 (pa_cons (pe_ix ix_list (pv 0) pe_int (fun _ _ => rfl)) <| pa_cons (pe_glob (v := .int 10000) (by rfl) gm ⟨tm, rfl⟩) pa_nil))) <|
      pss_one (ps_ret (pe_ifExp (pt_cmpR op_isN (pv 1) pe_non (nomark _)) pe_non (pe_tup (pa_cons (pe_ix ix_list (pv 0) pe_int (fun _ _ => rfl)) <| pa_cons (pv 1) pa_nil)))), ?_⟩
    refine seq_of (ifS_of (test_of (op_of (len_of (ws.length : Nat) rfl hl lw (k_of ⟨rfl, _, rfl, ?_⟩)))))
    by_cases c : ws.length = 2
    · rw [int_yes (by omega), if_neg (show ¬ (!true) = true from Bool.false_ne_true)]
      match ws, c with
      | [v, o], _ =>
      dsimp only [tNext]
      refine seq_of (asg_of (call_of (c_of (ixk_of rfl hl (k := 1) rfl (c_of (k_of (n_of ⟨_, 10000, rfl, by decide, hws.wd o (by simp), fun n hn e => ?_, fun none => ?_⟩)))))))
      · dsimp only
        refine ret_of (if_of (test_of (op_of (v_of rfl (k_of ⟨rfl, _, rfl, ?_⟩)))))
        rw [show decide (V.int (n : Int) = V.non) = false from by simp, if_neg Bool.false_ne_true]
        refine tup_of (c_of (ixk_of rfl hl (k := 0) rfl (c_of (v_of rfl (n_of ⟨two_le, fun p hp => ?_⟩)))))
        exact yes ⟨v, o, rfl, n, hn, e⟩ _ _ ⟨Ex.new hp, p, _, rfl, upd_same⟩
      · dsimp only
        refine ret_of (if_of (test_of (op_of (v_of rfl (k_of ⟨rfl, _, rfl, ?_⟩)))))
        rw [decide_eq_true rfl, if_pos rfl]
        refine k_of (no ?_ H (Ex.refl H))
        rintro ⟨v', o', e, h⟩
        cases e
        exact none h
    · rw [int_no (by omega), if_pos (show (!false) = true from rfl)]
      refine ret_of (k_of (no ?_ H (Ex.refl H)))
      rintro ⟨v', o', rfl, _⟩
      exact c rfl
theorem ok_bare {f : Addr} {fd : FuncData} (F : Fun K "bare_form" "bare_form" sBare f fd) (mL : mg "len" = none) : FnOk P w K mg base CX0 3 f fd ["words"] (spF gBare) := by
  refine F.ok scBare (fun vs H Q E h => ?_) (fun cdv A outer s H vs Q E hr h => ?_)
  · obtain ⟨l, ws, rfl, _⟩ := h
    rfl
  · obtain ⟨l, ws, rfl, hws, ne, yes, no⟩ := h
    have hl := hws.at_
    have lw : ((ws.map V.str).length : Int) = (ws.length : Int) := by rw [List.length_map]
    refine ⟨_, pss_one (ps_ret (pe_ifExp (pt_cmpR op_eq (pe_callB call_len_seq (by rfl) mL PySem.boot_len (pa_cons (pv 0) pa_nil)) pe_int (nomark _)) (pe_tup (pa_cons (pe_ix ix_list (pv 0) pe_int (fun _ _ => rfl)) pa_nil)) pe_non)), ?_⟩
    refine ret_of (if_of (test_of (op_of (len_of (ws.length : Nat) rfl hl lw (k_of ⟨rfl, _, rfl, ?_⟩)))))
    by_cases c : ws.length = 1
    · rw [int_yes (by omega), if_pos rfl]
      match ws, c with
      | [v], _ =>
      refine tup_of (c_of (ixk_of rfl hl (k := 0) rfl (n_of ⟨by show 1 ≤ sizeLine; decide, fun p hp => ?_⟩)))
      exact yes ⟨v, rfl⟩ _ _ ⟨Ex.new hp, p, _, rfl, upd_same⟩
    · rw [int_no (by omega), if_neg Bool.false_ne_true]
      refine k_of (no ?_ H (Ex.refl H))
      rintro ⟨v', rfl⟩
      exact c rfl
theorem ok_if {f fV : Addr} {fd fdV : FuncData} (F : Fun K "if_form" "if_form" sIf f fd) (FV : Fun K "value_of" "value_of" sValue fV fdV) (bV : Binds K fdV ["word"] []) (gV : mg "value_of" = some (.ref fV)) (mL : mg "len" = none)
    (GV : FnOk P w K mg base CX0 3 fV fdV ["word"] spValue) : FnOk P w K mg base CX0 4 f fd ["words"] (spF gIf) := by
  refine F.ok scIf (fun vs H Q E h => ?_) (fun cdv A outer s H vs Q E hr h => ?_)
  · obtain ⟨l, ws, rfl, _⟩ := h
    rfl
  · obtain ⟨l, ws, rfl, hws, ne, yes, no⟩ := h
    have hl := hws.at_
    have lw : ((ws.map V.str).length : Int) = (ws.length : Int) := by rw [List.length_map]
    refine ⟨_, pss_cons (ps_if (pw_or (pt_cmpR op_ne (pe_callB call_len_seq (by rfl) mL PySem.boot_len (pa_cons (pv 0) pa_nil)) pe_int (nomark _)) (pw_or1 (pt_cmpR op_ne (pe_ix ix_list (pv 0) pe_int (fun _ _ => rfl)) pe_str (nomark _)))).pt (pss_one (ps_ret pe_non)) pss_nil) <|
      pss_cons (ps_set (i := 1) scIf.nd rfl (.inl rfl) (pe_call GV hr (by rfl) gV FV.kp bV .nil pass0 (pa_cons (pe_ix ix_list (pv 0) pe_int (fun _ _ => rfl)) pa_nil))) <|
      pss_cons (ps_set (i := 2) scIf.nd rfl (.inl rfl) (pe_call GV hr (by rfl) gV FV.kp bV .nil pass0 (pa_cons (pe_ix ix_list (pv 0) pe_int (fun _ _ => rfl)) pa_nil))) <|
      pss_one (ps_ret (pe_ifExp (pw_or (pt_cmpR op_isF (pv 1) pe_bl (nomark _)) (pw_or1 (pt_cmpR op_isF (pv 2) pe_bl (nomark _)))).pt pe_non (pe_tup (pa_cons pe_str <| pa_cons (pv 1) <| pa_cons (pv 2) pa_nil)))), ?_⟩
    refine seq_of (ifS_of (or_of (test_of (op_of (len_of (ws.length : Nat) rfl hl lw (k_of ⟨rfl, _, rfl, ?_⟩))))))
    by_cases c : ws.length = 4
    · rw [int_yes (by omega), if_neg (show ¬ (!true) = true from Bool.false_ne_true)]
      match ws, c with
      | [v, a, i, b], _ =>
      have bad : ¬ (i = "is" ∧ ValW a ∧ ValW b) → ¬ gIf [v, a, i, b] := fun n => by
        rintro ⟨v', a', b', e, h1, h2⟩
        cases e
        exact n ⟨rfl, h1, h2⟩
      refine test_of (op_of (ixk_of rfl hl (k := 2) rfl (k_of ⟨rfl, _, rfl, ?_⟩)))
      rw [str_eq]
      by_cases gi : i = "is"
      · rw [decide_eq_true gi, if_neg (show ¬ (!true) = true from Bool.false_ne_true)]
        dsimp only [tNext]
        have two : ∀ {x : V}, (x = V.bl false → ¬ ValW a) → (x ≠ V.bl false → isPlainV x = true ∧ decide (x = .bl false) = false ∧ ValW a) → tSeq (tAsg (tCall spValue [] E0 (tCons (tOp (rIxL K) (tVar 0) (tC (.int (3 : Nat)))) tNil)) (gName 2)) (tRet (tIf (tOr (tTest (tOp rIsF (tVar 1) (tC (.bl false)))) (tTest (tOp rIsF (tVar 2) (tC (.bl false))))) (tC .non) (tTup (tCons (tC (.str "if")) (tCons (tVar 1) (tCons (tVar 2) tNil)))))) { nx := fun _ H' => Q .non H', rt := Q } [some (.ref l), some x, none] H := fun {x} h1 h2 => by
          refine seq_of (asg_of (call_of (c_of (ixk_of rfl hl (k := 3) rfl (n_of ⟨_, rfl, hws.wd b (by simp), fun vb y hy => ?_, fun nvb => ?_⟩)))))
          · dsimp only
            obtain ⟨r1, r2⟩ := val_plain hy
            by_cases xf : x = V.bl false
            · subst xf
              refine ret_of (if_of (or_of (test_of (op_of (v_of rfl (k_of ⟨false, rfl, rfl, _, rfl, ?_⟩))))))
              rw [decide_eq_true rfl, if_pos rfl, if_pos rfl]
              exact k_of (no (bad fun h => h1 rfl h.2.1) H (Ex.refl H))
            · obtain ⟨p1, p2, va⟩ := h2 xf
              refine ret_of (if_of (or_of (test_of (op_of (v_of rfl (k_of ⟨false, p1, rfl, _, rfl, ?_⟩))))))
              rw [p2, if_neg Bool.false_ne_true]
              refine test_of (op_of (v_of rfl (k_of ⟨false, r1, rfl, _, rfl, ?_⟩)))
              rw [r2, if_neg Bool.false_ne_true]
              refine tup_of (c_of (k_of (c_of (v_of rfl (c_of (v_of rfl (n_of ⟨by show 3 ≤ sizeLine; decide, fun p hp => ?_⟩)))))))
              exact yes ⟨v, a, b, by rw [gi], va, vb⟩ _ _ ⟨Ex.new hp, p, _, rfl, upd_same⟩
          · dsimp only
            by_cases xf : x = V.bl false
            · subst xf
              refine ret_of (if_of (or_of (test_of (op_of (v_of rfl (k_of ⟨false, rfl, rfl, _, rfl, ?_⟩))))))
              rw [decide_eq_true rfl, if_pos rfl, if_pos rfl]
              exact k_of (no (bad fun h => h1 rfl h.2.1) H (Ex.refl H))
            · obtain ⟨p1, p2, va⟩ := h2 xf
              refine ret_of (if_of (or_of (test_of (op_of (v_of rfl (k_of ⟨false, p1, rfl, _, rfl, ?_⟩))))))
              rw [p2, if_neg Bool.false_ne_true]
              refine test_of (op_of (v_of rfl (k_of ⟨false, rfl, rfl, _, rfl, ?_⟩)))
              rw [decide_eq_true rfl, if_pos rfl]
              exact k_of (no (bad fun h => nvb h.2.2) H (Ex.refl H))
        refine seq_of (asg_of (call_of (c_of (ixk_of rfl hl (k := 1) rfl (n_of ⟨_, rfl, hws.wd a (by simp), fun va x hx => ?_, fun nva => ?_⟩)))))
        · obtain ⟨p1, p2⟩ := val_plain hx
          exact two (fun e => by rw [e] at p2; simp at p2) fun _ => ⟨p1, p2, va⟩
        · exact two (fun _ => nva) fun n => absurd rfl n
      · rw [decide_eq_false gi, if_pos (show (!false) = true from rfl)]
        exact ret_of (k_of (no (bad fun h => gi h.1) H (Ex.refl H)))
    · rw [int_no (by omega), if_pos (show (!false) = true from rfl), if_pos rfl]
      refine ret_of (k_of (no ?_ H (Ex.refl H)))
      rintro ⟨v', a', b', rfl, _⟩
      exact c rfl
theorem ok_weak {f fN : Addr} {fd fdN : FuncData} (F : Fun K "weak_form" "weak_form" sWeak f fd) (FN : Fun K "is_name" "is_name" sIsName fN fdN) (T : Tb2 K w mg dH dZ) (bN : Binds K fdN ["word"] []) (gN : mg "is_name" = some (.ref fN)) (mL : mg "len" = none)
    (GN' : FnOk P w K mg base CX0 1 fN fdN ["word"] spIsName) : FnOk P w K mg base CX0 3 f fd ["words"] (spF gWeak) := by
  have GN : FnOk P w K mg base CX0 2 fN fdN ["word"] spIsName := GN'.mono (by decide)
  refine F.ok scWeak (fun vs H Q E h => ?_) (fun cdv A outer s H vs Q E hr h => ?_)
  · obtain ⟨l, ws, rfl, _⟩ := h
    rfl
  · obtain ⟨l, ws, rfl, hws, ne, yes, no⟩ := h
    have hl := hws.at_
    have lw : ((ws.map V.str).length : Int) = (ws.length : Int) := by rw [List.length_map]
    refine ⟨_, pss_cons (ps_if (pw_or (pt_cmpR op_ne (pe_callB call_len_seq (by rfl) mL PySem.boot_len (pa_cons (pv 0) pa_nil)) pe_int (nomark _)) (pw_or (pt_cmpR op_notIn_seq (pe_ix ix_list (pv 0) pe_int (fun _ _ => rfl)) (pe_glob (v := .ref dH) (by rfl) T.homes rfl) (by rfl)) (pw_or1 (pt_not (pt_val (pe_call GN hr (by rfl) gN FN.kp bN .nil pass0 (pa_cons (pe_ix ix_list (pv 0) pe_int (fun _ _ => rfl)) pa_nil))))))).pt (pss_one (ps_ret pe_non)) pss_nil) <|
      pss_one (ps_ret (pe_tup (pa_cons pe_str <| pa_cons (pe_ix ix_list (pv 0) pe_int (fun _ _ => rfl)) <| pa_cons pe_str <| pa_cons (pe_ix ix_list (pv 0) pe_int (fun _ _ => rfl)) <| pa_cons (pe_ix ix_list (pv 0) pe_int (fun _ _ => rfl)) pa_nil))), ?_⟩
    refine seq_of (ifS_of (or_of (test_of (op_of (len_of (ws.length : Nat) rfl hl lw (k_of ⟨rfl, _, rfl, ?_⟩))))))
    by_cases c : ws.length = 6
    · rw [int_yes (by omega), if_neg (show ¬ (!true) = true from Bool.false_ne_true)]
      match ws, c with
      | [a, b, c, d, h, o], _ =>
      have bad : ¬ (h ∈ homes2 ∧ nameB o = true) → ¬ gWeak [a, b, c, d, h, o] := fun n => by
        rintro ⟨_, _, _, _, _, _, e, h1, h2⟩
        cases e
        exact n ⟨h1, h2⟩
      refine or_of (test_of (op_of (ixk_of rfl hl (k := 4) rfl (k_of ⟨dH, _, rfl, .inr (T.hm H), rfl, homes_flat, _, rfl, ?_⟩))))
      rw [if_pos rfl, inV_strs]
      by_cases hh : h ∈ homes2
      · rw [decide_eq_true hh, if_neg (show ¬ (!true) = true from Bool.false_ne_true)]
        refine not_of (test_of (call_of (c_of (ixk_of rfl hl (k := 5) rfl (n_of ⟨_, rfl, hws.wd o (by simp), nameB o, rfl, ?_⟩)))))
        cases nb : nameB o with
        | true =>
          rw [if_neg (show ¬ (!true) = true from Bool.false_ne_true)]
          dsimp only [tNext]
          refine ret_of (tup_of (c_of (k_of (c_of (ixk_of rfl hl (k := 1) rfl (c_of (k_of (c_of (ixk_of rfl hl (k := 4) rfl (c_of (ixk_of rfl hl (k := 5) rfl (n_of ⟨by show 5 ≤ sizeLine; decide, fun p hp => ?_⟩))))))))))))
          exact yes ⟨_, _, _, _, _, _, rfl, hh, nb⟩ _ _ ⟨Ex.new hp, p, _, rfl, upd_same⟩
        | false =>
          rw [if_pos (show (!false) = true from rfl)]
          exact ret_of (k_of (no (bad fun h => by rw [nb] at h; cases h.2) H (Ex.refl H)))
      · rw [decide_eq_false hh, if_pos (show (!false) = true from rfl), if_pos rfl]
        exact ret_of (k_of (no (bad fun h => hh h.1) H (Ex.refl H)))
    · rw [int_no (by omega), if_pos (show (!false) = true from rfl), if_pos rfl]
      refine ret_of (k_of (no ?_ H (Ex.refl H)))
      rintro ⟨_, _, _, _, _, _, rfl, _⟩
      exact c rfl
theorem ok_map {f : Addr} {fd : FuncData} (F : Fun K "map_form" "map_form" sMap f fd) (T : Tb2 K w mg dH dZ) (mL : mg "len" = none) : FnOk P w K mg base CX0 3 f fd ["words"] (spF gMap) := by
  refine F.ok scMap (fun vs H Q E h => ?_) (fun cdv A outer s H vs Q E hr h => ?_)
  · obtain ⟨l, ws, rfl, _⟩ := h
    rfl
  · obtain ⟨l, ws, rfl, hws, ne, yes, no⟩ := h
    have hl := hws.at_
    have lw : ((ws.map V.str).length : Int) = (ws.length : Int) := by rw [List.length_map]
    refine ⟨_, pss_cons (ps_if (pw_or (pt_cmpR op_ne (pe_callB call_len_seq (by rfl) mL PySem.boot_len (pa_cons (pv 0) pa_nil)) pe_int (nomark _)) (pw_or1 (pt_cmpR op_notIn_seq (pe_ix ix_list (pv 0) pe_int (fun _ _ => rfl)) (pe_glob (v := .ref dH) (by rfl) T.homes rfl) (by rfl)))).pt (pss_one (ps_ret pe_non)) pss_nil) <|
      pss_one (ps_ret (pe_tup (pa_cons pe_str <| pa_cons (pe_ix ix_list (pv 0) pe_int (fun _ _ => rfl)) <| pa_cons pe_str <| pa_cons (pe_ix ix_list (pv 0) pe_int (fun _ _ => rfl)) pa_nil))), ?_⟩
    refine seq_of (ifS_of (or_of (test_of (op_of (len_of (ws.length : Nat) rfl hl lw (k_of ⟨rfl, _, rfl, ?_⟩))))))
    by_cases c : ws.length = 5
    · rw [int_yes (by omega), if_neg (show ¬ (!true) = true from Bool.false_ne_true)]
      match ws, c with
      | [a, b, c, d, h], _ =>
      refine test_of (op_of (ixk_of rfl hl (k := 4) rfl (k_of ⟨dH, _, rfl, .inr (T.hm H), rfl, homes_flat, _, rfl, ?_⟩)))
      rw [if_pos rfl, inV_strs]
      by_cases hh : h ∈ homes2
      · rw [decide_eq_true hh, if_neg (show ¬ (!true) = true from Bool.false_ne_true)]
        dsimp only [tNext]
        refine ret_of (tup_of (c_of (k_of (c_of (ixk_of rfl hl (k := 1) rfl (c_of (k_of (c_of (ixk_of rfl hl (k := 4) rfl (n_of ⟨by show 4 ≤ sizeLine; decide, fun p hp => ?_⟩))))))))))
        exact yes ⟨_, _, _, _, _, rfl, hh⟩ _ _ ⟨Ex.new hp, p, _, rfl, upd_same⟩
      · rw [decide_eq_false hh, if_pos (show (!false) = true from rfl)]
        refine ret_of (k_of (no ?_ H (Ex.refl H)))
        rintro ⟨_, _, _, _, _, e, h1⟩
        cases e
        exact hh h1
    · rw [int_no (by omega), if_pos (show (!false) = true from rfl), if_pos rfl]
      refine ret_of (k_of (no ?_ H (Ex.refl H)))
      rintro ⟨_, _, _, _, _, rfl, _⟩
      exact c rfl
end
end Qw
/-! record_form of any words -/
namespace Qw
open PySem PySem.Spec PyProof.Rows L2 Evl Gd Sn
def sizes7 : List Str := ["0", "1", "2", "3", "4", "5", "6"]
def gRec (ws : List Str) : Prop := ∃ a b c d h k : Str, h ∈ homes2 ∧ k ∈ sizes7 ∧ (ws = [a, b, c, d, h, k] ∨ ∃ u : Str, ws = [a, b, c, d, h, k, "then", u] ∧ localB u = true)
theorem seven_is : ∀ z ∈ sizes7, ∃ m : Fin 7, z = Str.ofString (toString ((m.val : Nat) : Int)) := by decide +kernel
theorem in68 {n : Nat} : inV (V.int (n : Int)) [V.int 6, V.int 8] = (decide (n = 6) || decide (n = 8)) := by
  unfold inV
  show (decide ((6 : Int) = (n : Int)) || (decide ((8 : Int) = (n : Int)) || false)) = _
  rw [Bool.or_false]
  congr 1 <;> exact decide_eq_decide.mpr ⟨fun h => by omega, fun h => by omega⟩
section
variable {P : Program} {w : World} {K : PySem.W.Frag} {mg : Str → Option Value} {base : Heap} {dT dS dH dZ : Addr}
theorem ok_rec {f fL : Addr} {fd fdL : FuncData} (F : Fun K "record_form" "record_form" sRec f fd) (FL : Fun K "is_local" "is_local" sIsLocal fL fdL) (T : Tb2 K w mg dH dZ) (bL : Binds K fdL ["word"] []) (gL : mg "is_local" = some (.ref fL)) (mL : mg "len" = none)
    (GL : FnOk P w K mg base CX0 2 fL fdL ["word"] spIsLocal) : FnOk P w K mg base CX0 3 f fd ["words"] (spF gRec) := by
  obtain ⟨es, n, kd⟩ := T.sz
  refine F.ok scRec (fun vs H Q E h => ?_) (fun cdv A outer s H vs Q E hr h => ?_)
  · obtain ⟨l, ws, rfl, _⟩ := h
    rfl
  · obtain ⟨l, ws, rfl, hws, ne, yes, no⟩ := h
    have hl := hws.at_
    have lw : ((ws.map V.str).length : Int) = (ws.length : Int) := by rw [List.length_map]
    refine ⟨_, pss_cons (ps_if (pw_or (pt_cmpR op_notIn_seq (pe_callB call_len_seq (by rfl) mL PySem.boot_len (pa_cons (pv 0) pa_nil)) (pe_tup (pa_cons pe_int <| pa_cons pe_int pa_nil)) (by rfl)) (pw_or (pt_cmpR op_notIn_seq (pe_ix ix_list (pv 0) pe_int (fun _ _ => rfl)) (pe_glob (v := .ref dH) (by rfl) T.homes rfl) (by rfl)) (pw_or1 (pt_cmpR (op_notIn_kd kd) (pe_ix ix_list (pv 0) pe_int (fun _ _ => rfl)) (pe_glob (v := .ref dZ) (by rfl) T.sizes rfl) (by rfl))))).pt (pss_one (ps_ret pe_non)) pss_nil) <|
      pss_cons (ps_if (pt_cmpR op_eq (pe_callB call_len_seq (by rfl) mL PySem.boot_len (pa_cons (pv 0) pa_nil)) pe_int (nomark _)) (pss_one (ps_ret (pe_tup (pa_cons pe_str <| pa_cons (pe_ix ix_list (pv 0) pe_int (fun _ _ => rfl)) <| pa_cons pe_str <| pa_cons (pe_ix ix_list (pv 0) pe_int (fun _ _ => rfl)) <| pa_cons (pe_ix ix_kdict (pe_glob (v := .ref dZ) (by rfl) T.sizes rfl) (pe_ix ix_list (pv 0) pe_int (fun _ _ => rfl)) (fun _ _ => rfl)) <| pa_cons pe_non pa_nil)))) pss_nil) <|
      pss_cons (ps_if (pw_or (pt_cmpR op_ne (pe_ix ix_list (pv 0) pe_int (fun _ _ => rfl)) pe_str (nomark _)) (pw_or1 (pt_not (pt_val (pe_call GL hr (by rfl) gL FL.kp bL .nil pass0 (pa_cons (pe_ix ix_list (pv 0) pe_int (fun _ _ => rfl)) pa_nil)))))).pt (pss_one (ps_ret pe_non)) pss_nil) <|
      pss_one (ps_ret (pe_tup (pa_cons pe_str <| pa_cons (pe_ix ix_list (pv 0) pe_int (fun _ _ => rfl)) <| pa_cons pe_str <| pa_cons (pe_ix ix_list (pv 0) pe_int (fun _ _ => rfl)) <| pa_cons (pe_ix ix_kdict (pe_glob (v := .ref dZ) (by rfl) T.sizes rfl) (pe_ix ix_list (pv 0) pe_int (fun _ _ => rfl)) (fun _ _ => rfl)) <| pa_cons (pe_ix ix_list (pv 0) pe_int (fun _ _ => rfl)) pa_nil))), ?_⟩
    refine seq_of (ifS_of (or_of (test_of (op_of (len_of (ws.length : Nat) rfl hl lw (tup_of (c_of (k_of (c_of (k_of (n_of ⟨two_le, fun a0 ha => ?_⟩)))))))))))
    have e1 : Ex H (upd H a0 (.tup [.int 6, .int 8])) := Ex.new ha
    refine ⟨a0, [.int 6, .int 8], rfl, .inr (st_of upd_same), rfl, rfl, _, rfl, ?_⟩
    rw [if_pos rfl, in68]
    generalize upd H a0 (.tup [.int 6, .int 8]) = H1 at e1 ⊢
    have hl1 := e1 _ _ hl
    by_cases c68 : ws.length = 6 ∨ ws.length = 8
    · rw [show (decide (ws.length = 6) || decide (ws.length = 8)) = true from by
        rcases c68 with h | h <;> rw [h] <;> rfl, if_neg (show ¬ (!true) = true from Bool.false_ne_true)]
      obtain ⟨a, b, c, d, h, k, r, ew, er⟩ : ∃ a b c d h k r, ws = a :: b :: c :: d :: h :: k :: r ∧ (r.length = 0 ∨ r.length = 2) := by
        match ws, c68 with
        | [a, b, c, d, h, k], _ => exact ⟨a, b, c, d, h, k, [], rfl, .inl rfl⟩
        | [a, b, c, d, h, k, t, u], _ => exact ⟨a, b, c, d, h, k, [t, u], rfl, .inr rfl⟩
        | [], z => rcases z with z | z <;> cases z
        | [_], z => rcases z with z | z <;> cases z
        | [_, _], z => rcases z with z | z <;> cases z
        | [_, _, _], z => rcases z with z | z <;> cases z
        | [_, _, _, _], z => rcases z with z | z <;> cases z
        | [_, _, _, _, _], z => rcases z with z | z <;> cases z
        | [_, _, _, _, _, _, _], z => rcases z with z | z <;> cases z
        | _ :: _ :: _ :: _ :: _ :: _ :: _ :: _ :: _ :: _, z => rcases z with z | z <;> simp at z
      subst ew
      have bad : ¬ (h ∈ homes2 ∧ k ∈ sizes7 ∧ (r = [] ∨ ∃ u : Str, r = [("then" : Str), u] ∧ localB u = true)) → ¬ gRec (a :: b :: c :: d :: h :: k :: r) := fun n => by
        rintro ⟨a', b', c', d', h', k', h1, h2, e | ⟨u, e, h3⟩⟩
        · cases e
          exact n ⟨h1, h2, .inl rfl⟩
        · cases e
          exact n ⟨h1, h2, .inr ⟨u, rfl, h3⟩⟩
      refine or_of (test_of (op_of (ixk_of rfl hl1 (k := 4) rfl (k_of ⟨dH, _, rfl, .inr (T.hm H1), rfl, homes_flat, _, rfl, ?_⟩))))
      rw [if_pos rfl, inV_strs]
      by_cases hh : h ∈ homes2
      · rw [decide_eq_true hh, if_neg (show ¬ (!true) = true from Bool.false_ne_true)]
        obtain ⟨rz, z1, z2⟩ := T.zo k
        refine test_of (op_of (ixk_of rfl hl1 (k := 5) rfl (k_of ⟨_, _, rfl, rfl, z1, _, rfl, ?_⟩)))
        rw [z2]
        by_cases hk : k ∈ sizes7
        · rw [decide_eq_true (show k ∈ (["0", "1", "2", "3", "4", "5", "6"] : List Str) from hk), if_neg (show ¬ (!true) = true from Bool.false_ne_true)]
          obtain ⟨m, em⟩ := seven_is k hk
          obtain ⟨t, ht⟩ := T.zn m
          rw [← em] at ht
          dsimp only [tNext]
          refine seq_of (ifS_of (test_of (op_of (len_of ((a :: b :: c :: d :: h :: k :: r).length : Nat) rfl hl1 lw (k_of ⟨rfl, _, rfl, ?_⟩)))))
          rcases er with r0 | r2
          · obtain rfl : r = [] := List.eq_nil_of_length_eq_zero r0
            rw [show decide (V.int ((([a, b, c, d, h, k] : List Str).length : Nat) : Int) = V.int 6) = true from by simp, if_pos rfl]
            refine ret_of (tup_of (c_of (k_of (c_of (ixk_of rfl hl1 (k := 1) rfl (c_of (k_of (c_of (ixk_of rfl hl1 (k := 4) rfl (c_of (op_of (k_of (ixk_of rfl hl1 (k := 5) rfl ⟨_, _, .int (m.val : Int), rfl, rfl, ⟨es, n, _, kd.at_, kd.lit, ht, ⟨t, rfl⟩⟩, c_of (k_of (n_of ⟨by show 6 ≤ sizeLine; decide, fun p hp => ?_⟩))⟩)))))))))))))
            exact yes ⟨a, b, c, d, h, k, hh, hk, .inl rfl⟩ _ _ ⟨e1.trans (Ex.new hp), p, _, rfl, upd_same⟩
          · match r, r2 with
            | [tn, u], _ =>
            rw [show decide (V.int ((([a, b, c, d, h, k, tn, u] : List Str).length : Nat) : Int) = V.int 6) = false from by simp, if_neg Bool.false_ne_true]
            dsimp only [tNext]
            refine seq_of (ifS_of (or_of (test_of (op_of (ixk_of rfl hl1 (k := 6) rfl (k_of ⟨rfl, _, rfl, ?_⟩))))))
            rw [str_eq]
            by_cases gt : tn = "then"
            · rw [decide_eq_true gt, if_neg (show ¬ (!true) = true from Bool.false_ne_true)]
              refine not_of (test_of (call_of (c_of (ixk_of rfl hl1 (k := 7) rfl (n_of ⟨_, rfl, hws.wd u (by simp), localB u, rfl, ?_⟩)))))
              cases lu : localB u with
              | true =>
                rw [if_neg (show ¬ (!true) = true from Bool.false_ne_true)]
                dsimp only [tNext]
                refine ret_of (tup_of (c_of (k_of (c_of (ixk_of rfl hl1 (k := 1) rfl (c_of (k_of (c_of (ixk_of rfl hl1 (k := 4) rfl (c_of (op_of (k_of (ixk_of rfl hl1 (k := 5) rfl ⟨_, _, .int (m.val : Int), rfl, rfl, ⟨es, n, _, kd.at_, kd.lit, ht, ⟨t, rfl⟩⟩, c_of (ixk_of rfl hl1 (k := 7) rfl (n_of ⟨by show 6 ≤ sizeLine; decide, fun p hp => ?_⟩))⟩)))))))))))))
                exact yes ⟨a, b, c, d, h, k, hh, hk, .inr ⟨u, by rw [gt], lu⟩⟩ _ _ ⟨e1.trans (Ex.new hp), p, _, rfl, upd_same⟩
              | false =>
                rw [if_pos (show (!false) = true from rfl)]
                refine ret_of (k_of (no (bad ?_) H1 e1))
                rintro ⟨_, _, e | ⟨u', e, h3⟩⟩
                · cases e
                · cases e
                  rw [lu] at h3
                  cases h3
            · rw [decide_eq_false gt, if_pos (show (!false) = true from rfl), if_pos rfl]
              refine ret_of (k_of (no (bad ?_) H1 e1))
              rintro ⟨_, _, e | ⟨u', e, h3⟩⟩
              · cases e
              · cases e
                exact gt rfl
        · rw [decide_eq_false (show ¬ k ∈ (["0", "1", "2", "3", "4", "5", "6"] : List Str) from hk), if_pos (show (!false) = true from rfl)]
          exact ret_of (k_of (no (bad fun x => hk x.2.1) H1 e1))
      · rw [decide_eq_false hh, if_pos (show (!false) = true from rfl), if_pos rfl]
        exact ret_of (k_of (no (bad fun x => hh x.1) H1 e1))
    · rw [show (decide (ws.length = 6) || decide (ws.length = 8)) = false from by
        rw [decide_eq_false (fun z => c68 (.inl z)), decide_eq_false (fun z => c68 (.inr z))]
        rfl, if_pos (show (!false) = true from rfl), if_pos rfl]
      refine ret_of (k_of (no ?_ H1 e1))
      rintro ⟨_, _, _, _, _, _, _, _, rfl | ⟨u, rfl, _⟩⟩
      · exact c68 (.inl rfl)
      · exact c68 (.inr rfl)
end
end Qw
/-! proc_form, do_form of any words -/
namespace Qw
open PySem PySem.Spec PyProof.Rows L2 Evl Gd Sn
def rCntS (K : PySem.W.Frag) : V → List V → Hp → VK → Prop := fun x xs H Q => ∃ (p : Addr) (ys : List Str) (k : Str), x = .ref p ∧ xs = [.str k] ∧ SqL K H p (ys.map V.str) ∧ Q (.int (countIn (PyData.str k) (ys.map PyData.str))) H
theorem mt_lcountS {X : Cx} : MtR X "list.count" (rCntS X.K) := by
  intro pins s σ H x xs v us Q I rx rxs h
  obtain ⟨p, ys, k, rfl, rfl, hs, q⟩ := h
  obtain rfl : v = Value.ref p := rx
  obtain ⟨u, rfl, t, rfl⟩ := vals1 rxs
  obtain ⟨its, rv, hl, hlen⟩ := I.list hs
  exact count_list_strs hl.isList rv.strs ⟨.int _, H, I.tok _, ⟨_, rfl⟩, q⟩
theorem chain_of {r r' : R2} {ta tb tc : TE} {σ : L2.St} {H : Hp} {Q : VK} (h : ta σ H fun x H1 => tb σ H1 fun y H2 => r x y H2 fun z H3 => ∃ k, z = .bl k ∧ (if k = true then tc σ H3 fun w' H4 => r' y w' H4 Q else Q (.bl false) H3)) : tChain r r' ta tb tc σ H Q := h
theorem bm_of {K : PySem.W.Frag} {T : String} {r : V → List V → Hp → VK → Prop} {to : TE} {t : TA} {σ : L2.St} {H : Hp} {Q : VK} (h : to σ H fun x H1 => tyV K T x H1 ∧ t σ H1 fun xs H2 => r x xs H2 Q) : tBM K T r to t σ H Q := h
abbrev sProc : Stmt := topS 34
abbrev sDo : Stmt := topS 35
abbrev sStore : Stmt := topS 36
abbrev sLet : Stmt := topS 28
abbrev sSay : Stmt := topS 29
abbrev nProc : List Str := ["words", "names", "word", "name"]
abbrev nDo : List Str := ["words", "values", "word", "value"]
abbrev nStore : List Str := ["words", "value", "place"]
abbrev nLet : List Str := ["words", "form"]
abbrev nSay : List Str := ["words", "statement"]
theorem scProc : FnScope nProc ["words"] (defScope sProc) := ⟨rfl, rfl, rfl, by decide +kernel, rfl, by decide +kernel, by decide +kernel⟩
theorem scDo : FnScope nDo ["words"] (defScope sDo) := ⟨rfl, rfl, rfl, by decide +kernel, rfl, by decide +kernel, by decide +kernel⟩
theorem scStore : FnScope nStore ["words"] (defScope sStore) := ⟨rfl, rfl, rfl, by decide +kernel, rfl, by decide +kernel, by decide +kernel⟩
theorem scLet : FnScope nLet ["words"] (defScope sLet) := ⟨rfl, rfl, rfl, by decide +kernel, rfl, by decide +kernel, by decide +kernel⟩
theorem scSay : FnScope nSay ["words"] (defScope sSay) := ⟨rfl, rfl, rfl, by decide +kernel, rfl, by decide +kernel, by decide +kernel⟩
theorem ixn_of {K : PySem.W.Frag} {σ : L2.St} {H : Hp} {Q : VK} {i : Nat} {k : Int} {l : Addr} {xs : List V} {v : V} (e : σ[i]? = some (some (.ref l))) (h : H l = some (.lst xs)) (a : atI xs (-k) = some v) (q : Q v H) : tOp (rIxL K) (tVar i) (tUn (rU fun i => .int (-i)) (tC (.int k))) σ H Q :=
  ⟨_, e, k, rfl, l, xs, -k, v, rfl, rfl, sq_of h, a, q⟩
def gProc (ws : List Str) : Prop := ∃ (v c : Str) (us : List Str), ws = v :: c :: us ∧ us.length ≤ 4 ∧ localB c = true ∧ (∀ u ∈ us, localB u = true) ∧ us.Nodup
def gDo (ws : List Str) : Prop := ∃ (v c : Str) (us : List Str), ws = v :: c :: us ∧ localB c = true ∧ ∀ u ∈ us, ValW u
theorem cut1 {v : Str} {r : List Str} : cutV ((v :: r).map V.str) (some 1) none = r.map V.str := by
  unfold cutV
  have h1 : HT.sIx ((v :: r).map V.str).length 0 (some ((1 : Nat) : Int)) = min 1 ((v :: r).map V.str).length := HT.sIx_nat _ 0 1
  have h2 : HT.sIx ((v :: r).map V.str).length ((v :: r).map V.str).length none = ((v :: r).map V.str).length := rfl
  have hl : ((v :: r).map V.str).length = r.length + 1 := by rw [List.length_map, List.length_cons]
  rw [show (some (1 : Int)) = some ((1 : Nat) : Int) from rfl, h1, h2, hl, Nat.min_eq_left (by omega), List.map_cons, List.drop_one, List.tail_cons, List.take_of_length_le (by rw [List.length_map]; omega)]
theorem cut2 {v c : Str} {r : List Str} : cutV ((v :: c :: r).map V.str) (some 2) none = r.map V.str := by
  unfold cutV
  have h1 : HT.sIx ((v :: c :: r).map V.str).length 0 (some ((2 : Nat) : Int)) = min 2 ((v :: c :: r).map V.str).length := HT.sIx_nat _ 0 2
  have h2 : HT.sIx ((v :: c :: r).map V.str).length ((v :: c :: r).map V.str).length none = ((v :: c :: r).map V.str).length := rfl
  have hl : ((v :: c :: r).map V.str).length = r.length + 2 := by rw [List.length_map, List.length_cons, List.length_cons]
  rw [show (some (2 : Int)) = some ((2 : Nat) : Int) from rfl, h1, h2, hl, Nat.min_eq_left (by omega), List.map_cons, List.map_cons, show List.drop 2 (V.str v :: V.str c :: r.map V.str) = r.map V.str from rfl, List.take_of_length_le (by rw [List.length_map]; omega)]
theorem cnt_is {n : Str} : ∀ ns : List Str, countIn (PyData.str n) (ns.map PyData.str) = ((ns.count n : Nat) : Int)
  | [] => rfl
  | m :: ns => by
    rw [List.map_cons, countIn, cnt_is ns, List.count_cons]
    have e : same (.str m) (.str n) = (m == n) := rfl
    rw [e]
    by_cases c : m = n
    · subst c
      simp
      omega
    · have : (m == n) = false := by simp [c]
      rw [this]
      simp
theorem dup_iff {ns : List Str} : ((ns.map fun n => decide (((ns.count n : Nat) : Int) > 1)).any id) = true ↔ ¬ ns.Nodup := by
  rw [List.any_map, List.any_eq_true, List.nodup_iff_count]
  constructor
  · rintro ⟨n, _, h⟩ all
    have h := of_decide_eq_true (show decide (((ns.count n : Nat) : Int) > 1) = true from h)
    have := all n
    omega
  · intro h
    obtain ⟨n, hn⟩ := Classical.not_forall.mp h
    refine ⟨n, ?_, decide_eq_true (by omega)⟩
    exact List.count_pos_iff.mp (by omega)
section
variable {P : Program} {w : World} {K : PySem.W.Frag} {mg : Str → Option Value} {base : Heap} {dT dS dH dZ : Addr}
theorem ok_proc {f fL : Addr} {fd fdL : FuncData} (F : Fun K "proc_form" "proc_form" sProc f fd) (FL : Fun K "is_local" "is_local" sIsLocal fL fdL) (bL : Binds K fdL ["word"] []) (gL : mg "is_local" = some (.ref fL)) (gM : ∃ t, mg "MOST_PARAMETERS" = some (.int 4 t)) (mL : mg "len" = none) (mA : mg "all" = none) (mY : mg "any" = none) (mT : mg "tuple" = none)
    (GL : FnOk P w K mg base CX0 2 fL fdL ["word"] spIsLocal) : FnOk P w K mg base CX0 3 f fd ["words"] (spF gProc) := by
  obtain ⟨tm, gm⟩ := gM
  refine F.ok scProc (fun vs H Q E h => ?_) (fun cdv A outer s H vs Q E hr h => ?_)
  · obtain ⟨l, ws, rfl, _⟩ := h
    rfl
  · obtain ⟨l, ws, rfl, hws, ne, yes, no⟩ := h
    have hl := hws.at_
    have few := hws.few
    have lw : ((ws.map V.str).length : Int) = (ws.length : Int) := by rw [List.length_map]
    refine ⟨_, pss_cons (ps_if (pt_not (pt_chain op_le op_le pe_int (pe_callB call_len_seq (by rfl) mL PySem.boot_len (pa_cons (pv 0) pa_nil)) (pe_op op_add pe_int (pe_glob (v := .int 4) (by rfl) gm ⟨tm, rfl⟩)))) (pss_one (ps_ret pe_non)) pss_nil) <|
      pss_cons (ps_if (pt_not (pt_val (pe_callB (cr_all rfl) (by rfl) mA (by decide +kernel) (pa_cons (pe_lc (own := [("word", 2)]) (g := gName 2) (tt := tYes) (te := tCall spIsLocal [] E0 (tCons (tVar 2) tNil)) rfl scProc.nd (pi_list (pe_slice sl_list (pv 0) (po_some pe_int) po_none)) (blkOk_by (N := nProc) (sc := defScope sProc) (by decide +kernel))
          (fun _ _ _ _ _ => pg_name (i := 2) scProc.nd rfl (.inl rfl)) (fun _ _ _ _ _ => pts_nil) (fun _ _ _ _ _ => pe_call GL hr (by rfl) gL FL.kp bL .nil pass0 (pa_cons (pv 2) pa_nil))) pa_nil)))) (pss_one (ps_ret pe_non)) pss_nil) <|
      pss_cons (ps_set (i := 1) scProc.nd rfl (.inr rfl) (pe_slice sl_list (pv 0) (po_some pe_int) po_none)) <|
      pss_cons (ps_if (pt_val (pe_callB (cr_any rfl) (by rfl) mY (by decide +kernel) (pa_cons (pe_lc (own := [("name", 3)]) (g := gName 3) (tt := tYes) (te := tOp rGt (tBM K "list" (rCntS K) (tVar 1) (tCons (tVar 3) tNil)) (tC (.int 1))) rfl scProc.nd (pi_list (pv 1)) (blkOk_by (N := nProc) (sc := defScope sProc) (by decide +kernel))
          (fun _ _ _ _ _ => pg_name (i := 3) scProc.nd rfl (.inl rfl)) (fun _ _ _ _ _ => pts_nil) (fun _ _ _ _ _ => pe_cmpR op_gt (pe_bm PySem.F.plainAttrs_list PySem.F.slot_list_count PySem.F.type_list_count mt_lcountS (pv 1) (pa_cons (pv 3) pa_nil)) pe_int (nomark _))) pa_nil))) (pss_one (ps_ret pe_non)) pss_nil) <|
      pss_one (ps_ret (pe_tup (pa_cons pe_str <| pa_cons (pe_ix ix_list (pv 0) pe_int (fun _ _ => rfl)) <| pa_cons (pe_callTy call_tuple_of (by rfl) mT (by decide +kernel) (pa_cons (pv 1) pa_nil)) pa_nil))), ?_⟩
    refine seq_of (ifS_of (not_of (test_of (chain_of (k_of (len_of (ws.length : Nat) rfl hl lw ⟨_, _, rfl, rfl, _, rfl, ?_⟩))))))
    by_cases c2 : 2 ≤ ws.length
    · rw [decide_eq_true (by omega), if_pos rfl]
      refine op_of (k_of (k_of ⟨_, _, rfl, rfl, _, _, rfl, rfl, _, rfl, ?_⟩))
      by_cases c6 : ws.length ≤ 6
      · rw [decide_eq_true (show ((ws.length : Nat) : Int) ≤ 2 + 4 by omega), if_neg (show ¬ (!true) = true from Bool.false_ne_true)]
        match ws, c2 with
        | v :: c :: us, _ =>
        rw [List.length_cons, List.length_cons] at c6
        dsimp only [tNext]
        refine seq_of (ifS_of (not_of (test_of (cb_of (c_of (lc_of (iL_of (slS_of (v_of rfl (k_of ⟨1, rfl, l, _, rfl, sq_of hl, fun p hp => ⟨p, rfl, ⟨_, sq_of upd_same⟩, fun D hD => ?_⟩⟩))))))))))
        rw [cut1] at hD ⊢
        have x1 : Ex H (upd H p (.lst ((c :: us).map V.str))) := Ex.new hp
        have y1 : (upd H p (.lst ((c :: us).map V.str))) p = some (.lst ((c :: us).map V.str)) := upd_same
        generalize upd H p (.lst ((c :: us).map V.str)) = H1 at x1 y1 hD ⊢
        refine lc_list (xs := (c :: us).map V.str) (fun i H' => Ex H1 H' ∧ H' D = some (.lst ((((c :: us).take i).map localB).map V.bl))) ⟨Ex.new hD, upd_same⟩ (fun i H' _ h => sq_of (h.1 _ _ y1)) ?_ ?_
        · rintro i x' H' hx ⟨e, hd⟩
          rw [List.getElem?_map] at hx
          obtain ⟨u, hu', rfl⟩ := Option.map_eq_some_iff.mp hx
          refine ⟨rfl, ?_⟩
          dsimp only [tYes]
          rw [if_pos rfl]
          refine call_of (c_of (v_of rfl (n_of ⟨_, rfl, hws.wd u (List.mem_cons_of_mem _ (List.mem_of_getElem? hu')), ?_⟩)))
          refine ⟨_, hd, sz_lt (by rw [List.length_map, List.length_map, List.length_take, List.length_cons]; omega), Ex.mut e hD, ?_⟩
          rw [upd_same, take_one hu', List.map_append, List.map_append]
          rfl
        rintro H2 ⟨e2, hd⟩
        rw [List.length_map, List.take_length] at hd
        refine n_of ⟨D, _, rfl, sq_of hd, _, rfl, ?_⟩
        have e02 := x1.trans e2
        by_cases al : ((c :: us).map localB).all id = true
        · rw [al, if_neg (show ¬ (!true) = true from Bool.false_ne_true)]
          dsimp only [tNext]
          refine seq_of (asg_of (slS_of (v_of rfl (k_of ⟨2, rfl, l, _, rfl, sq_of (e02 _ _ hl), fun p2 hp2 => ?_⟩))))
          rw [cut2]
          have x3 : Ex H2 (upd H2 p2 (.lst (us.map V.str))) := Ex.new hp2
          have y3 : (upd H2 p2 (.lst (us.map V.str))) p2 = some (.lst (us.map V.str)) := upd_same
          generalize upd H2 p2 (.lst (us.map V.str)) = H3 at x3 y3 ⊢
          dsimp only
          refine seq_of (ifS_of (test_of (cb_of (c_of (lc_of (iL_of (v_of rfl ⟨p2, rfl, ⟨_, sq_of y3⟩, fun D2 hD2 => lc_list (xs := us.map V.str) (fun i H' => Ex H3 H' ∧ H' D2 = some (.lst (((us.take i).map fun n => decide (((us.count n : Nat) : Int) > 1)).map V.bl))) ⟨Ex.new hD2, upd_same⟩ (fun i H' _ h => sq_of (h.1 _ _ y3)) ?_ ?_⟩)))))))
          · rintro i x' H' hx ⟨e, hd2⟩
            rw [List.getElem?_map] at hx
            obtain ⟨u, hu', rfl⟩ := Option.map_eq_some_iff.mp hx
            refine ⟨rfl, ?_⟩
            dsimp only [tYes]
            rw [if_pos rfl]
            refine op_of (bm_of (v_of rfl ⟨.inl ⟨rfl, _, sq_of (e _ _ y3)⟩, c_of (v_of rfl (n_of ⟨p2, us, u, rfl, rfl, sq_of (e _ _ y3), k_of ⟨_, _, rfl, rfl, ?_⟩⟩))⟩))
            rw [cnt_is]
            refine ⟨_, hd2, sz_lt (by rw [List.length_map, List.length_map, List.length_take]; omega), Ex.mut e hD2, ?_⟩
            rw [upd_same, take_one hu', List.map_append, List.map_append]
            rfl
          rintro H4 ⟨e4, hd2⟩
          rw [List.length_map, List.take_length] at hd2
          refine n_of ⟨D2, _, rfl, sq_of hd2, _, rfl, ?_⟩
          have e04 := (e02.trans x3).trans e4
          by_cases dup : ((us.map fun n => decide (((us.count n : Nat) : Int) > 1)).any id) = true
          · rw [dup, if_pos rfl]
            refine ret_of (k_of (no ?_ H4 e04))
            rintro ⟨v', c', us', e, _, _, _, nd⟩
            cases e
            exact dup_iff.mp dup nd
          · rw [if_neg dup]
            dsimp only [tNext]
            refine ret_of (tup_of (c_of (k_of (c_of (ixk_of rfl (e04 _ _ hl) (k := 1) rfl (c_of (cb_of (c_of (v_of rfl (n_of ⟨p2, _, rfl, .inl ⟨sq_of (e4 _ _ y3), fun p5 hp5 => n_of ⟨by show 3 ≤ sizeLine; decide, fun p6 hp6 => ?_⟩⟩⟩))))))))))
            have al' : ∀ u ∈ c :: us, localB u = true := fun u hu => by
              rw [List.all_map, List.all_eq_true] at al
              exact al u hu
            exact yes ⟨v, c, us, rfl, by omega, al' c List.mem_cons_self, fun u hu => al' u (List.mem_cons_of_mem _ hu), Classical.not_not.mp fun nd => dup (dup_iff.mpr nd)⟩ _ _ ⟨e04.trans ((Ex.new hp5).trans (Ex.new hp6)), p6, _, rfl, upd_same⟩
        · rw [show ((c :: us).map localB).all id = false from by
            cases y : ((c :: us).map localB).all id with
            | false => rfl
            | true => exact absurd y al, if_pos (show (!false) = true from rfl)]
          refine ret_of (k_of (no ?_ H2 e02))
          rintro ⟨v', c', us', e, _, h1, h2, _⟩
          cases e
          refine al ?_
          rw [List.all_map, List.all_eq_true]
          intro u hu
          rcases List.mem_cons.mp hu with rfl | hu
          · exact h1
          · exact h2 u hu
      · rw [decide_eq_false (show ¬ ((ws.length : Nat) : Int) ≤ 2 + 4 by omega), if_pos (show (!false) = true from rfl)]
        refine ret_of (k_of (no ?_ H (Ex.refl H)))
        rintro ⟨v', c', us', rfl, h, _⟩
        rw [List.length_cons, List.length_cons] at c6
        omega
    · rw [decide_eq_false (by omega), if_neg Bool.false_ne_true]
      refine ⟨_, rfl, ?_⟩
      rw [if_pos (show (!false) = true from rfl)]
      refine ret_of (k_of (no ?_ H (Ex.refl H)))
      rintro ⟨v', c', us', rfl, _⟩
      rw [List.length_cons, List.length_cons] at c2
      omega
end
end Qw
/-! do_form, store_form of any words -/
namespace Qw
open PySem PySem.Spec PyProof.Rows L2 Evl Gd Sn
/-- what value_of answers at a word -/
def VOf (v : V) (u : Str) : Prop := isPlainV v = true ∧ (decide (v = V.bl false) = false ↔ ValW u)
theorem vof_yes {u : Str} {v : V} (h : ValW u) (hv : v = V.non ∨ (∃ i, v = V.int i) ∨ v = V.str u) : VOf v u := ⟨(val_plain hv).1, fun _ => h, fun _ => (val_plain hv).2⟩
theorem vof_no {u : Str} (h : ¬ ValW u) : VOf (.bl false) u := ⟨rfl, fun z => by simp at z, fun z => absurd z h⟩
theorem pair_len {us : List V} {as : List Str} (h : Paired VOf us as) : us.length = as.length := by
  induction h with
  | nil => rfl
  | cons _ _ ih => rw [List.length_cons, List.length_cons, ih]
theorem pair_snoc {v : V} {u : Str} (r : VOf v u) : ∀ {us : List V} {as : List Str}, Paired VOf us as → Paired VOf (us ++ [v]) (as ++ [u])
  | _, _, .nil => .cons r .nil
  | _, _, .cons a b => .cons a (pair_snoc r b)
theorem pair_at : ∀ {us : List V} {as : List Str} {i : Nat} {x : V}, Paired VOf us as → us[i]? = some x → ∃ b, as[i]? = some b ∧ VOf x b
  | _, _, _, _, .nil, h => by simp at h
  | _, _, 0, _, .cons a _, h => by
    cases h
    exact ⟨_, rfl, a⟩
  | _, _, i + 1, _, .cons _ b, h => by
    obtain ⟨z, e, q⟩ := pair_at b (show _ = some _ from h)
    exact ⟨z, e, q⟩
theorem any_no {us : List V} {as : List Str} (h : Paired VOf us as) : ((us.map fun v => decide (v = V.bl false)).any id) = true ↔ ¬ ∀ u ∈ as, ValW u := by
  induction h with
  | nil => exact ⟨fun z => (by simp at z), fun z => absurd (fun u hu => absurd hu List.not_mem_nil) z⟩
  | @cons x b xs bs hr _ ih =>
    rw [List.map_cons, List.any_cons, Bool.or_eq_true, ih]
    show (decide (x = V.bl false) = true ∨ _) ↔ _
    constructor
    · rintro (z | z) all
      · have := hr.2.mpr (all _ List.mem_cons_self)
        rw [this] at z
        cases z
      · exact z fun u hu => all u (List.mem_cons_of_mem _ hu)
    · intro n
      by_cases a : ValW b
      · exact .inr fun all => n fun u hu => (List.mem_cons.mp hu).elim (fun e => e ▸ a) (all u)
      · left
        cases y : decide (x = V.bl false) with
        | true => rfl
        | false => exact absurd (hr.2.mp y) a
section
variable {P : Program} {w : World} {K : PySem.W.Frag} {mg : Str → Option Value} {base : Heap} {dT dS dH dZ : Addr}
theorem ok_do {f fL fV : Addr} {fd fdL fdV : FuncData} (F : Fun K "do_form" "do_form" sDo f fd) (FL : Fun K "is_local" "is_local" sIsLocal fL fdL) (FV : Fun K "value_of" "value_of" sValue fV fdV) (bL : Binds K fdL ["word"] []) (bV : Binds K fdV ["word"] []) (gL : mg "is_local" = some (.ref fL)) (gV : mg "value_of" = some (.ref fV)) (mL : mg "len" = none) (mY : mg "any" = none) (mT : mg "tuple" = none)
    (GL' : FnOk P w K mg base CX0 2 fL fdL ["word"] spIsLocal) (GV : FnOk P w K mg base CX0 3 fV fdV ["word"] spValue) : FnOk P w K mg base CX0 4 f fd ["words"] (spF gDo) := by
  have GL : FnOk P w K mg base CX0 3 fL fdL ["word"] spIsLocal := GL'.mono (by decide)
  refine F.ok scDo (fun vs H Q E h => ?_) (fun cdv A outer s H vs Q E hr h => ?_)
  · obtain ⟨l, ws, rfl, _⟩ := h
    rfl
  · obtain ⟨l, ws, rfl, hws, ne, yes, no⟩ := h
    have hl := hws.at_
    have few := hws.few
    have lw : ((ws.map V.str).length : Int) = (ws.length : Int) := by rw [List.length_map]
    refine ⟨_, pss_cons (ps_if (pw_or (pt_cmpR op_lt (pe_callB call_len_seq (by rfl) mL PySem.boot_len (pa_cons (pv 0) pa_nil)) pe_int (nomark _)) (pw_or1 (pt_not (pt_val (pe_call GL hr (by rfl) gL FL.kp bL .nil pass0 (pa_cons (pe_ix ix_list (pv 0) pe_int (fun _ _ => rfl)) pa_nil)))))).pt (pss_one (ps_ret pe_non)) pss_nil) <|
      pss_cons (ps_set (i := 1) scDo.nd rfl (.inl rfl) (pe_callTy call_tuple_of (by rfl) mT (by decide +kernel) (pa_cons (pe_lc (own := [("word", 2)]) (g := gName 2) (tt := tYes) (te := tCall spValue [] E0 (tCons (tVar 2) tNil)) rfl scDo.nd (pi_list (pe_slice sl_list (pv 0) (po_some pe_int) po_none)) (blkOk_by (N := nDo) (sc := defScope sDo) (by decide +kernel))
          (fun _ _ _ _ _ => pg_name (i := 2) scDo.nd rfl (.inl rfl)) (fun _ _ _ _ _ => pts_nil) (fun _ _ _ _ _ => pe_call GV hr (by rfl) gV FV.kp bV .nil pass0 (pa_cons (pv 2) pa_nil))) pa_nil))) <|
      pss_cons (ps_if (pt_val (pe_callB (cr_any rfl) (by rfl) mY (by decide +kernel) (pa_cons (pe_lc (own := [("value", 3)]) (g := gName 3) (tt := tYes) (te := tOp rIsF (tVar 3) (tC (.bl false))) rfl scDo.nd (pi_tup (pv 1)) (blkOk_by (N := nDo) (sc := defScope sDo) (by decide +kernel))
          (fun _ _ _ _ _ => pg_name (i := 3) scDo.nd rfl (.inl rfl)) (fun _ _ _ _ _ => pts_nil) (fun _ _ _ _ _ => pe_cmpR op_isF (pv 3) pe_bl (nomark _))) pa_nil))) (pss_one (ps_ret pe_non)) pss_nil) <|
      pss_one (ps_ret (pe_tup (pa_cons pe_str <| pa_cons (pe_ix ix_list (pv 0) pe_int (fun _ _ => rfl)) <| pa_cons (pv 1) pa_nil))), ?_⟩
    refine seq_of (ifS_of (or_of (test_of (op_of (len_of (ws.length : Nat) rfl hl lw (k_of ⟨_, _, rfl, rfl, _, rfl, ?_⟩))))))
    by_cases c2 : ws.length < 2
    · rw [decide_eq_true (show ((ws.length : Nat) : Int) < 2 by omega), if_pos rfl, if_pos rfl]
      refine ret_of (k_of (no ?_ H (Ex.refl H)))
      rintro ⟨v', c', us', rfl, _⟩
      rw [List.length_cons, List.length_cons] at c2
      omega
    rw [decide_eq_false (show ¬ ((ws.length : Nat) : Int) < 2 by omega), if_neg Bool.false_ne_true]
    match ws, c2 with
    | [], z => exact absurd (show 0 < 2 by decide) z
    | [_], z => exact absurd (show 1 < 2 by decide) z
    | v :: c :: as, _ =>
    rw [List.length_cons, List.length_cons] at few
    refine not_of (test_of (call_of (c_of (ixk_of rfl hl (k := 1) rfl (n_of ⟨_, rfl, hws.wd c (by simp), localB c, rfl, ?_⟩)))))
    cases lc : localB c with
    | false =>
      rw [if_pos (show (!false) = true from rfl)]
      refine ret_of (k_of (no ?_ H (Ex.refl H)))
      rintro ⟨v', c', us', e, h, _⟩
      cases e
      rw [lc] at h
      cases h
    | true =>
      rw [if_neg (show ¬ (!true) = true from Bool.false_ne_true)]
      dsimp only [tNext]
      refine seq_of (asg_of (cb_of (c_of (lc_of (iL_of (slS_of (v_of rfl (k_of ⟨2, rfl, l, _, rfl, sq_of hl, fun p hp => ⟨p, rfl, ⟨_, sq_of upd_same⟩, fun D hD => ?_⟩⟩))))))))
      rw [cut2] at hD ⊢
      have x1 : Ex H (upd H p (.lst (as.map V.str))) := Ex.new hp
      have y1 : (upd H p (.lst (as.map V.str))) p = some (.lst (as.map V.str)) := upd_same
      generalize upd H p (.lst (as.map V.str)) = H1 at x1 y1 hD ⊢
      refine lc_list (xs := as.map V.str) (fun i H' => Ex H1 H' ∧ ∃ us, H' D = some (.lst us) ∧ Paired VOf us (as.take i)) ⟨Ex.new hD, [], upd_same, .nil⟩ (fun i H' _ h => sq_of (h.1 _ _ y1)) ?_ ?_
      · rintro i x' H' hx ⟨e, us, hd, pr⟩
        rw [List.getElem?_map] at hx
        obtain ⟨u, hu', rfl⟩ := Option.map_eq_some_iff.mp hx
        have il : i < as.length := (List.getElem?_eq_some_iff.mp hu').1
        have ul := pair_len pr
        rw [List.length_take] at ul
        have put : ∀ {v : V}, VOf v u → ∃ us', H' D = some (.lst us') ∧ us'.length < sizeLine ∧ Ex H1 (upd H' D (.lst (us' ++ [v]))) ∧ ∃ us2, (upd H' D (.lst (us' ++ [v]))) D = some (.lst us2) ∧ Paired VOf us2 (as.take (i + 1)) := fun {v} hv =>
          ⟨us, hd, sz_lt (by omega), Ex.mut e hD, us ++ [v], upd_same, by rw [take_one hu']; exact pair_snoc hv pr⟩
        refine ⟨rfl, ?_⟩
        dsimp only [tYes]
        rw [if_pos rfl]
        exact call_of (c_of (v_of rfl (n_of ⟨_, rfl, hws.wd u (List.mem_cons_of_mem _ (List.mem_cons_of_mem _ (List.mem_of_getElem? hu'))), fun vu x hx => put (vof_yes vu hx), fun nu => put (vof_no nu)⟩)))
      rintro H2 ⟨e2, us, hd, pr⟩
      rw [List.length_map, List.take_length] at pr
      have ul := pair_len pr
      refine n_of ⟨D, us, rfl, .inl ⟨sq_of hd, fun t ht => ?_⟩⟩
      have x3 : Ex H2 (upd H2 t (.tup us)) := Ex.new ht
      have y3 : (upd H2 t (.tup us)) t = some (.tup us) := upd_same
      generalize upd H2 t (.tup us) = H3 at x3 y3 ⊢
      dsimp only
      refine seq_of (ifS_of (test_of (cb_of (c_of (lc_of (iT_of (v_of rfl ⟨t, rfl, ⟨_, st_of y3⟩, fun D2 hD2 => lc_tup (xs := us) (fun i H' => Ex H3 H' ∧ H' D2 = some (.lst (((us.take i).map fun v => decide (v = V.bl false)).map V.bl))) ⟨Ex.new hD2, upd_same⟩ (fun i H' _ h => st_of (h.1 _ _ y3)) ?_ ?_⟩)))))))
      · rintro i x' H' hx ⟨e, hd2⟩
        have il : i < us.length := (List.getElem?_eq_some_iff.mp hx).1
        obtain ⟨b, hb, vo⟩ := pair_at pr hx
        refine ⟨rfl, ?_⟩
        dsimp only [tYes]
        rw [if_pos rfl]
        refine op_of (v_of rfl (k_of ⟨false, vo.1, rfl, ?_⟩))
        refine ⟨_, hd2, sz_lt (by rw [List.length_map, List.length_map, List.length_take]; omega), Ex.mut e hD2, ?_⟩
        rw [upd_same, take_one hx, List.map_append, List.map_append]
        rfl
      rintro H4 ⟨e4, hd2⟩
      rw [List.take_length] at hd2
      refine n_of ⟨D2, _, rfl, sq_of hd2, _, rfl, ?_⟩
      have e04 := ((x1.trans e2).trans x3).trans e4
      by_cases an : ((us.map fun v => decide (v = V.bl false)).any id) = true
      · rw [an, if_pos rfl]
        refine ret_of (k_of (no ?_ H4 e04))
        rintro ⟨v', c', us', e, _, h⟩
        cases e
        exact (any_no pr).mp an h
      · rw [if_neg an]
        dsimp only [tNext]
        refine ret_of (tup_of (c_of (k_of (c_of (ixk_of rfl (e04 _ _ hl) (k := 1) rfl (c_of (v_of rfl (n_of ⟨by show 3 ≤ sizeLine; decide, fun p6 hp6 => ?_⟩))))))))
        exact yes ⟨v, c, as, rfl, lc, Classical.not_not.mp fun n => an ((any_no pr).mpr n)⟩ _ _ ⟨e04.trans (Ex.new hp6), p6, _, rfl, upd_same⟩
end
end Qw
/-! store_form of any words -/
namespace Qw
open PySem PySem.Spec PyProof.Rows L2 Evl Gd Sn
def gStore (ws : List Str) : Prop := (∃ p a : Str, ws = [p, "=", a] ∧ SlotW p ∧ ValW a) ∨ ∃ o t a : Str, ws = [o, "at", t, "=", a] ∧ nameB o = true ∧ nameB t = true ∧ ValW a
theorem in35 {n : Nat} : inV (V.int (n : Int)) [V.int 3, V.int 5] = (decide (n = 3) || decide (n = 5)) := by
  unfold inV
  show (decide ((3 : Int) = (n : Int)) || (decide ((5 : Int) = (n : Int)) || false)) = _
  rw [Bool.or_false]
  congr 1 <;> exact decide_eq_decide.mpr ⟨fun h => by omega, fun h => by omega⟩
section
variable {P : Program} {w : World} {K : PySem.W.Frag} {mg : Str → Option Value} {base : Heap} {dT dS dH dZ : Addr}
theorem ok_store {f fN fV fS : Addr} {fd fdN fdV fdS : FuncData} (F : Fun K "store_form" "store_form" sStore f fd) (FN : Fun K "is_name" "is_name" sIsName fN fdN) (FV : Fun K "value_of" "value_of" sValue fV fdV) (FS : Fun K "slot_of" "slot_of" sSlot fS fdS) (bN : Binds K fdN ["word"] []) (bV : Binds K fdV ["word"] []) (bS : Binds K fdS ["word"] []) (gN : mg "is_name" = some (.ref fN)) (gV : mg "value_of" = some (.ref fV)) (gS : mg "slot_of" = some (.ref fS)) (mL : mg "len" = none)
    (GN' : FnOk P w K mg base CX0 1 fN fdN ["word"] spIsName) (GV : FnOk P w K mg base CX0 3 fV fdV ["word"] spValue) (GS' : FnOk P w K mg base CX0 2 fS fdS ["word"] spSlot) : FnOk P w K mg base CX0 4 f fd ["words"] (spF gStore) := by
  have GN : FnOk P w K mg base CX0 3 fN fdN ["word"] spIsName := GN'.mono (by decide)
  have GS : FnOk P w K mg base CX0 3 fS fdS ["word"] spSlot := GS'.mono (by decide)
  refine F.ok scStore (fun vs H Q E h => ?_) (fun cdv A outer s H vs Q E hr h => ?_)
  · obtain ⟨l, ws, rfl, _⟩ := h
    rfl
  · obtain ⟨l, ws, rfl, hws, ne, yes, no⟩ := h
    have hl := hws.at_
    have few := hws.few
    have lw : ((ws.map V.str).length : Int) = (ws.length : Int) := by rw [List.length_map]
    refine ⟨_, pss_cons (ps_if (pw_or (pt_cmpR op_notIn_seq (pe_callB call_len_seq (by rfl) mL PySem.boot_len (pa_cons (pv 0) pa_nil)) (pe_tup (pa_cons pe_int <| pa_cons pe_int pa_nil)) (by rfl)) (pw_or1 (pt_cmpR op_ne (pe_ix ix_list (pv 0) (pe_un un_neg pe_int) (fun _ _ => rfl)) pe_str (nomark _)))).pt (pss_one (ps_ret pe_non)) pss_nil) <|
      pss_cons (ps_set (i := 1) scStore.nd rfl (.inl rfl) (pe_call GV hr (by rfl) gV FV.kp bV .nil pass0 (pa_cons (pe_ix ix_list (pv 0) (pe_un un_neg pe_int) (fun _ _ => rfl)) pa_nil))) <|
      pss_cons (ps_if (pt_cmpR op_isF (pv 1) pe_bl (nomark _)) (pss_one (ps_ret pe_non)) pss_nil) <|
      pss_cons (ps_if (pt_cmpR op_eq (pe_callB call_len_seq (by rfl) mL PySem.boot_len (pa_cons (pv 0) pa_nil)) pe_int (nomark _)) (pss_cons (ps_set (i := 2) scStore.nd rfl (.inl rfl) (pe_call GS hr (by rfl) gS FS.kp bS .nil pass0 (pa_cons (pe_ix ix_list (pv 0) pe_int (fun _ _ => rfl)) pa_nil))) <|
        pss_one (ps_ret (pe_ifExp (pt_cmpR op_isN (pv 2) pe_non (nomark _)) pe_non (pe_tup (pa_cons pe_str <| pa_cons (pe_ix ix_tup (pv 2) pe_int (fun _ _ => rfl)) <| pa_cons (pe_ix ix_tup (pv 2) pe_int (fun _ _ => rfl)) <| pa_cons (pv 1) pa_nil))))) pss_nil) <|
      pss_cons (ps_if (pw_or (pt_cmpR op_ne (pe_ix ix_list (pv 0) pe_int (fun _ _ => rfl)) pe_str (nomark _)) (pw_or (pt_not (pt_val (pe_call GN hr (by rfl) gN FN.kp bN .nil pass0 (pa_cons (pe_ix ix_list (pv 0) pe_int (fun _ _ => rfl)) pa_nil)))) (pw_or1 (pt_not (pt_val (pe_call GN hr (by rfl) gN FN.kp bN .nil pass0 (pa_cons (pe_ix ix_list (pv 0) pe_int (fun _ _ => rfl)) pa_nil))))))).pt (pss_one (ps_ret pe_non)) pss_nil) <|
      pss_one (ps_ret (pe_tup (pa_cons pe_str <| pa_cons (pe_ix ix_list (pv 0) pe_int (fun _ _ => rfl)) <| pa_cons (pe_ix ix_list (pv 0) pe_int (fun _ _ => rfl)) <| pa_cons (pv 1) pa_nil))), ?_⟩
    refine seq_of (ifS_of (or_of (test_of (op_of (len_of (ws.length : Nat) rfl hl lw (tup_of (c_of (k_of (c_of (k_of (n_of ⟨two_le, fun b0 hb => ?_⟩)))))))))))
    have e1 : Ex H (upd H b0 (.tup [.int 3, .int 5])) := Ex.new hb
    refine ⟨b0, [.int 3, .int 5], rfl, .inr (st_of upd_same), rfl, rfl, _, rfl, ?_⟩
    rw [if_pos rfl, in35]
    generalize upd H b0 (.tup [.int 3, .int 5]) = H1 at e1 ⊢
    have hl1 := e1 _ _ hl
    by_cases c35 : ws.length = 3 ∨ ws.length = 5
    · rw [show (decide (ws.length = 3) || decide (ws.length = 5)) = true from by
        rcases c35 with h | h <;> rw [h] <;> rfl, if_neg (show ¬ (!true) = true from Bool.false_ne_true)]
      match ws, c35 with
      | [p, q, a], _ =>
        have bad : ¬ (q = "=" ∧ SlotW p ∧ ValW a) → ¬ gStore [p, q, a] := fun n => by
          rintro (⟨_, _, e, h1, h2⟩ | ⟨_, _, _, e, _⟩)
          · cases e
            exact n ⟨rfl, h1, h2⟩
          · cases e
        refine test_of (op_of (ixn_of rfl hl1 (k := 2) rfl (k_of ⟨rfl, _, rfl, ?_⟩)))
        rw [str_eq]
        by_cases gq : q = "="
        · rw [decide_eq_true gq, if_neg (show ¬ (!true) = true from Bool.false_ne_true)]
          dsimp only [tNext]
          refine seq_of (asg_of (call_of (c_of (ixn_of rfl hl1 (k := 1) rfl (n_of ⟨_, rfl, hws.wd a (by simp), fun va v hv => ?_, fun nva => ?_⟩)))))
          · obtain ⟨p1, p2⟩ := val_plain hv
            dsimp only
            refine seq_of (ifS_of (test_of (op_of (v_of rfl (k_of ⟨false, p1, rfl, _, rfl, ?_⟩)))))
            rw [p2, if_neg Bool.false_ne_true]
            dsimp only [tNext]
            refine seq_of (ifS_of (test_of (op_of (len_of 3 rfl hl1 rfl (k_of ⟨rfl, _, rfl, ?_⟩)))))
            rw [decide_eq_true rfl, if_pos rfl]
            refine seq_of (asg_of (call_of (c_of (ixk_of rfl hl1 (k := 0) rfl (n_of ⟨_, rfl, hws.wd p (by simp), fun sp H2 t2 o2 m2 e2 ht2 => ?_, fun nsp H2 e2 => ?_⟩)))))
            · dsimp only
              refine ret_of (if_of (test_of (op_of (v_of rfl (k_of ⟨rfl, _, rfl, ?_⟩)))))
              rw [show decide (V.ref t2 = V.non) = false from by simp, if_neg Bool.false_ne_true]
              refine tup_of (c_of (k_of (c_of (op_of (v_of rfl (k_of ⟨t2, _, 0, _, rfl, rfl, st_of ht2, atI_nat (j := 0) rfl, c_of (op_of (v_of rfl (k_of ⟨t2, _, 1, _, rfl, rfl, st_of ht2, atI_nat (j := 1) rfl, c_of (v_of rfl (n_of ⟨by show 4 ≤ sizeLine; decide, fun p6 hp6 => ?_⟩))⟩)))⟩))))))
              exact yes (.inl ⟨p, a, by rw [gq], sp, va⟩) _ _ ⟨(e1.trans e2).trans (Ex.new hp6), p6, _, rfl, upd_same⟩
            · dsimp only
              refine ret_of (if_of (test_of (op_of (v_of rfl (k_of ⟨rfl, _, rfl, ?_⟩)))))
              rw [decide_eq_true rfl, if_pos rfl]
              exact k_of (no (bad fun h => nsp h.2.1) H2 (e1.trans e2))
          · dsimp only
            refine seq_of (ifS_of (test_of (op_of (v_of rfl (k_of ⟨false, rfl, rfl, _, rfl, ?_⟩)))))
            rw [decide_eq_true rfl, if_pos rfl]
            exact ret_of (k_of (no (bad fun h => nva h.2.2) H1 e1))
        · rw [decide_eq_false gq, if_pos (show (!false) = true from rfl)]
          exact ret_of (k_of (no (bad fun h => gq h.1) H1 e1))
      | [o, at_, t, q, a], _ =>
        have bad : ¬ (at_ = "at" ∧ q = "=" ∧ nameB o = true ∧ nameB t = true ∧ ValW a) → ¬ gStore [o, at_, t, q, a] := fun n => by
          rintro (⟨_, _, e, _⟩ | ⟨_, _, _, e, h1, h2, h3⟩)
          · cases e
          · cases e
            exact n ⟨rfl, rfl, h1, h2, h3⟩
        refine test_of (op_of (ixn_of rfl hl1 (k := 2) rfl (k_of ⟨rfl, _, rfl, ?_⟩)))
        rw [str_eq]
        by_cases gq : q = "="
        · rw [decide_eq_true gq, if_neg (show ¬ (!true) = true from Bool.false_ne_true)]
          dsimp only [tNext]
          refine seq_of (asg_of (call_of (c_of (ixn_of rfl hl1 (k := 1) rfl (n_of ⟨_, rfl, hws.wd a (by simp), fun va v hv => ?_, fun nva => ?_⟩)))))
          · obtain ⟨p1, p2⟩ := val_plain hv
            dsimp only
            refine seq_of (ifS_of (test_of (op_of (v_of rfl (k_of ⟨false, p1, rfl, _, rfl, ?_⟩)))))
            rw [p2, if_neg Bool.false_ne_true]
            dsimp only [tNext]
            refine seq_of (ifS_of (test_of (op_of (len_of 5 rfl hl1 rfl (k_of ⟨rfl, _, rfl, ?_⟩)))))
            rw [show decide (V.int 5 = V.int 3) = false from by decide +kernel, if_neg Bool.false_ne_true]
            dsimp only [tNext]
            refine seq_of (ifS_of (or_of (test_of (op_of (ixk_of rfl hl1 (k := 1) rfl (k_of ⟨rfl, _, rfl, ?_⟩))))))
            rw [str_eq]
            by_cases ga : at_ = "at"
            · rw [decide_eq_true ga, if_neg (show ¬ (!true) = true from Bool.false_ne_true)]
              refine or_of (not_of (test_of (call_of (c_of (ixk_of rfl hl1 (k := 0) rfl (n_of ⟨_, rfl, hws.wd o (by simp), nameB o, rfl, ?_⟩))))))
              cases no1 : nameB o with
              | false =>
                rw [if_pos (show (!false) = true from rfl), if_pos rfl]
                exact ret_of (k_of (no (bad fun h => by rw [no1] at h; cases h.2.2.1) H1 e1))
              | true =>
                rw [if_neg (show ¬ (!true) = true from Bool.false_ne_true)]
                refine not_of (test_of (call_of (c_of (ixk_of rfl hl1 (k := 2) rfl (n_of ⟨_, rfl, hws.wd t (by simp), nameB t, rfl, ?_⟩)))))
                cases nt : nameB t with
                | false =>
                  rw [if_pos (show (!false) = true from rfl)]
                  exact ret_of (k_of (no (bad fun h => by rw [nt] at h; cases h.2.2.2.1) H1 e1))
                | true =>
                  rw [if_neg (show ¬ (!true) = true from Bool.false_ne_true)]
                  dsimp only [tNext]
                  refine ret_of (tup_of (c_of (k_of (c_of (ixk_of rfl hl1 (k := 0) rfl (c_of (ixk_of rfl hl1 (k := 2) rfl (c_of (v_of rfl (n_of ⟨by show 4 ≤ sizeLine; decide, fun p6 hp6 => ?_⟩))))))))))
                  exact yes (.inr ⟨o, t, a, by rw [ga, gq], no1, nt, va⟩) _ _ ⟨e1.trans (Ex.new hp6), p6, _, rfl, upd_same⟩
            · rw [decide_eq_false ga, if_pos (show (!false) = true from rfl), if_pos rfl]
              exact ret_of (k_of (no (bad fun h => ga h.1) H1 e1))
          · dsimp only
            refine seq_of (ifS_of (test_of (op_of (v_of rfl (k_of ⟨false, rfl, rfl, _, rfl, ?_⟩)))))
            rw [decide_eq_true rfl, if_pos rfl]
            exact ret_of (k_of (no (bad fun h => nva h.2.2.2.2) H1 e1))
        · rw [decide_eq_false gq, if_pos (show (!false) = true from rfl)]
          exact ret_of (k_of (no (bad fun h => gq h.2.1) H1 e1))
      | [], z => rcases z with z | z <;> cases z
      | [_], z => rcases z with z | z <;> cases z
      | [_, _], z => rcases z with z | z <;> cases z
      | [_, _, _, _], z => rcases z with z | z <;> cases z
      | _ :: _ :: _ :: _ :: _ :: _ :: _, z => rcases z with z | z <;> simp at z
    · rw [show (decide (ws.length = 3) || decide (ws.length = 5)) = false from by
        rw [decide_eq_false (fun z => c35 (.inl z)), decide_eq_false (fun z => c35 (.inr z))]
        rfl, if_pos (show (!false) = true from rfl), if_pos rfl]
      refine ret_of (k_of (no ?_ H1 e1))
      rintro (⟨_, _, rfl, _⟩ | ⟨_, _, _, rfl, _⟩)
      · exact c35 (.inl rfl)
      · exact c35 (.inr rfl)
end
end Qw
/-! say_form of any words -/
namespace Qw
open PySem PySem.Spec PyProof.Rows L2 Evl Gd Sn
def gSay (ws : List Str) : Prop := (∃ v a : Str, ws = [v, a] ∧ (ValW a ∨ SlotW a)) ∨ ∃ (v : Str) (r : List Str), ws = v :: r ∧ r.length ≠ 1 ∧ AskedF r
section
variable {P : Program} {w : World} {K : PySem.W.Frag} {mg : Str → Option Value} {base : Heap} {dT dS dH dZ : Addr}
theorem ok_say {f fA fW : Addr} {fd fdA fdW : FuncData} (F : Fun K "say_form" "say_form" sSay f fd) (FA : Fun K "asked_form" "asked_form" sAsked fA fdA) (FW : Fun K "word_form" "word_form" sWord fW fdW) (bA : Binds K fdA ["verb", "name", "words"] []) (bW : Binds K fdW ["verb", "name", "word"] []) (gA : mg "asked_form" = some (.ref fA)) (gW : mg "word_form" = some (.ref fW)) (mL : mg "len" = none) (mI : mg "isinstance" = none) (mS : mg "str" = none)
    (GA : FnOk P w K mg base CX0 4 fA fdA ["verb", "name", "words"] spAsked) (GW : FnOk P w K mg base CX0 4 fW fdW ["verb", "name", "word"] spWord) : FnOk P w K mg base CX0 5 f fd ["words"] (spF gSay) := by
  refine F.ok scSay (fun vs H Q E h => ?_) (fun cdv A outer s H vs Q E hr h => ?_)
  · obtain ⟨l, ws, rfl, _⟩ := h
    rfl
  · obtain ⟨l, ws, rfl, hws, ne, yes, no⟩ := h
    have hl := hws.at_
    have few := hws.few
    have lw : ((ws.map V.str).length : Int) = (ws.length : Int) := by rw [List.length_map]
    refine ⟨_, pss_cons (ps_if (pt_cmpR op_ne (pe_callB call_len_seq (by rfl) mL PySem.boot_len (pa_cons (pv 0) pa_nil)) pe_int (nomark _)) (pss_one (ps_ret (pe_call GA hr (by rfl) gA FA.kp bA .nil pass0 (pa_cons pe_str <| pa_cons pe_non <| pa_cons (pe_slice sl_list (pv 0) (po_some pe_int) po_none) pa_nil)))) pss_nil) <|
      pss_cons (ps_set (i := 1) scSay.nd rfl (.inl rfl) (pe_call GW hr (by rfl) gW FW.kp bW .nil pass0 (pa_cons pe_str <| pa_cons pe_non <| pa_cons (pe_ix ix_list (pv 0) pe_int (fun _ _ => rfl)) pa_nil))) <|
      pss_cons (ps_if (pw_or (pt_cmpR op_isN (pv 1) pe_non (nomark _)) (pw_or1 (pt_val (pe_callB call_isi (by rfl) mI (by decide +kernel) (pa_cons (pe_ix ix_tup (pv 1) pe_int (fun _ _ => rfl)) (pa_cons (pe_bltn (v := .ty "str") (by rfl) mS (by decide +kernel) rfl) pa_nil)))))).pt (pss_one (ps_ret (pv 1))) pss_nil) <|
      pss_one (ps_ret (pe_tup (pa_cons pe_str <| pa_cons (pe_tup (pa_cons pe_str <| pa_cons (pe_ix ix_list (pv 0) pe_int (fun _ _ => rfl)) pa_nil)) pa_nil))), ?_⟩
    match ws, ne with
    | v :: r, _ =>
    refine seq_of (ifS_of (test_of (op_of (len_of ((v :: r).length : Nat) rfl hl lw (k_of ⟨rfl, _, rfl, ?_⟩)))))
    by_cases c : r.length = 1
    · rw [int_yes (show (((v :: r).length : Nat) : Int) = 2 by rw [List.length_cons]; omega), if_neg (show ¬ (!true) = true from Bool.false_ne_true)]
      match r, c with
      | [a], _ =>
      have bad : ¬ (ValW a ∨ SlotW a) → ¬ gSay [v, a] := fun n => by
        rintro (⟨_, _, e, h⟩ | ⟨_, r', e, h, _⟩)
        · cases e
          exact n h
        · cases e
          exact h rfl
      dsimp only [tNext]
      refine seq_of (asg_of (call_of (c_of (k_of (c_of (k_of (c_of (ixk_of rfl hl (k := 1) rfl (n_of ⟨_, _, _, rfl, by decide +kernel, hws.wd a (by simp), fun ok H1 t z y x xs e1 ht hx => ?_, fun nok H1 e1 => ?_⟩)))))))))
      · dsimp only
        refine seq_of (ifS_of (or_of (test_of (op_of (v_of rfl (k_of ⟨rfl, _, rfl, ?_⟩))))))
        rw [show decide (V.ref t = V.non) = false from by simp, if_neg Bool.false_ne_true]
        have isi : ∃ (u : Value) (bb : Bool), TyX K H1 x u ∧ PySem.W.kitOne K u (.type "str") = some bb := by
          rcases hx with rfl | ⟨i, rfl⟩ | ⟨u, rfl⟩
          · exact ⟨_, false, .base .non, kit_ty (by decide +kernel)⟩
          · exact ⟨_, false, .base (.int i), kit_ty (by decide +kernel)⟩
          · exact ⟨_, true, .base (.str u), kit_ty (by decide +kernel)⟩
        obtain ⟨u, bb, ty, ki⟩ := isi
        refine test_of (cb_of (c_of (op_of (v_of rfl (k_of ⟨t, _, 2, _, rfl, rfl, st_of ht, atI_nat (j := 2) rfl, c_of (k_of (n_of ⟨x, .ty "str", _, _, bb, rfl, .ty "str", ty, ki, bb, rfl, ?_⟩))⟩)))))
        cases bb with
        | true =>
          rw [if_pos rfl]
          exact ret_of (v_of rfl (yes (.inl ⟨v, a, rfl, ok⟩) _ _ ⟨e1, t, _, rfl, ht⟩))
        | false =>
          rw [if_neg Bool.false_ne_true]
          dsimp only [tNext]
          refine ret_of (tup_of (c_of (k_of (c_of (tup_of (c_of (k_of (c_of (ixk_of rfl (e1 _ _ hl) (k := 1) rfl (n_of ⟨two_le, fun p hp => n_of ⟨two_le, fun p2 hp2 => ?_⟩⟩))))))))))
          exact yes (.inl ⟨v, a, rfl, ok⟩) _ _ ⟨e1.trans ((Ex.new hp).trans (Ex.new hp2)), p2, _, rfl, upd_same⟩
      · dsimp only
        refine seq_of (ifS_of (or_of (test_of (op_of (v_of rfl (k_of ⟨rfl, _, rfl, ?_⟩))))))
        rw [decide_eq_true rfl, if_pos rfl, if_pos rfl]
        exact ret_of (v_of rfl (no (bad nok) H1 e1))
    · rw [int_no (show (((v :: r).length : Nat) : Int) ≠ 2 by rw [List.length_cons]; omega), if_pos (show (!false) = true from rfl)]
      refine ret_of (call_of (c_of (k_of (c_of (k_of (c_of (slS_of (v_of rfl (k_of ⟨1, rfl, l, _, rfl, sq_of hl, fun p hp => n_of ?_⟩)))))))))
      rw [cut1]
      have wr : Ws (upd H p (.lst (r.map V.str))) p r := ⟨upd_same, fun u hu => hws.wd u (List.mem_cons_of_mem _ hu), by rw [List.length_cons] at few; omega⟩
      refine ⟨_, _, p, r, rfl, by decide +kernel, wr, fun ok H' x it => yes (.inr ⟨v, r, rfl, c, ok⟩) _ _ ⟨(Ex.new hp).trans it.1, it.2⟩, fun nok H' e => no ?_ _ ((Ex.new hp).trans e)⟩
      rintro (⟨_, _, e, _⟩ | ⟨_, r', e, _, h⟩)
      · cases e
        exact c rfl
      · cases e
        exact nok h
end
end Qw
/-! let_form of any words -/
namespace Qw
open PySem PySem.Spec PyProof.Rows L2 Evl Gd Sn
/-- a form as it is called by a local name -/
structure Fm (P : Program) (w : World) (K : PySem.W.Frag) (mg : Str → Option Value) (base : Heap) (k : Nat) (f : Addr) (G : List Str → Prop) : Prop where
  ex : ∃ fd, FnOk P w K mg base CX0 k f fd ["words"] (spF G) ∧ PySem.W.keepIn K (.ref f) = true ∧ Binds K fd ["words"] []
def madeL : List Str := ["record", "weak", "map"]
structure Tb3 (K : PySem.W.Frag) (w : World) (mg : Str → Option Value) (dM fR fW fM : Addr) : Prop where
  made : mg "MADE_FORMS" = some (.ref dM)
  kd : ∃ es n, KDict K w dM es n
  rc : PySem.W.nsIn K dM "record" = some (some (.ref fR))
  wk : PySem.W.nsIn K dM "weak" = some (some (.ref fW))
  mp : PySem.W.nsIn K dM "map" = some (some (.ref fM))
  no : ∀ z, ∃ r, PySem.W.nsIn K dM z = some r ∧ r.isSome = decide (z ∈ madeL)
theorem callL_of {i : Nat} {f : Addr} {sp : Sp} {dvs : List V} {E : XK} {t : TA} {σ : L2.St} {H : Hp} {Q : VK} (e : σ[i]? = some (some (.ref f))) (h : t σ H fun vs H1 => sp (vs ++ dvs) H1 Q E) : tCallL i f sp dvs E t σ H Q := ⟨e, h⟩
def gMade (z : Str) (ws : List Str) : Prop := (z = "record" ∧ gRec ws) ∨ (z = "weak" ∧ gWeak ws) ∨ (z = "map" ∧ gMap ws)
def gLet (ws : List Str) : Prop := ∃ (v n z : Str) (r : List Str), ws = v :: n :: ("=" : Str) :: z :: r ∧ nameB n = true ∧ ((r = [] ∧ (ValW z ∨ SlotW z)) ∨ (r ≠ [] ∧ z ∉ madeL ∧ AskedF (z :: r)) ∨ (r ≠ [] ∧ gMade z ws))
theorem cut3 {a b c : Str} {r : List Str} : cutV ((a :: b :: c :: r).map V.str) (some 3) none = r.map V.str := by
  unfold cutV
  have h1 : HT.sIx ((a :: b :: c :: r).map V.str).length 0 (some ((3 : Nat) : Int)) = min 3 ((a :: b :: c :: r).map V.str).length := HT.sIx_nat _ 0 3
  have h2 : HT.sIx ((a :: b :: c :: r).map V.str).length ((a :: b :: c :: r).map V.str).length none = ((a :: b :: c :: r).map V.str).length := rfl
  have hl : ((a :: b :: c :: r).map V.str).length = r.length + 3 := by rw [List.length_map, List.length_cons, List.length_cons, List.length_cons]
  rw [show (some (3 : Int)) = some ((3 : Nat) : Int) from rfl, h1, h2, hl, Nat.min_eq_left (by omega), List.map_cons, List.map_cons, List.map_cons, show List.drop 3 (V.str a :: V.str b :: V.str c :: r.map V.str) = r.map V.str from rfl, List.take_of_length_le (by rw [List.length_map]; omega)]
section
variable {P : Program} {w : World} {K : PySem.W.Frag} {mg : Str → Option Value} {base : Heap} {dT dS dH dZ dM : Addr}
theorem ok_let {f fA fW fN fR fK fM : Addr} {fd fdA fdW fdN : FuncData} (F : Fun K "let_form" "let_form" sLet f fd) (FA : Fun K "asked_form" "asked_form" sAsked fA fdA) (FW : Fun K "word_form" "word_form" sWord fW fdW) (FN : Fun K "is_name" "is_name" sIsName fN fdN) (bA : Binds K fdA ["verb", "name", "words"] []) (bW : Binds K fdW ["verb", "name", "word"] []) (bN : Binds K fdN ["word"] []) (gA : mg "asked_form" = some (.ref fA)) (gW : mg "word_form" = some (.ref fW)) (gN : mg "is_name" = some (.ref fN)) (mL : mg "len" = none) (T : Tb3 K w mg dM fR fK fM)
    (GA : FnOk P w K mg base CX0 4 fA fdA ["verb", "name", "words"] spAsked) (GW : FnOk P w K mg base CX0 4 fW fdW ["verb", "name", "word"] spWord) (GN' : FnOk P w K mg base CX0 1 fN fdN ["word"] spIsName) (MR : Fm P w K mg base 4 fR gRec) (MW : Fm P w K mg base 4 fK gWeak) (MM : Fm P w K mg base 4 fM gMap) : FnOk P w K mg base CX0 5 f fd ["words"] (spF gLet) := by
  have GN : FnOk P w K mg base CX0 4 fN fdN ["word"] spIsName := GN'.mono (by decide)
  obtain ⟨es, n0, kd⟩ := T.kd
  refine F.ok scLet (fun vs H Q E h => ?_) (fun cdv A outer s H vs Q E hr h => ?_)
  · obtain ⟨l, ws, rfl, _⟩ := h
    rfl
  · obtain ⟨l, ws, rfl, hws, ne, yes, no⟩ := h
    have hl := hws.at_
    have few := hws.few
    have lw : ((ws.map V.str).length : Int) = (ws.length : Int) := by rw [List.length_map]
    have key : ∃ (fX : Addr) (G : List Str → Prop), Fm P w K mg base 4 fX G ∧ ∀ z, ws[3]? = some z → z ∈ madeL → PySem.W.nsIn K dM z = some (some (.ref fX)) ∧ (gMade z ws ↔ G ws) := by
      by_cases a : ws[3]? = some ("record" : Str)
      · refine ⟨fR, gRec, MR, fun z e _ => ?_⟩
        obtain rfl : ("record" : Str) = z := Option.some.inj (a.symm.trans e)
        exact ⟨T.rc, fun h => by
          rcases h with ⟨_, h⟩ | ⟨h, _⟩ | ⟨h, _⟩
          · exact h
          · exact absurd h (by decide +kernel)
          · exact absurd h (by decide +kernel), fun h => .inl ⟨rfl, h⟩⟩
      · by_cases b : ws[3]? = some ("weak" : Str)
        · refine ⟨fK, gWeak, MW, fun z e _ => ?_⟩
          obtain rfl : ("weak" : Str) = z := Option.some.inj (b.symm.trans e)
          exact ⟨T.wk, fun h => by
            rcases h with ⟨h, _⟩ | ⟨_, h⟩ | ⟨h, _⟩
            · exact absurd h (by decide +kernel)
            · exact h
            · exact absurd h (by decide +kernel), fun h => .inr (.inl ⟨rfl, h⟩)⟩
        · refine ⟨fM, gMap, MM, fun z e m => ?_⟩
          obtain rfl : z = "map" := by
            simp only [madeL, List.mem_cons, List.not_mem_nil, or_false] at m
            rcases m with rfl | rfl | rfl
            · exact absurd e a
            · exact absurd e b
            · rfl
          exact ⟨T.mp, fun h => by
            rcases h with ⟨h, _⟩ | ⟨h, _⟩ | ⟨_, h⟩
            · exact absurd h (by decide +kernel)
            · exact absurd h (by decide +kernel)
            · exact h, fun h => .inr (.inr ⟨rfl, h⟩)⟩
    obtain ⟨fX, G, ⟨fdX, GX, kX, bX⟩, hX⟩ := key
    refine ⟨_, pss_cons (ps_if (pw_or (pt_cmpR op_lt (pe_callB call_len_seq (by rfl) mL PySem.boot_len (pa_cons (pv 0) pa_nil)) pe_int (nomark _)) (pw_or (pt_cmpR op_ne (pe_ix ix_list (pv 0) pe_int (fun _ _ => rfl)) pe_str (nomark _)) (pw_or1 (pt_not (pt_val (pe_call GN hr (by rfl) gN FN.kp bN .nil pass0 (pa_cons (pe_ix ix_list (pv 0) pe_int (fun _ _ => rfl)) pa_nil))))))).pt (pss_one (ps_ret pe_non)) pss_nil) <|
      pss_cons (ps_if (pt_cmpR op_eq (pe_callB call_len_seq (by rfl) mL PySem.boot_len (pa_cons (pv 0) pa_nil)) pe_int (nomark _)) (pss_one (ps_ret (pe_call GW hr (by rfl) gW FW.kp bW .nil pass0 (pa_cons pe_str <| pa_cons (pe_ix ix_list (pv 0) pe_int (fun _ _ => rfl)) <| pa_cons (pe_ix ix_list (pv 0) pe_int (fun _ _ => rfl)) pa_nil)))) pss_nil) <|
      pss_cons (ps_if (pt_cmpR (op_notIn_kd kd) (pe_ix ix_list (pv 0) pe_int (fun _ _ => rfl)) (pe_glob (v := .ref dM) (by rfl) T.made rfl) (by rfl)) (pss_one (ps_ret (pe_call GA hr (by rfl) gA FA.kp bA .nil pass0 (pa_cons pe_str <| pa_cons (pe_ix ix_list (pv 0) pe_int (fun _ _ => rfl)) <| pa_cons (pe_slice sl_list (pv 0) (po_some pe_int) po_none) pa_nil)))) pss_nil) <|
      pss_cons (ps_set (i := 1) scLet.nd rfl (.inl rfl) (pe_ix ix_kdict (pe_glob (v := .ref dM) (by rfl) T.made rfl) (pe_ix ix_list (pv 0) pe_int (fun _ _ => rfl)) (fun _ _ => rfl))) <|
      pss_one (ps_ret (pe_callL (i := 1) GX hr rfl (.inl rfl) kX bX .nil pass0 (pa_cons (pv 0) pa_nil))), ?_⟩
    refine seq_of (ifS_of (or_of (test_of (op_of (len_of (ws.length : Nat) rfl hl lw (k_of ⟨_, _, rfl, rfl, _, rfl, ?_⟩))))))
    by_cases c4 : ws.length < 4
    · rw [decide_eq_true (show ((ws.length : Nat) : Int) < 4 by omega), if_pos rfl, if_pos rfl]
      refine ret_of (k_of (no ?_ H (Ex.refl H)))
      rintro ⟨_, _, _, _, rfl, _⟩
      rw [List.length_cons, List.length_cons, List.length_cons, List.length_cons] at c4
      omega
    rw [decide_eq_false (show ¬ ((ws.length : Nat) : Int) < 4 by omega), if_neg Bool.false_ne_true]
    match ws, c4 with
    | [], z => exact absurd (show 0 < 4 by decide) z
    | [_], z => exact absurd (show 1 < 4 by decide) z
    | [_, _], z => exact absurd (show 2 < 4 by decide) z
    | [_, _, _], z => exact absurd (show 3 < 4 by decide) z
    | v :: n :: q :: z :: r, _ =>
    have bad : ¬ (q = "=" ∧ nameB n = true ∧ ((r = [] ∧ (ValW z ∨ SlotW z)) ∨ (r ≠ [] ∧ z ∉ madeL ∧ AskedF (z :: r)) ∨ (r ≠ [] ∧ gMade z (v :: n :: q :: z :: r)))) → ¬ gLet (v :: n :: q :: z :: r) := fun x => by
      rintro ⟨v', n', z', r', e, h1, h2⟩
      cases e
      exact x ⟨rfl, h1, h2⟩
    refine or_of (test_of (op_of (ixk_of rfl hl (k := 2) rfl (k_of ⟨rfl, _, rfl, ?_⟩))))
    rw [str_eq]
    by_cases gq : q = "="
    · rw [decide_eq_true gq, if_neg (show ¬ (!true) = true from Bool.false_ne_true)]
      refine not_of (test_of (call_of (c_of (ixk_of rfl hl (k := 1) rfl (n_of ⟨_, rfl, hws.wd n (by simp), nameB n, rfl, ?_⟩)))))
      cases nn : nameB n with
      | false =>
        rw [if_pos (show (!false) = true from rfl)]
        exact ret_of (k_of (no (bad fun h => by rw [nn] at h; cases h.2.1) H (Ex.refl H)))
      | true =>
        rw [if_neg (show ¬ (!true) = true from Bool.false_ne_true)]
        dsimp only [tNext]
        refine seq_of (ifS_of (test_of (op_of (len_of ((v :: n :: q :: z :: r).length : Nat) rfl hl lw (k_of ⟨rfl, _, rfl, ?_⟩)))))
        have ll : (v :: n :: q :: z :: r).length = r.length + 4 := rfl
        by_cases r0 : r = []
        · rw [int_yes (show (((v :: n :: q :: z :: r).length : Nat) : Int) = 4 by rw [ll, r0]; rfl), if_pos rfl]
          exact ret_of (call_of (c_of (k_of (c_of (ixk_of rfl hl (k := 1) rfl (c_of (ixk_of rfl hl (k := 3) rfl (n_of ⟨_, _, _, rfl, by decide +kernel, hws.wd z (by simp), fun ok H1 t z' y x xs e1 ht hx => yes ⟨v, n, z, r, by rw [gq], nn, .inl ⟨r0, ok⟩⟩ _ _ ⟨e1, t, _, rfl, ht⟩, fun nok H1 e1 => no (bad fun h => by
            rcases h.2.2 with ⟨_, h⟩ | ⟨h, _⟩ | ⟨h, _⟩
            · exact nok h
            · exact h r0
            · exact h r0) H1 e1⟩))))))))
        · have rl : 0 < r.length := List.length_pos_iff.mpr r0
          rw [int_no (show (((v :: n :: q :: z :: r).length : Nat) : Int) ≠ 4 by rw [ll]; omega), if_neg Bool.false_ne_true]
          dsimp only [tNext]
          obtain ⟨rz, z1, z2⟩ := T.no z
          refine seq_of (ifS_of (test_of (op_of (ixk_of rfl hl (k := 3) rfl (k_of ⟨_, _, rfl, rfl, z1, _, rfl, ?_⟩)))))
          rw [z2]
          by_cases zm : z ∈ madeL
          · rw [decide_eq_true zm, if_neg (show ¬ (!true) = true from Bool.false_ne_true)]
            dsimp only [tNext]
            obtain ⟨hz, hG⟩ := hX z rfl zm
            refine seq_of (asg_of (op_of (k_of (ixk_of rfl hl (k := 3) rfl ⟨_, _, .ref fX, rfl, rfl, ⟨es, n0, _, kd.at_, kd.lit, hz, rfl⟩, ?_⟩))))
            dsimp only
            exact ret_of (callL_of rfl (c_of (v_of rfl (n_of ⟨l, _, rfl, hws, ne, fun g H' x it => yes ⟨v, n, z, r, by rw [gq], nn, .inr (.inr ⟨r0, hG.mpr g⟩)⟩ H' x it, fun ng H' e => no (bad fun h => by
              rcases h.2.2 with ⟨h, _⟩ | ⟨_, h, _⟩ | ⟨_, h⟩
              · exact r0 h
              · exact h zm
              · exact ng (hG.mp h)) H' e⟩))))
          · rw [decide_eq_false zm, if_pos (show (!false) = true from rfl)]
            refine ret_of (call_of (c_of (k_of (c_of (ixk_of rfl hl (k := 1) rfl (c_of (slS_of (v_of rfl (k_of ⟨3, rfl, l, _, rfl, sq_of hl, fun p hp => n_of ?_⟩)))))))))
            rw [cut3]
            have wr : Ws (upd H p (.lst ((z :: r).map V.str))) p (z :: r) := ⟨upd_same, fun u hu => hws.wd u (List.mem_cons_of_mem _ (List.mem_cons_of_mem _ (List.mem_cons_of_mem _ hu))), by rw [ll] at few; rw [List.length_cons]; omega⟩
            exact ⟨_, _, p, z :: r, rfl, by decide +kernel, wr, fun ok H' x it => yes ⟨v, n, z, r, by rw [gq], nn, .inr (.inl ⟨r0, zm, ok⟩)⟩ _ _ ⟨(Ex.new hp).trans it.1, it.2⟩, fun nok H' e => no (bad fun h => by
              rcases h.2.2 with ⟨h, _⟩ | ⟨_, _, h⟩ | ⟨_, h⟩
              · exact r0 h
              · exact nok h
              · rcases h with ⟨rfl, _⟩ | ⟨rfl, _⟩ | ⟨rfl, _⟩ <;> exact zm (by decide +kernel)) _ ((Ex.new hp).trans e)⟩
    · rw [decide_eq_false gq, if_pos (show (!false) = true from rfl), if_pos rfl]
      exact ret_of (k_of (no (bad fun h => gq h.1) H (Ex.refl H)))
end
end Qw
/-! statement_of of any words -/
namespace Qw
open PySem PySem.Spec PyProof.Rows L2 Evl Gd Sn
/-- d.get(k, x), d a dict with text keys that the module's top wrote -/
def tKGet2 (K : PySem.W.Frag) (d : Addr) (td ty tx : TE) : TE := fun σ H Q => td σ H fun x H1 => x = .ref d ∧ ty σ H1 fun y H2 => ∃ (z : Str) (r : Option Value), y = .str z ∧ PySem.W.nsIn K d z = some r ∧ tx σ H2 fun dv H3 => (r = none → Q dv H3) ∧ ∀ u, r = some u → ∃ v, RelV v u ∧ Q v H3
theorem pe_kget2 {X : Cx} {o e f : Expr} {apos cpos : Pos} {td ty tx : TE} {d : Addr} {es : Array DictEntry} {n : Nat} (D : KDict X.K X.w d es n) (ho : PE X o td) (he : PE X e ty) (hf : PE X f tx) (m : M2 X o "get" apos e f cpos) : PE X (.Call (.Attribute o "get" apos) [e, f] [] cpos) (tKGet2 X.K d td ty tx) := by
  refine ⟨fun pins s σ H Q I h => wpAny_Call_method m.base m.few m.line PySem.F.plainAttrs_dict PySem.F.slot_dict_get PySem.F.type_dict_get (thn (ho.run pins s σ H _ I h) ?_)⟩
  rintro u s1 ⟨x, H1, I1, rx, rfl, q1⟩
  obtain rfl : u = Value.ref d := rx
  have at_ := I1.kIn _ _ D.at_
  refine ⟨⟨_, at_, rfl⟩, fun a e => ?_, ?_⟩
  · cases e
    exact ⟨_, at_, rfl⟩
  rw [m.trees]
  refine Calls.callWith_builtin rfl (Calls.evalArgs_plain (Calls.spliced_cons (thn (he.run pins s1 σ H1 _ I1 q1) ?_)))
  rintro iv s2 ⟨y, H2, I2, ry, z, r, rfl, hz, q2⟩
  refine Calls.spliced_cons (thn (hf.run pins s2 σ H2 _ I2 q2) ?_)
  rintro fv s3 ⟨dv, H3, I3, rz, qn, qs⟩
  obtain ⟨t, rfl⟩ := ry
  have mp := PySem.W.mapOf_K (prog := X.prog) (w := X.w) I3.kIn D.at_ D.lit
  refine Calls.spliced_nil (call_meetsIn PySem.F.slot_dict_get (Heap.MapOf.typeIs mp) PySem.F.entry_dict_get (PySem.F.args_dict_get_3 _ _ _) (meets_dict_get_default (strKind X.prog X.w) d (strKind_is X.prog X.w z t) D.low fv) ⟨_, mp, ?_⟩)
  rw [PySem.W.find_K D.at_ hz]
  cases r with
  | none => exact ⟨dv, H3, I3.tok _, rz, qn rfl⟩
  | some u =>
    obtain ⟨v, rv, qv⟩ := qs u rfl
    exact ⟨v, H3, I3.tok _, rv, qv⟩
theorem kget2_of {K : PySem.W.Frag} {d : Addr} {td ty tx : TE} {σ : L2.St} {H : Hp} {Q : VK} (h : td σ H fun x H1 => x = .ref d ∧ ty σ H1 fun y H2 => ∃ (z : Str) (r : Option Value), y = .str z ∧ PySem.W.nsIn K d z = some r ∧ tx σ H2 fun dv H3 => (r = none → Q dv H3) ∧ ∀ u, r = some u → ∃ v, RelV v u ∧ Q v H3) : tKGet2 K d td ty tx σ H Q := h
abbrev sStat : Stmt := topS 38
abbrev nStat : List Str := ["words", "form"]
theorem scStat : FnScope nStat ["words"] (defScope sStat) := ⟨rfl, rfl, rfl, by decide +kernel, rfl, by decide +kernel, by decide +kernel⟩
def formTab : List (Str × (List Str → Prop)) := [("let", gLet), ("say", gSay), ("drop", gNm), ("hold", gNm), ("release", gNm), ("pin", gNm), ("unpin", gNm), ("if", gIf), ("else", gBare), ("end", gBare), ("repeat", gNum), ("proc", gProc), ("do", gDo), ("minor", gBare), ("rings", gNum), ("begin", gBare), ("slice", gNum), ("compact", gNum), ("finalize", gBare), ("settle", gBare)]
/-- a row's words have a form -/
def gStat (ws : List Str) : Prop := match ws with
  | [] => False
  | z :: us => match formTab.lookup z with
    | some G => G (z :: us)
    | none => gStore (z :: us)
/-- the table of forms -/
structure Tb4 (P : Program) (w : World) (K : PySem.W.Frag) (mg : Str → Option Value) (base : Heap) (dF fO : Addr) : Prop where
  forms : mg "FORMS" = some (.ref dF)
  kd : ∃ es n, KDict K w dF es n
  store : mg "store_form" = some (.ref fO)
  ms : Fm P w K mg base 5 fO gStore
  at_ : ∀ z G, formTab.lookup z = some G → ∃ f, PySem.W.nsIn K dF z = some (some (.ref f)) ∧ Fm P w K mg base 5 f G
  no : ∀ z, formTab.lookup z = none → PySem.W.nsIn K dF z = some none
section
variable {P : Program} {w : World} {K : PySem.W.Frag} {mg : Str → Option Value} {base : Heap} {dF fO : Addr}
theorem ok_stat {f : Addr} {fd : FuncData} (F : Fun K "statement_of" "statement_of" sStat f fd) (T : Tb4 P w K mg base dF fO) : FnOk P w K mg base CX0 6 f fd ["words"] (spF gStat) := by
  obtain ⟨es, n, kd⟩ := T.kd
  refine F.ok scStat (fun vs H Q E h => ?_) (fun cdv A outer s H vs Q E hr h => ?_)
  · obtain ⟨l, ws, rfl, _⟩ := h
    rfl
  · obtain ⟨l, ws, rfl, hws, ne, yes, no⟩ := h
    have hl := hws.at_
    match ws, ne with
    | z :: us, _ =>
    obtain ⟨fX, G, ⟨fdX, GX, kX, bX⟩, hz, hG⟩ : ∃ (fX : Addr) (G : List Str → Prop), Fm P w K mg base 5 fX G ∧ ((PySem.W.nsIn K dF z = some none ∧ fX = fO) ∨ PySem.W.nsIn K dF z = some (some (.ref fX))) ∧ (gStat (z :: us) ↔ G (z :: us)) := by
      cases e : formTab.lookup z with
      | none =>
        refine ⟨fO, gStore, T.ms, .inl ⟨T.no z e, rfl⟩, ?_⟩
        show (match formTab.lookup z with
          | some G => G (z :: us)
          | none => gStore (z :: us)) ↔ _
        rw [e]
      | some G =>
        obtain ⟨f, h1, h2⟩ := T.at_ z G e
        refine ⟨f, G, h2, .inr h1, ?_⟩
        show (match formTab.lookup z with
          | some G => G (z :: us)
          | none => gStore (z :: us)) ↔ _
        rw [e]
    refine ⟨_, pss_cons (ps_set (i := 1) scStat.nd rfl (.inl rfl) (pe_kget2 kd (pe_glob (v := .ref dF) (by rfl) T.forms rfl) (pe_ix ix_list (pv 0) pe_int (fun _ _ => rfl)) (pe_glob (v := .ref fO) (by rfl) T.store rfl) ⟨rfl, rfl, rfl, rfl⟩)) <|
      pss_one (ps_ret (pe_callL (i := 1) GX hr rfl (.inl rfl) kX bX .nil pass0 (pa_cons (pv 0) pa_nil))), ?_⟩
    refine seq_of (asg_of (kget2_of (k_of ⟨rfl, ixk_of rfl hl (k := 0) rfl ?_⟩)))
    rcases hz with ⟨hz, rfl⟩ | hz
    · refine ⟨z, none, rfl, hz, k_of ⟨fun _ => ?_, fun u e => nomatch e⟩⟩
      dsimp only
      exact ret_of (callL_of rfl (c_of (v_of rfl (n_of ⟨l, _, rfl, hws, List.cons_ne_nil _ _, fun g => yes (hG.mpr g), fun ng => no fun g => ng (hG.mp g)⟩))))
    · refine ⟨z, _, rfl, hz, k_of ⟨(fun e => nomatch e), fun u e => ?_⟩⟩
      cases e
      refine ⟨.ref fX, rfl, ?_⟩
      dsimp only
      exact ret_of (callL_of rfl (c_of (v_of rfl (n_of ⟨l, _, rfl, hws, List.cons_ne_nil _ _, fun g => yes (hG.mpr g), fun ng => no fun g => ng (hG.mp g)⟩))))
end
end Qw
/-! the lines of a text, the words of a line -/
namespace Qw
open PySem PySem.Spec PyProof.Rows L2 Evl Gd Sn
theorem spl_facts {c : Nat} : ∀ (l acc : List Nat), TL.spl [c] 0 acc l ≠ [] ∧ (TL.spl [c] 0 acc l).length ≤ l.length + 1 ∧ ∀ p ∈ TL.spl [c] 0 acc l, (∀ x ∈ p, x ∈ acc ∨ x ∈ l) ∧ p.length ≤ acc.length + l.length
  | [], acc => by
    rw [TL.spl]
    refine ⟨List.cons_ne_nil _ _, Nat.le_refl _, fun p hp => ?_⟩
    rw [List.mem_singleton.mp hp]
    exact ⟨fun x hx => .inl hx, Nat.le_add_right _ _⟩
  | d :: r, acc => by
    rw [TL.spl]
    by_cases h : TL.pre [c] (d :: r) = true
    · rw [if_pos h]
      obtain ⟨_, a2, a3⟩ := spl_facts (c := c) r []
      have e : ([c] : List Nat).length - 1 = 0 := rfl
      rw [e]
      refine ⟨List.cons_ne_nil _ _, by rw [List.length_cons, List.length_cons]; omega, fun p hp => ?_⟩
      rcases List.mem_cons.mp hp with rfl | hp
      · exact ⟨fun x hx => .inl hx, Nat.le_add_right _ _⟩
      · obtain ⟨b1, b2⟩ := a3 p hp
        refine ⟨fun x hx => ?_, by rw [List.length_nil] at b2; rw [List.length_cons]; omega⟩
        rcases b1 x hx with z | z
        · cases z
        · exact .inr (List.mem_cons_of_mem _ z)
    · rw [if_neg h]
      obtain ⟨a1, a2, a3⟩ := spl_facts (c := c) r (acc ++ [d])
      refine ⟨a1, by rw [List.length_cons]; omega, fun p hp => ?_⟩
      obtain ⟨b1, b2⟩ := a3 p hp
      refine ⟨fun x hx => ?_, by rw [List.length_append, List.length_singleton] at b2; rw [List.length_cons]; omega⟩
      rcases b1 x hx with z | z
      · rcases List.mem_append.mp z with z | z
        · exact .inl z
        · exact .inr (by rw [List.mem_singleton.mp z]; exact List.mem_cons_self)
      · exact .inr (List.mem_cons_of_mem _ z)
theorem split_is {w b : Str} {c : Nat} (hb : TL.tl b = [c]) (hc : c < 256) : Txt.split w b = (TL.spl [c] 0 [] (TL.tl w)).map SX.S := by
  have h1 : w = SX.S (TL.tl w) := (SX.S_tl w).symm
  have h2 : b = SX.S [c] := TL.ext_tl (hb.trans (tl_S _).symm)
  have := SX.split_S (a := TL.tl w) (b := [c]) (List.cons_ne_nil _ _) (by rw [List.all_cons, decide_eq_true hc]; rfl)
  rw [← h1, ← h2] at this
  exact this
/-- the pieces of a word are words -/
theorem split_wd {w b : Str} {c : Nat} (hb : TL.tl b = [c]) (hc : c < 256) (wd : Wd w) : Txt.split w b ≠ [] ∧ (Txt.split w b).length ≤ w.length + 1 ∧ ∀ u ∈ Txt.split w b, Wd u ∧ u.length ≤ w.length := by
  rw [split_is hb hc]
  obtain ⟨a1, a2, a3⟩ := spl_facts (c := c) (TL.tl w) []
  have len := TL.len_tl w
  refine ⟨fun z => a1 (List.map_eq_nil_iff.mp z), by rw [List.length_map]; omega, fun u hu => ?_⟩
  obtain ⟨p, hp, rfl⟩ := List.mem_map.mp hu
  obtain ⟨b1, b2⟩ := a3 p hp
  have lp := TL.len_tl (SX.S p)
  rw [tl_S p] at lp
  rw [List.length_nil] at b2
  have fw := wd.few
  refine ⟨⟨by rw [tl_S p]; exact fun x hx => wd.asc x ((b1 x hx).resolve_left fun z => nomatch z), by omega⟩, by omega⟩
/-- each line has a form -/
def gLine (u : Str) : Prop := gStat (Txt.split u " ")
end Qw
/-! BadRow(row) -/
namespace Qw
open PySem PySem.Spec PyProof.Rows L2 Evl Gd Sn Ex
abbrev sBadRow : Stmt := inClass (topS 2) 0
theorem scBadRow : FnScopeC ["self", "row"] ["self", "row"] (defScope sBadRow) := ⟨rfl, rfl, rfl, by decide +kernel, rfl, by decide +kernel, by decide +kernel, by decide +kernel, rfl, rfl⟩
section
variable {P : Program} {w : World} {K : PySem.W.Frag} {mg : Str → Option Value} {base : Heap} {C f : Addr} {fd : FuncData}
theorem ok_BadRow (F : FunC P K "__init__" "BadRow.__init__" sBadRow C f fd) (T : OexC K C) (S : SupVE P K mg C C) (no : PySem.W.findIn K (.ref C) "row" = some none) : FnG P w K mg base CX0 1 f fd ["self", "row"] (spInitA K C "row") := by
  refine fngC_of F scBadRow (fun vs H Q E h => ?_) rfl rfl rfl rfl (fun cda cc A outer s H vs Q E hr gd h => ?_)
  · obtain ⟨a, d, x, e, rfl, _⟩ := h
    rfl
  · obtain ⟨a, d, x, e, rfl, ha, hA, hs, q⟩ := h
    refine ⟨_, _, a, C, [x], pa_cons (pe_joined (PJ.cons pe_str (PJ.cons (pe_fmtA gd hr.units (pv 1)) (PJ.cons pe_str PJ.nil)))) pa_nil, pss_one (ps_ost (pv 0) (pv 1)), rfl, T, S, ha, ?_⟩
    have l1 := hs.ln
    refine ⟨_, rfl, ?_, x, rfl, d, e, hA, hs, e.shown, rfl, ?_, ⟨_, rfl, ?_, ?_⟩⟩
    · decide +kernel
    · rw [Str.length_append, Str.length_append, sizeLine_eq, show (Str.empty).length = 0 from by decide +kernel, show ("row " : Str).length = 4 from by decide +kernel]
      omega
    · rw [Str.length_append, Str.length_append, Str.length_append, sizeLine_eq, show (Str.empty).length = 0 from by decide +kernel, show ("row " : Str).length = 4 from by decide +kernel, show (" has no form" : Str).length = 12 from by decide +kernel]
      omega
    · exact ⟨by show 1 ≤ 1000; decide, ha, _, rfl, _, rfl, a, C, rfl, T, no, .inl ⟨ha, fun dx n1 n2 => q dx n1 n2⟩⟩
end
/-- how BadRow is made -/
structure ErrR (P : Program) (w : World) (K : PySem.W.Frag) (mg : Str → Option Value) (base : Heap) (C f : Addr) (fd : FuncData) : Prop where
  O : Own K C f
  kC : PySem.W.keepIn K (.ref C) = true
  g : mg "BadRow" = some (.ref C)
  G : FnG P w K mg base CX0 1 f fd ["self", "row"] (spInitA K C "row")
  b : ∀ (s : Shared) (self : Value) (us : List Value), us.length + 1 = (["self", "row"] : List Str).length → K.In s.heap → BindsTo s fd ⟨self :: us, []⟩ ((["self", "row"] : List Str).zip (self :: us))
theorem shw_int {i : Int} (h : i.natAbs ≤ 1000000) : Shw (.int i) := by
  have f := fit_wide (i := i) (Nat.lt_of_le_of_lt h (by decide))
  exact ⟨f.sh, Nat.le_trans f.dp (by decide), Nat.le_trans f.ln (by decide)⟩
theorem raiseR_of {K : PySem.W.Frag} {C : Addr} {H : Hp} {i : Int} {Q : XK} (sh : Shw (.int i)) (q : ∀ H' dd, Ex H H' → H' dd = some (.xd [("row", .int i)]) → Q (.ref C) (some dd) H') : Raised (spInitA K C "row") C [.int i] H Q := by
  intro a ha
  refine ⟨a, fun _ => False, .int i, .int i, rfl, upd_same, .int i, sh, fun dx hdx ne => ⟨rfl, dx, _, upd_same, ?_, ?_, q _ dx (fun b o hb => ?_) upd_same⟩⟩
  · rw [upd_ne ne, upd_same]
  · rw [upd_ne ne] at hdx
    exact hdx
  · have hdx' : H dx = none := by
      rw [upd_ne ne] at hdx
      exact hdx
    have n1 : b ≠ a := ne_of_none hb ha
    have n2 : b ≠ dx := ne_of_none hb hdx'
    rw [upd_ne n2, del_ne n1, upd_ne n1, upd_ne n2, upd_ne n1]
    exact hb
end Qw
/-! statements_of of any value: the first row without a form is told -/
namespace Qw
open PySem PySem.Spec PyProof.Rows L2 Evl Gd Sn Ex
abbrev sStats : Stmt := topS 41
abbrev nStats : List Str := ["text", "found", "at", "line", "statement"]
theorem scStats : FnScope nStats ["text"] (defScope sStats) := ⟨rfl, rfl, rfl, by decide +kernel, rfl, by decide +kernel, by decide +kernel⟩
/-- the rows of a text -/
def linesOf (z : Str) : List Str := if z = "" then [] else Txt.split z "\n"
/-- any value: its rows have forms, or the first that has none is told; what is no text is told at 0 -/
def spStats (K : PySem.W.Frag) (CB : Addr) : Sp := fun vs H Q E => ∃ (D : Addr → Prop) (x : V) (e : PyData), vs = [x] ∧ Av K D H x e ∧ (∀ z, e = .str z → Wd z) ∧
  (∀ z, e = .str z → (∀ u ∈ linesOf z, gLine u) → ∀ H' v, Ex H H' → Q v H') ∧
  (∀ z (i : Nat) u, e = .str z → (linesOf z)[i]? = some u → ¬ gLine u → (∀ j u', j < i → (linesOf z)[j]? = some u' → gLine u') → ∀ H' dd, Ex H H' → H' dd = some (.xd [("row", .int i)]) → E (.ref CB) (some dd) H') ∧
  (isStr e = false → ∀ H' dd, Ex H H' → H' dd = some (.xd [("row", .int 0)]) → E (.ref CB) (some dd) H')
theorem kit_strX (e : PyData) : kitB (tyName e) "str" = some (isStr e) := kit_str e
section
variable {P : Program} {w : World} {K : PySem.W.Frag} {mg : Str → Option Value} {base : Heap}
theorem ok_stats {f fT fB CB : Addr} {fd fdT fdB : FuncData} (F : Fun K "statements_of" "statements_of" sStats f fd) (FT : Fun K "statement_of" "statement_of" sStat fT fdT) (bT : Binds K fdT ["words"] []) (gT : mg "statement_of" = some (.ref fT)) (mI : mg "isinstance" = none) (mS : mg "str" = none) (mE : mg "enumerate" = none) (ED : ErrR P w K mg base CB fB fdB)
    (GT : FnOk P w K mg base CX0 6 fT fdT ["words"] (spF gStat)) : FnG P w K mg base (L2.CX P w) 7 f fd ["text"] (spStats K CB) := by
  refine fng_of F scStats (fun vs H Q E h => ?_) (fun cdv A outer s H vs Q E hr gd h => ?_)
  · obtain ⟨D, x, e, rfl, _⟩ := h
    rfl
  · obtain ⟨D, x, e, rfl, av, wd, yes, no, nstr⟩ := h
    have tk : Takes (cxOf (L2.CX P w) P w K mg base nStats "statements_of" (defScope sStats) f cdv A outer s H E) (fun cls d _ H => E cls d H) := takes_of rfl rfl rfl rfl
    refine ⟨_, pss_cons (ps_if (pt_not (pt_val (pe_callB call_isi (by rfl) mI (by decide +kernel) (pa_cons (pv 0) (pa_cons (pe_bltn (v := .ty "str") (by rfl) mS (by decide +kernel) rfl) pa_nil))))) (pss_one (ps_raise rfl tk (pmk_newE ED.O ED.kC ED.G (hr.mono (by decide)) gd pass0 (by rfl) ED.g ED.b (pa_cons pe_int pa_nil)))) pss_nil) <|
      pss_cons (ps_set (i := 1) scStats.nd rfl (.inl rfl) (pe_lst pa_nil)) <|
      pss_cons (ps_if (pt_cmpR op_eq (pv 0) pe_str (nomark _)) (pss_one (ps_ret (pv 1))) pss_nil) <|
      pss_cons (ps_for (passes_of rfl) rfl (pi_enum (by rfl) mE (pa_cons (pe_split (pv 0) pe_str) pa_nil)) (pg_tup (n := 2) rfl (pgs_cons (pg_name (i := 2) scStats.nd rfl (.inl rfl)) <| pgs_cons (pg_name (i := 3) scStats.nd rfl (.inl rfl)) pgs_nil))
        (pss_cons (ps_set (i := 4) scStats.nd rfl (.inl rfl) (pe_call GT hr (by rfl) gT FT.kp bT .nil pass0 (pa_cons (pe_split (pv 3) pe_str) pa_nil))) <|
         pss_cons (ps_if (pt_cmpR op_isN (pv 4) pe_non (nomark _)) (pss_one (ps_raise rfl tk (pmk_newE ED.O ED.kC ED.G (hr.mono (by decide)) gd pass0 (by rfl) ED.g ED.b (pa_cons (pv 2) pa_nil)))) pss_nil) <|
         pss_one (ps_expr (pe_bm PySem.F.plainAttrs_list PySem.F.slot_list_append PySem.F.type_list_append mt_append (pv 1) (pa_cons (pv 4) pa_nil))))) <|
      pss_one (ps_ret (pv 1)), ?_⟩
    refine seq_of (ifS_of (not_of (test_of (cb_of (c_of (v_of rfl (c_of (k_of (n_of ⟨x, .ty "str", _, _, isStr e, rfl, .ty "str", ty_av av, kit_ty (kit_str e), isStr e, rfl, ?_⟩)))))))))
    cases st : isStr e with
    | false =>
      rw [if_pos (show (!false) = true from rfl)]
      exact c_of (k_of (n_of ⟨by show 1 ≤ 1000; decide, raiseR_of (shw_int (by decide)) fun H' dd e1 hd => nstr st H' dd e1 hd⟩))
    | true =>
      rw [if_neg (show ¬ (!true) = true from Bool.false_ne_true)]
      obtain ⟨z, rfl⟩ : ∃ z, e = .str z := by cases e <;> first | exact ⟨_, rfl⟩ | cases st
      cases av
      have wz := wd z rfl
      have fz := wz.few
      dsimp only [tNext]
      refine seq_of (asg_of (lst_of (n_of ⟨Nat.zero_le _, fun D hD => ?_⟩)))
      have e1 : Ex H (upd H D (.lst [])) := Ex.new hD
      have h1 : (upd H D (.lst [])) D = some (.lst []) := upd_same
      generalize upd H D (.lst []) = H1 at e1 h1 ⊢
      dsimp only
      refine seq_of (ifS_of (test_of (op_of (v_of rfl (k_of ⟨rfl, _, rfl, ?_⟩)))))
      rw [str_eq]
      by_cases zn : z = ""
      · rw [decide_eq_true zn, if_pos rfl]
        exact ret_of (v_of rfl (yes z rfl (fun u hu => by unfold linesOf at hu; rw [if_pos zn] at hu; cases hu) H1 _ e1))
      · rw [decide_eq_false zn, if_neg Bool.false_ne_true]
        have lo : linesOf z = Txt.split z "\n" := if_neg zn
        obtain ⟨s1, s2, s3⟩ := split_wd (w := z) (b := "\n") (c := 10) (by decide +kernel) (by decide) wz
        dsimp only [tNext]
        refine seq_of (for_of ?_)
        refine c_of (m1_of (v_of rfl ⟨⟨_, rfl⟩, k_of ⟨_, _, rfl, rfl, by decide +kernel, by rw [sizeLine_eq]; omega, fun p hp => n_of ?_⟩⟩))
        rw [← lo] at s1 s2 s3 ⊢
        have e2 : Ex H1 (upd H1 p (.lst ((linesOf z).map V.str))) := Ex.new hp
        have h2 : (upd H1 p (.lst ((linesOf z).map V.str))) p = some (.lst ((linesOf z).map V.str)) := upd_same
        have hD2 := e2 _ _ h1
        generalize upd H1 p (.lst ((linesOf z).map V.str)) = H2 at e2 h2 hD2 ⊢
        have nDp : p ≠ D := fun e => by rw [e, h1] at hp; cases hp
        refine ⟨p, _, rfl, sq_of h2, for_it (walk_enum (K := K) (a := p) (xs := (linesOf z).map V.str)) (fun i σ' H' => ∃ y2 y3 y4 us, σ' = [some (.str z), some (.ref D), y2, y3, y4] ∧ Ex H H' ∧ H' p = some (.lst ((linesOf z).map V.str)) ∧ H' D = some (.lst us) ∧ us.length = i ∧ ∀ j u', j < i → (linesOf z)[j]? = some u' → gLine u') ⟨none, none, none, [], rfl, e1.trans e2, h2, hD2, rfl, fun j u' h => absurd h (Nat.not_lt_zero _)⟩ (fun i σ' H' _ ⟨_, _, _, _, _, _, h, _⟩ => sq_of h) ?_ ?_⟩
        · rintro i x σ' Hc Hd hi ⟨y2, y3, y4, us, rfl, e, hp', hD', ul, before⟩ hy
          obtain ⟨T, u, v, rfl, hT, rfl, hu, hv⟩ := hy
          cases hu
          have hv : ((linesOf z).map V.str)[i]? = some v := hv
          rw [List.getElem?_map] at hv
          obtain ⟨ln, hl1, rfl⟩ := Option.map_eq_some_iff.mp hv
          obtain ⟨wl, ll⟩ := s3 ln (List.mem_of_getElem? hl1)
          have fl := wl.few
          have il : i < (linesOf z).length := (List.getElem?_eq_some_iff.mp hl1).1
          obtain ⟨q1, q2, q3⟩ := split_wd (w := ln) (b := " ") (c := 32) (by decide +kernel) (by decide) wl
          have e3 : Ex Hc (upd Hc T (.tup [.int i, .str ln])) := Ex.new hT
          refine ⟨T, _, rfl, st_of upd_same, rfl, .int i, _, rfl, .str ln, _, rfl, rfl, ?_⟩
          dsimp only [gName]
          generalize upd Hc T (.tup [.int i, .str ln]) = Ha at e3 ⊢
          refine seq_of (asg_of (call_of (c_of (m1_of (v_of rfl ⟨⟨_, rfl⟩, k_of ⟨_, _, rfl, rfl, by decide +kernel, by rw [sizeLine_eq]; omega, fun p2 hp2 => ?_⟩⟩)))))
          have e4 : Ex Ha (upd Ha p2 (.lst ((Txt.split ln " ").map V.str))) := Ex.new hp2
          have wsH : Ws (upd Ha p2 (.lst ((Txt.split ln " ").map V.str))) p2 (Txt.split ln " ") := ⟨upd_same, fun u hu => (q3 u hu).1, by omega⟩
          generalize upd Ha p2 (.lst ((Txt.split ln " ").map V.str)) = Hw at e4 wsH ⊢
          refine n_of ⟨p2, _, rfl, wsH, q1, fun ok Hb v it => ?_, fun nok Hb e5 => ?_⟩
          · obtain ⟨e5, t, xs, rfl, ht⟩ := it
            have ecb := (e3.trans e4).trans e5
            dsimp only
            refine seq_of (ifS_of (test_of (op_of (v_of rfl (k_of ⟨rfl, _, rfl, ?_⟩)))))
            rw [show decide (V.ref t = V.non) = false from by simp, if_neg Bool.false_ne_true]
            dsimp only [tNext]
            refine drop_of (v_of rfl ⟨.inl ⟨rfl, _, sq_of (ecb _ _ hD')⟩, c_of (v_of rfl (n_of ⟨D, us, .ref t, rfl, rfl, ecb _ _ hD', sz_lt (by omega), ?_⟩))⟩)
            refine ⟨_, _, _, us ++ [.ref t], rfl, Ex.mut (e.trans ecb) hD, ?_, upd_same, by rw [List.length_append, ul]; rfl, fun j u' hj hju => ?_⟩
            · rw [upd_ne nDp]
              exact ecb _ _ hp'
            · by_cases c : j = i
              · rw [c, hl1] at hju
                cases hju
                exact ok
              · exact before j u' (by omega) hju
          · have ecb := (e3.trans e4).trans e5
            dsimp only
            refine seq_of (ifS_of (test_of (op_of (v_of rfl (k_of ⟨rfl, _, rfl, ?_⟩)))))
            rw [decide_eq_true rfl, if_pos rfl]
            exact c_of (v_of rfl (n_of ⟨by show 1 ≤ 1000; decide, raiseR_of (shw_int (by omega)) fun H' dd e6 hd => no z i ln rfl hl1 nok before H' dd ((e.trans ecb).trans e6) hd⟩))
        · rintro σ' Hc ⟨y2, y3, y4, us, rfl, e, _, _, _, all⟩
          dsimp only
          refine ret_of (v_of rfl (yes z rfl (fun u hu => ?_) Hc _ e))
          obtain ⟨j, hj⟩ := List.mem_iff_getElem?.mp hu
          exact all j u (by rw [List.length_map]; exact (List.getElem?_eq_some_iff.mp hj).1) hj
end
end Qw
/-! read_script of any value -/
namespace Qw
open PySem PySem.Spec PyProof.Rows L2 Evl Gd Sn Ex
abbrev sRead : Stmt := topS 40
abbrev nRead : List Str := ["text", "line"]
theorem scRead : FnScope nRead ["text"] (defScope sRead) := ⟨rfl, rfl, rfl, by decide +kernel, rfl, by decide +kernel, by decide +kernel⟩
abbrev rTupOf (K : PySem.W.Frag) : List V → Hp → VK → Prop := fun xs H Q => ∃ p ys, xs = [.ref p] ∧ ((SqL K H p ys ∧ ∀ l, H l = none → Q (.ref l) (upd H l (.tup ys))) ∨ (SqT K H p ys ∧ Q (.ref p) H))
def dLine (u : Str) : PyData := .tuple ((Txt.split u " ").map .str)
theorem td_strs {K : PySem.W.Frag} {H : Hp} : ∀ ws : List Str, TdAll K H (ws.map V.str) (ws.map .str)
  | [] => .nil
  | w :: r => .cons (.str w) (td_strs r)
/-- its rows as tuples of words; or BadRow -/
def spRead (K : PySem.W.Frag) (CB : Addr) : Sp := fun vs H Q E => ∃ (D : Addr → Prop) (x : V) (e : PyData), vs = [x] ∧ Av K D H x e ∧ (∀ z, e = .str z → Wd z) ∧
  (∀ z, e = .str z → (∀ u ∈ linesOf z, gLine u) → ∀ (H' : Hp) (t : Addr), Ex H H' → Td K H' (.ref t) (.tuple ((linesOf z).map dLine)) → Q (.ref t) H') ∧
  (∀ z (i : Nat) u, e = .str z → (linesOf z)[i]? = some u → ¬ gLine u → (∀ j u', j < i → (linesOf z)[j]? = some u' → gLine u') → ∀ H' dd, Ex H H' → H' dd = some (.xd [("row", .int i)]) → E (.ref CB) (some dd) H') ∧
  (isStr e = false → ∀ H' dd, Ex H H' → H' dd = some (.xd [("row", .int 0)]) → E (.ref CB) (some dd) H')
/-- all rows have forms, or there is a first that has none -/
theorem first_bad (us : List Str) : (∀ u ∈ us, gLine u) ∨ ∃ (i : Nat) (u : Str), us[i]? = some u ∧ ¬ gLine u ∧ ∀ (j : Nat) u', j < i → us[j]? = some u' → gLine u' := by
  induction us with
  | nil => exact .inl fun u hu => nomatch hu
  | cons a us ih =>
    by_cases h : gLine a
    · rcases ih with ih | ⟨i, u, h1, h2, h3⟩
      · exact .inl fun u hu => (List.mem_cons.mp hu).elim (fun e => e ▸ h) (ih u)
      · refine .inr ⟨i + 1, u, h1, h2, fun j u' hj hu => ?_⟩
        cases j with
        | zero =>
          cases hu
          exact h
        | succ j => exact h3 j u' (by omega) hu
    · exact .inr ⟨0, a, rfl, h, fun j _ hj _ => absurd hj (Nat.not_lt_zero _)⟩
section
variable {P : Program} {w : World} {K : PySem.W.Frag} {mg : Str → Option Value} {base : Heap}
theorem ok_read {f fS CB : Addr} {fd fdS : FuncData} (F : Fun K "read_script" "read_script" sRead f fd) (FS : Fun K "statements_of" "statements_of" sStats fS fdS) (bS : Binds K fdS ["text"] []) (gS : mg "statements_of" = some (.ref fS)) (mT : mg "tuple" = none)
    (GS : FnG P w K mg base (L2.CX P w) 7 fS fdS ["text"] (spStats K CB)) : FnG P w K mg base (L2.CX P w) 8 f fd ["text"] (spRead K CB) := by
  refine fng_of F scRead (fun vs H Q E h => ?_) (fun cdv A outer s H vs Q E hr gd h => ?_)
  · obtain ⟨D, x, e, rfl, _⟩ := h
    rfl
  · obtain ⟨D, x, e, rfl, av, wd, yes, no, nstr⟩ := h
    have tk : Takes (cxOf (L2.CX P w) P w K mg base nRead "read_script" (defScope sRead) f cdv A outer s H E) (fun cls d _ H => E cls d H) := takes_of rfl rfl rfl rfl
    have pass := passes_call (E := E) tk (fun _ _ _ _ h => h)
    refine ⟨_, pss_cons (ps_expr (pe_callG GS hr gd (by rfl) gS FS.kp bS .nil pass (pa_cons (pv 0) pa_nil))) <|
      pss_cons (ps_if (pt_cmpR op_eq (pv 0) pe_str (nomark _)) (pss_one (ps_ret (pe_tup pa_nil))) pss_nil) <|
      pss_one (ps_ret (pe_callTy call_tuple_of (by rfl) mT (by decide +kernel) (pa_cons (pe_lc (own := [("line", 1)]) (g := gName 1) (tt := tYes) (te := tCB (rTupOf K) (tCons (tM1 (fun x xs H Q => ∃ a b, x = .str a ∧ xs = [.str b] ∧ (b.length == 0) = false ∧ a.length + 2 ≤ sizeLine ∧ rNewStrs (Txt.split a b) H Q) (tVar 1) (tC (.str " "))) tNil)) rfl scRead.nd (pi_list (pe_split (pv 0) pe_str)) (blkOk_by (N := nRead) (sc := defScope sRead) (by decide +kernel))
        (fun _ _ _ _ _ => pg_name (i := 1) scRead.nd rfl (.inl rfl)) (fun _ _ _ _ _ => pts_nil) (fun _ _ _ _ _ => pe_callTy call_tuple_of (by rfl) mT (by decide +kernel) (pa_cons (pe_split (pv 1) pe_str) pa_nil))) pa_nil))), ?_⟩
    refine seq_of (drop_of (call_of (c_of (v_of rfl (n_of ⟨D, x, e, rfl, av, wd, fun z ez all H1 v e1 => ?_, no, nstr⟩)))))
    subst ez
    cases av
    have wz := wd z rfl
    have fz := wz.few
    dsimp only
    refine seq_of (ifS_of (test_of (op_of (v_of rfl (k_of ⟨rfl, _, rfl, ?_⟩)))))
    rw [str_eq]
    by_cases zn : z = ""
    · rw [decide_eq_true zn, if_pos rfl]
      have lo : linesOf z = [] := if_pos zn
      refine ret_of (tup_of (n_of ⟨Nat.zero_le _, fun p hp => ?_⟩))
      exact yes z rfl all _ p (e1.trans (Ex.new hp)) (by rw [lo]; exact .tup (st_of upd_same) .nil)
    · rw [decide_eq_false zn, if_neg Bool.false_ne_true]
      have lo : linesOf z = Txt.split z "\n" := if_neg zn
      obtain ⟨s1, s2, s3⟩ := split_wd (w := z) (b := "\n") (c := 10) (by decide +kernel) (by decide) wz
      dsimp only [tNext]
      refine ret_of (cb_of (c_of (lc_of (iL_of (m1_of (v_of rfl ⟨⟨_, rfl⟩, k_of ⟨_, _, rfl, rfl, by decide +kernel, by rw [sizeLine_eq]; omega, fun p hp => ⟨p, rfl, ⟨_, sq_of upd_same⟩, fun D2 hD => ?_⟩⟩⟩))))))
      rw [← lo] at s1 s2 s3 hD ⊢
      have e2 : Ex H1 (upd H1 p (.lst ((linesOf z).map V.str))) := Ex.new hp
      have h2 : (upd H1 p (.lst ((linesOf z).map V.str))) p = some (.lst ((linesOf z).map V.str)) := upd_same
      generalize upd H1 p (.lst ((linesOf z).map V.str)) = H2 at e2 h2 hD ⊢
      refine lc_list (xs := (linesOf z).map V.str) (fun i H' => Ex H2 H' ∧ ∃ us, H' D2 = some (.lst us) ∧ us.length = i ∧ TdAll K H' us (((linesOf z).take i).map dLine)) ⟨Ex.new hD, [], upd_same, rfl, .nil⟩ (fun i H' _ h => sq_of (h.1 _ _ h2)) ?_ ?_
      · rintro i x' H' hx ⟨e, us, hd, ul, td⟩
        rw [List.getElem?_map] at hx
        obtain ⟨ln, hl1, rfl⟩ := Option.map_eq_some_iff.mp hx
        obtain ⟨wl, ll⟩ := s3 ln (List.mem_of_getElem? hl1)
        have fl := wl.few
        have il : i < (linesOf z).length := (List.getElem?_eq_some_iff.mp hl1).1
        refine ⟨rfl, ?_⟩
        dsimp only [tYes]
        rw [if_pos rfl]
        refine cb_of (c_of (m1_of (v_of rfl ⟨⟨_, rfl⟩, k_of ⟨_, _, rfl, rfl, by decide +kernel, by rw [sizeLine_eq]; omega, fun p2 hp2 => n_of ⟨p2, _, rfl, .inl ⟨sq_of upd_same, fun t ht => ?_⟩⟩⟩⟩)))
        have x1 : Ex H' (upd H' p2 (.lst ((Txt.split ln " ").map V.str))) := Ex.new hp2
        generalize upd H' p2 (.lst ((Txt.split ln " ").map V.str)) = Ha at x1 ht ⊢
        have x2 : Ex Ha (upd Ha t (.tup ((Txt.split ln " ").map V.str))) := Ex.new ht
        have y2 : (upd Ha t (.tup ((Txt.split ln " ").map V.str))) t = some (.tup ((Txt.split ln " ").map V.str)) := upd_same
        generalize upd Ha t (.tup ((Txt.split ln " ").map V.str)) = Hb at x2 y2 ⊢
        have hdb := (x1.trans x2) _ _ hd
        refine ⟨us, hdb, sz_lt (by omega), Ex.mut (e.trans (x1.trans x2)) hD, us ++ [.ref t], upd_same, by rw [List.length_append, ul]; rfl, ?_⟩
        have kt : KeepT K Hb (upd Hb D2 (.lst (us ++ [.ref t]))) := .lst hdb fun a o n h => by
          rw [upd_ne n]
          exact h
        rw [take_one hl1, List.map_append]
        have tr : Td K Hb (.ref t) (dLine ln) := .tup (st_of y2) (td_strs _)
        exact ((td.ex (x1.trans x2)).snoc tr).keep kt
      · rintro H3 ⟨e3, us, hd, ul, td⟩
        rw [List.length_map, List.take_length] at td
        refine n_of ⟨D2, us, rfl, .inl ⟨sq_of hd, fun t ht => ?_⟩⟩
        exact yes z rfl all _ t (((e1.trans e2).trans e3).trans (Ex.new ht)) (.tup (st_of upd_same) (td.ex (Ex.new ht)))
end
end Qw
/-! the law's own words: reserved, names -/
namespace Qw
open PySem PySem.Spec PyProof.Rows L2 Evl Gd Sn
abbrev sRes : Stmt := topS 47
abbrev sLName : Stmt := topS 48
abbrev nRes : List Str := ["_law_some"]
abbrev nLName : List Str := ["_law_word", "_law_small", "_law_sign"]
theorem scRes : FnScope nRes [] (defScope sRes) := ⟨rfl, rfl, rfl, by decide +kernel, rfl, by decide +kernel, by decide +kernel⟩
theorem scLName : FnScope nLName ["_law_word"] (defScope sLName) := ⟨rfl, rfl, rfl, by decide +kernel, rfl, by decide +kernel, by decide +kernel⟩
def spRes : Sp := fun vs H Q _ => vs = [] ∧ ∀ H' p, Ex H H' → H' p = some (.lst (takenL.map V.str)) → Q (.ref p) H'
def spLName : Sp := fun vs H Q _ => ∃ w : Str, vs = [.str w] ∧ Wd w ∧ ∀ H', Ex H H' → Q (.bl (nameB w)) H'
theorem low_mem : ∀ c : Fin 128, decide (c.val ∈ ("abcdefghijklmnopqrstuvwxyz" : Str).cps.toList) = low c.val := by decide +kernel
theorem lower_one : ∀ c : Fin 128, Txt.lower ⟨#[c.val]⟩ = ⟨#[if upp c.val then c.val + 32 else c.val]⟩ := by decide +kernel
theorem low_lt : ∀ c : Fin 128, (if upp c.val then c.val + 32 else c.val) < 128 := by decide +kernel
theorem lower_low : ∀ c : Fin 128, low (if upp c.val then c.val + 32 else c.val) = (low c.val || upp c.val) := by decide +kernel
section
variable {P : Program} {w : World} {K : PySem.W.Frag} {mg : Str → Option Value} {base : Heap}
theorem ok_res {f : Addr} {fd : FuncData} (F : Fun K "_law_reserved" "_law_reserved" sRes f fd) : FnOk P w K mg base CX0 1 f fd [] spRes := by
  refine F.ok scRes (fun vs H Q E h => ?_) (fun cdv A outer s H vs Q E hr h => ?_)
  · obtain ⟨rfl, _⟩ := h
    rfl
  · obtain ⟨rfl, q⟩ := h
    refine ⟨_, pss_cons (ps_set (i := 0) scRes.nd rfl (.inl rfl) (pe_lst (pa_cons pe_str <| pa_cons pe_str <| pa_cons pe_str <| pa_cons pe_str <| pa_cons pe_str <| pa_cons pe_str <| pa_cons pe_str <| pa_cons pe_str <| pa_cons pe_str <| pa_cons pe_str <| pa_cons pe_str <| pa_cons pe_str <| pa_cons pe_str pa_nil))) <|
      pss_cons (ps_set (i := 0) scRes.nd rfl (.inl rfl) (pe_op op_cat (pv 0) (pe_lst (pa_cons pe_str <| pa_cons pe_str <| pa_cons pe_str <| pa_cons pe_str <| pa_cons pe_str <| pa_cons pe_str <| pa_cons pe_str <| pa_cons pe_str <| pa_cons pe_str <| pa_cons pe_str <| pa_cons pe_str <| pa_cons pe_str pa_nil)))) <|
      pss_one (ps_ret (pe_op op_cat (pv 0) (pe_lst (pa_cons pe_str <| pa_cons pe_str <| pa_cons pe_str <| pa_cons pe_str <| pa_cons pe_str pa_nil)))), ?_⟩
    refine seq_of (asg_of (lst_of (c_of (k_of (c_of (k_of (c_of (k_of (c_of (k_of (c_of (k_of (c_of (k_of (c_of (k_of (c_of (k_of (c_of (k_of (c_of (k_of (c_of (k_of (c_of (k_of (c_of (k_of (n_of ⟨by show 13 ≤ sizeLine; decide, fun p1 h1 => ?_⟩)))))))))))))))))))))))))))))
    have e1 : Ex H (upd H p1 (.lst [V.str "none", V.str "get", V.str "at", V.str "is", V.str "then", V.str "record", V.str "weak", V.str "map", V.str "counted", V.str "traced", V.str "let", V.str "drop", V.str "hold"])) := Ex.new h1
    have a1 : (upd H p1 (.lst [V.str "none", V.str "get", V.str "at", V.str "is", V.str "then", V.str "record", V.str "weak", V.str "map", V.str "counted", V.str "traced", V.str "let", V.str "drop", V.str "hold"])) p1 = some (.lst [V.str "none", V.str "get", V.str "at", V.str "is", V.str "then", V.str "record", V.str "weak", V.str "map", V.str "counted", V.str "traced", V.str "let", V.str "drop", V.str "hold"]) := upd_same
    generalize upd H p1 (.lst [V.str "none", V.str "get", V.str "at", V.str "is", V.str "then", V.str "record", V.str "weak", V.str "map", V.str "counted", V.str "traced", V.str "let", V.str "drop", V.str "hold"]) = H1 at e1 a1 ⊢
    dsimp only
    refine seq_of (asg_of (op_of (v_of rfl (lst_of (c_of (k_of (c_of (k_of (c_of (k_of (c_of (k_of (c_of (k_of (c_of (k_of (c_of (k_of (c_of (k_of (c_of (k_of (c_of (k_of (c_of (k_of (c_of (k_of (n_of ⟨by show 12 ≤ sizeLine; decide, fun p2 h2 => ⟨p1, p2, _, _, rfl, rfl, (Ex.new h2) _ _ a1, upd_same, by show 25 ≤ sizeLine; decide, fun p3 h3 => ?_⟩⟩)))))))))))))))))))))))))))))
    have e3 := (e1.trans (Ex.new h2 (o := .lst [V.str "release", V.str "pin", V.str "unpin", V.str "say", V.str "if", V.str "else", V.str "end", V.str "repeat", V.str "proc", V.str "do", V.str "minor", V.str "rings"]))).trans (Ex.new h3 (o := .lst ([V.str "none", V.str "get", V.str "at", V.str "is", V.str "then", V.str "record", V.str "weak", V.str "map", V.str "counted", V.str "traced", V.str "let", V.str "drop", V.str "hold"] ++ [V.str "release", V.str "pin", V.str "unpin", V.str "say", V.str "if", V.str "else", V.str "end", V.str "repeat", V.str "proc", V.str "do", V.str "minor", V.str "rings"])))
    have a3 := upd_same (H := upd H1 p2 (.lst [V.str "release", V.str "pin", V.str "unpin", V.str "say", V.str "if", V.str "else", V.str "end", V.str "repeat", V.str "proc", V.str "do", V.str "minor", V.str "rings"])) (a := p3) (o := .lst ([V.str "none", V.str "get", V.str "at", V.str "is", V.str "then", V.str "record", V.str "weak", V.str "map", V.str "counted", V.str "traced", V.str "let", V.str "drop", V.str "hold"] ++ [V.str "release", V.str "pin", V.str "unpin", V.str "say", V.str "if", V.str "else", V.str "end", V.str "repeat", V.str "proc", V.str "do", V.str "minor", V.str "rings"]))
    generalize upd (upd H1 p2 (.lst [V.str "release", V.str "pin", V.str "unpin", V.str "say", V.str "if", V.str "else", V.str "end", V.str "repeat", V.str "proc", V.str "do", V.str "minor", V.str "rings"])) p3 (.lst ([V.str "none", V.str "get", V.str "at", V.str "is", V.str "then", V.str "record", V.str "weak", V.str "map", V.str "counted", V.str "traced", V.str "let", V.str "drop", V.str "hold"] ++ [V.str "release", V.str "pin", V.str "unpin", V.str "say", V.str "if", V.str "else", V.str "end", V.str "repeat", V.str "proc", V.str "do", V.str "minor", V.str "rings"])) = H3 at e3 a3 ⊢
    dsimp only
    refine ret_of (op_of (v_of rfl (lst_of (c_of (k_of (c_of (k_of (c_of (k_of (c_of (k_of (c_of (k_of (n_of ⟨by show 5 ≤ sizeLine; decide, fun p4 h4 => ⟨p3, p4, _, _, rfl, rfl, (Ex.new h4) _ _ a3, upd_same, by show 30 ≤ sizeLine; decide, fun p5 h5 => ?_⟩⟩))))))))))))))
    exact q _ p5 ((e3.trans (Ex.new h4)).trans (Ex.new h5)) upd_same
theorem ok_lname {f fR : Addr} {fd fdR : FuncData} (F : Fun K "_law_is_name" "_law_is_name" sLName f fd) (FR : Fun K "_law_reserved" "_law_reserved" sRes fR fdR) (bR : Binds K fdR [] []) (gR : mg "_law_reserved" = some (.ref fR)) (mL : mg "len" = none) (mA : mg "all" = none) : FnOk P w K mg base CX0 2 f fd ["_law_word"] spLName := by
  have GR : FnOk P w K mg base CX0 1 fR fdR [] spRes := ok_res FR
  refine F.ok scLName (fun vs H Q E h => ?_) (fun cdv A outer s H vs Q E hr h => ?_)
  · obtain ⟨w', rfl, _⟩ := h
    rfl
  · obtain ⟨w', rfl, wd, q⟩ := h
    have few := wd.few
    have len := TL.len_tl w'
    refine ⟨_, pss_cons (ps_set (i := 1) scLName.nd rfl (.inr rfl) pe_str) <|
      pss_cons (ps_if (pw_or (pt_not (pt_chain op_lt op_lt pe_int (pe_callB call_len_str (by rfl) mL PySem.boot_len (pa_cons (pv 0) pa_nil)) pe_int)) (pw_or1 (pt_cmpR op_in_seq (pv 0) (pe_call0 GR hr (by rfl) gR FR.kp bR .nil pass0) (by rfl)))).pt (pss_one (ps_ret pe_bl)) pss_nil) <|
      pss_one (ps_ret (pe_and (pe_or (pe_cmpR op_in_sign (pe_ix ix_str (pv 0) pe_int (fun _ _ => rfl)) (pv 1) (by rfl)) (pe_one (pe_cmpR op_in_sign (pe_m0 PySem.F.slot_str_lower PySem.F.type_str_lower mt_lower (pe_ix ix_str (pv 0) pe_int (fun _ _ => rfl))) (pv 1) (by rfl)))) (pe_one (pe_callB (cr_all rfl) (by rfl) mA (by decide +kernel) (pa_cons (pe_lc (own := [("_law_sign", 2)]) (g := gName 2) (tt := tYes) (te := tOp (fun x y H Q => ∃ (c : Nat) (z : Str), x = .str ⟨#[c]⟩ ∧ y = .str z ∧ Q (.bl (decide (c ∈ z.cps.toList))) H) (tVar 2) (tVar 1)) rfl scLName.nd (pi_str (pe_slice sl_str (pv 0) (po_some pe_int) po_none)) (blkOk_by (N := nLName) (sc := defScope sLName) (by decide +kernel))
          (fun _ _ _ _ _ => pg_name (i := 2) scLName.nd rfl (.inl rfl)) (fun _ _ _ _ _ => pts_nil) (fun _ _ _ _ _ => pe_cmpR op_in_sign (pv 2) (pv 1) (by rfl))) pa_nil))))), ?_⟩
    have bad : nameB w' = false → ∀ H', Ex H H' → Q (.bl false) H' := fun e H' x => by
      have := q H' x
      rw [e] at this
      exact this
    refine seq_of (asg_of (k_of ?_))
    dsimp only
    refine seq_of (ifS_of (or_of (not_of (test_of (chain_of (k_of (cb_of (c_of (v_of rfl (n_of ⟨_, rfl, by rw [sizeLine_eq]; omega, _, _, rfl, rfl, _, rfl, ?_⟩))))))))))
    by_cases c0 : 0 < w'.length
    · rw [decide_eq_true (by omega), if_pos rfl]
      refine k_of ⟨_, _, rfl, rfl, _, rfl, ?_⟩
      by_cases c9 : w'.length < 9
      · rw [decide_eq_true (by omega), if_neg (show ¬ (!true) = true from Bool.false_ne_true)]
        refine test_of (op_of (v_of rfl (call_of (n_of ⟨rfl, fun H1 p e1 h1 => ⟨p, _, rfl, .inl (sq_of h1), rfl, by decide +kernel, _, rfl, ?_⟩⟩))))
        rw [if_neg Bool.false_ne_true, inV_strs]
        by_cases tk : w' ∈ takenL
        · rw [decide_eq_true tk, if_pos rfl]
          exact ret_of (k_of (bad (by unfold nameB; rw [decide_eq_true tk]; simp) H1 e1))
        · rw [decide_eq_false tk, if_neg Bool.false_ne_true]
          dsimp only [tNext]
          have nb : nameB w' = nameL (TL.tl w') := by
            unfold nameB
            rw [decide_eq_true (show w'.length ≤ 8 by omega), decide_eq_false tk]
            rfl
          cases e : TL.tl w' with
          | nil =>
            rw [e] at len
            exact absurd c0 (by rw [len]; exact Nat.lt_irrefl 0)
          | cons c l =>
            have hc : c < 128 := wd.asc c (by rw [e]; exact List.mem_cons_self)
            have e0 : w'.cps.toList[0]? = some c := by
              have : w'.cps.toList = c :: l := e
              rw [this]
              rfl
            rw [e] at nb
            have nb : nameB w' = ((low c || upp c) && l.all low) := nb
            have al : (low c || upp c) = true → tCB (rAll K) (tCons (tLc (iStr (tSl rSlS (tVar 0) (tPart (tC (.int 1))) tNoPart)) (gName 2) tYes (tOp (fun x y H Q => ∃ (c : Nat) (z : Str), x = .str ⟨#[c]⟩ ∧ y = .str z ∧ Q (.bl (decide (c ∈ z.cps.toList))) H) (tVar 2) (tVar 1)) [2]) tNil) [some (.str w'), some (.str "abcdefghijklmnopqrstuvwxyz"), none] H1 Q := fun ok => by
              have tl := tail_is e
              refine cb_of (c_of (lc_of (slS_of (v_of rfl (k_of ⟨1, rfl, _, rfl, by rw [sizeLine_eq]; omega, _, rfl, fun D hD => lc_it walk_str (fun i H' => Ex H1 H' ∧ H' D = some (.lst (((l.take i).map low).map V.bl))) ⟨Ex.new hD, upd_same⟩ (fun _ _ _ _ => True.intro) ?_ ?_⟩)))))
              · rintro i x' H0 H' hi ⟨ee, hd⟩ ⟨rfl, d, hd1, rfl⟩
                have hd2 : l[i]? = some d := by
                  have : (cutS w' (some 1) none).cps.toList = l := tl
                  rw [← this, Array.getElem?_toList]
                  exact hd1
                have dl : d < 128 := wd.asc d (by rw [e]; exact List.mem_cons_of_mem _ (List.mem_of_getElem? hd2))
                refine ⟨rfl, ?_⟩
                dsimp only [tYes]
                rw [if_pos rfl]
                refine op_of (v_of rfl (v_of rfl ⟨d, _, rfl, rfl, ?_⟩))
                rw [low_mem ⟨d, dl⟩]
                have ll : l.length + 1 = w'.length := by rw [len, e]; rfl
                refine ⟨_, hd, sz_lt (by rw [List.length_map, List.length_map, List.length_take]; omega), Ex.mut ee hD, ?_⟩
                rw [upd_same, take_one hd2, List.map_append, List.map_append]
                rfl
              · rintro H2 ⟨e2, hd⟩
                have sz : (cutS w' (some 1) none).cps.size = l.length := by
                  rw [← Array.length_toList]
                  exact congrArg List.length tl
                rw [sz, List.take_length] at hd
                refine n_of ⟨D, _, rfl, sq_of hd, ?_⟩
                have := q H2 (e1.trans e2)
                rw [nb, ok, Bool.true_and] at this
                rw [List.all_map]
                exact this
            refine ret_of (andv_of (orv_of (op_of (op_of (v_of rfl (k_of ⟨_, 0, c, rfl, rfl, by rw [sizeLine_eq]; omega, atI_nat (j := 0) e0, v_of rfl ⟨c, _, rfl, rfl, _, rfl, ?_⟩⟩))))))
            rw [low_mem ⟨c, hc⟩]
            cases z : low c with
            | true =>
              rw [if_pos rfl]
              refine ⟨_, rfl, ?_⟩
              rw [if_pos rfl]
              exact al (by rw [z]; rfl)
            | false =>
              rw [if_neg Bool.false_ne_true]
              have lw := lower_one ⟨c, hc⟩
              have m1 : decide ((if upp c then c + 32 else c) ∈ ("abcdefghijklmnopqrstuvwxyz" : Str).cps.toList) = (low c || upp c) := (low_mem ⟨_, low_lt ⟨c, hc⟩⟩).trans (lower_low ⟨c, hc⟩)
              refine op_of (m0_of (op_of (v_of rfl (k_of ⟨_, 0, c, rfl, rfl, by rw [sizeLine_eq]; omega, atI_nat (j := 0) e0, ⟨⟨_, rfl⟩, _, rfl, rfl, by show (1 : Nat) ≤ 5592405; decide, v_of rfl ⟨if upp c then c + 32 else c, _, congrArg V.str lw, rfl, _, rfl, ?_⟩⟩⟩))))
              rw [m1]
              cases u : upp c with
              | true =>
                rw [z, if_pos (show (false || true) = true from rfl)]
                exact al (by rw [z, u]; rfl)
              | false =>
                rw [z, if_neg (show ¬ (false || false) = true from Bool.false_ne_true)]
                exact bad (by rw [nb, z, u]; rfl) H1 e1
      · rw [decide_eq_false (by omega), if_pos (show (!false) = true from rfl), if_pos rfl]
        exact ret_of (k_of (bad (by unfold nameB; rw [decide_eq_false (show ¬ w'.length ≤ 8 by omega)]; rfl) H (Ex.refl H)))
    · rw [decide_eq_false (by omega), if_neg Bool.false_ne_true]
      refine ⟨_, rfl, ?_⟩
      rw [if_pos (show (!false) = true from rfl), if_pos rfl]
      have e : TL.tl w' = [] := List.eq_nil_of_length_eq_zero (by omega)
      exact ret_of (k_of (bad (by unfold nameB; rw [e]; simp [nameL]) H (Ex.refl H)))
end
end Qw
/-! the law's own words: small names -/
namespace Qw
open PySem PySem.Spec PyProof.Rows L2 Evl Gd Sn
abbrev sLSmall : Stmt := topS 49
abbrev nLSmall : List Str := ["_law_word"]
theorem scLSmall : FnScope nLSmall ["_law_word"] (defScope sLSmall) := ⟨rfl, rfl, rfl, by decide +kernel, rfl, by decide +kernel, by decide +kernel⟩
def spLSmall : Sp := fun vs H Q _ => ∃ w : Str, vs = [.str w] ∧ Wd w ∧ ∀ H', Ex H H' → Q (.bl (localB w)) H'
section
variable {P : Program} {w : World} {K : PySem.W.Frag} {mg : Str → Option Value} {base : Heap}
theorem ok_lsmall {f fN : Addr} {fd fdN : FuncData} (F : Fun K "_law_is_small" "_law_is_small" sLSmall f fd) (FN : Fun K "_law_is_name" "_law_is_name" sLName fN fdN) (bN : Binds K fdN ["_law_word"] []) (gN : mg "_law_is_name" = some (.ref fN)) (GN : FnOk P w K mg base CX0 2 fN fdN ["_law_word"] spLName) : FnOk P w K mg base CX0 3 f fd ["_law_word"] spLSmall := by
  refine F.ok scLSmall (fun vs H Q E h => ?_) (fun cdv A outer s H vs Q E hr h => ?_)
  · obtain ⟨w', rfl, _⟩ := h
    rfl
  · obtain ⟨w', rfl, wd, q⟩ := h
    have few := wd.few
    refine ⟨_, pss_one (ps_ret (pe_and (pe_call GN hr (by rfl) gN FN.kp bN .nil pass0 (pa_cons (pv 0) pa_nil)) (pe_one (pe_cmpR op_in_sign (pe_ix ix_str (pv 0) pe_int (fun _ _ => rfl)) pe_str (by rfl))))), ?_⟩
    refine ret_of (andv_of (call_of (c_of (v_of rfl (n_of ⟨_, rfl, wd, fun H1 e1 => ⟨nameB w', rfl, ?_⟩⟩)))))
    have q := q H1 e1
    unfold localB at q
    cases b : nameB w' with
    | false =>
      rw [if_neg Bool.false_ne_true]
      rw [b, Bool.false_and] at q
      exact q
    | true =>
      rw [if_pos rfl]
      rw [b, Bool.true_and] at q
      unfold nameB at b
      rw [Bool.and_eq_true, Bool.and_eq_true] at b
      cases e : TL.tl w' with
      | nil => rw [e] at b; exact absurd b.2.2 Bool.false_ne_true
      | cons c l =>
        have nm := b.2.2
        rw [e] at nm q
        have nm : ((low c || upp c) && l.all low) = true := nm
        rw [Bool.and_eq_true] at nm
        have hc : c < 128 := wd.asc c (by rw [e]; exact List.mem_cons_self)
        have e0 : w'.cps.toList[0]? = some c := by
          have : w'.cps.toList = c :: l := e
          rw [this]
          rfl
        refine op_of (op_of (v_of rfl (k_of ⟨_, 0, c, rfl, rfl, by rw [sizeLine_eq]; omega, atI_nat (j := 0) e0, k_of ⟨c, _, rfl, rfl, ?_⟩⟩)))
        rw [low_mem ⟨c, hc⟩]
        rw [List.all_cons, nm.2, Bool.and_true] at q
        exact q
end
end Qw
/-! the law's own words: numbers -/
namespace Qw
open PySem PySem.Spec PyProof.Rows L2 Evl Gd Sn
abbrev sLNum : Stmt := topS 50
abbrev nLNum : List Str := ["_law_word", "_law_most", "_law_sign"]
theorem scLNum : FnScope nLNum ["_law_word", "_law_most"] (defScope sLNum) := ⟨rfl, rfl, rfl, by decide +kernel, rfl, by decide +kernel, by decide +kernel⟩
def spLNum : Sp := fun vs H Q _ => ∃ (w : Str) (m : Nat), vs = [.str w, .int m] ∧ m ≤ 1000000000 ∧ Wd w ∧ ∀ H' (b : Bool), Ex H H' → (b = true ↔ NumW (TL.tl w) m) → Q (.bl b) H'
theorem dig_mem : ∀ c : Fin 128, decide (c.val ∈ ("0123456789" : Str).cps.toList) = dig c.val := by decide +kernel
section
variable {P : Program} {w : World} {K : PySem.W.Frag} {mg : Str → Option Value} {base : Heap}
theorem ok_lnum {f : Addr} {fd : FuncData} (F : Fun K "_law_is_number" "_law_is_number" sLNum f fd) (mL : mg "len" = none) (mA : mg "all" = none) (mI : mg "int" = none) : FnOk P w K mg base CX0 1 f fd ["_law_word", "_law_most"] spLNum := by
  refine F.ok scLNum (fun vs H Q E h => ?_) (fun cdv A outer s H vs Q E hr h => ?_)
  · obtain ⟨w', m, rfl, _⟩ := h
    rfl
  · obtain ⟨w', m, rfl, hm, wd, q⟩ := h
    have few := wd.few
    have len := TL.len_tl w'
    refine ⟨_, pss_cons (ps_if (pw_or (pt_not (pt_chain op_lt op_lt pe_int (pe_callB call_len_str (by rfl) mL PySem.boot_len (pa_cons (pv 0) pa_nil)) pe_int)) (pw_or1 (pt_not (pt_val (pe_callB (cr_all rfl) (by rfl) mA (by decide +kernel) (pa_cons (pe_lc (own := [("_law_sign", 2)]) (g := gName 2) (tt := tYes) (te := tOp (fun x y H Q => ∃ (c : Nat) (z : Str), x = .str ⟨#[c]⟩ ∧ y = .str z ∧ Q (.bl (decide (c ∈ z.cps.toList))) H) (tVar 2) (tC (.str "0123456789"))) rfl scLNum.nd (pi_str (pv 0)) (blkOk_by (N := nLNum) (sc := defScope sLNum) (by decide +kernel))
          (fun _ _ _ _ _ => pg_name (i := 2) scLNum.nd rfl (.inl rfl)) (fun _ _ _ _ _ => pts_nil) (fun _ _ _ _ _ => pe_cmpR op_in_sign (pv 2) pe_str (by rfl))) pa_nil)))))).pt (pss_one (ps_ret pe_bl)) pss_nil) <|
      pss_one (ps_ret (pe_and (pe_or (pe_cmpR op_eq (pv 0) pe_str (nomark _)) (pe_one (pe_cmpR op_ne (pe_ix ix_str (pv 0) pe_int (fun _ _ => rfl)) pe_str (nomark _)))) (pe_one (pe_cmpR op_le (pe_callTy call_int_str (by rfl) mI (by decide +kernel) (pa_cons (pv 0) pa_nil)) (pv 1) (nomark _))))), ?_⟩
    have bad : (¬ NumW (TL.tl w') m) → ∀ H', Ex H H' → Q (.bl false) H' := fun n H' x => q H' false x ⟨fun z => (by cases z), fun z => absurd z n⟩
    refine seq_of (ifS_of (or_of (not_of (test_of (chain_of (k_of (cb_of (c_of (v_of rfl (n_of ⟨_, rfl, by rw [sizeLine_eq]; omega, _, _, rfl, rfl, _, rfl, ?_⟩))))))))))
    by_cases c0 : 0 < w'.length
    · rw [decide_eq_true (by omega), if_pos rfl]
      refine k_of ⟨_, _, rfl, rfl, _, rfl, ?_⟩
      by_cases c12 : w'.length < 12
      · rw [decide_eq_true (by omega), if_neg (show ¬ (!true) = true from Bool.false_ne_true)]
        refine not_of (test_of (cb_of (c_of (lc_of (v_of rfl ⟨_, rfl, fun D hD => lc_it walk_str (fun i H' => Ex H H' ∧ H' D = some (.lst ((((TL.tl w').take i).map dig).map V.bl))) ⟨Ex.new hD, upd_same⟩ (fun _ _ _ _ => True.intro) ?_ ?_⟩)))))
        · rintro i x' H0 H' hi ⟨ee, hd⟩ ⟨rfl, d, hd1, rfl⟩
          have hd2 : (TL.tl w')[i]? = some d := by
            rw [← hd1]
            exact Array.getElem?_toList ..
          have dl : d < 128 := wd.asc d (List.mem_of_getElem? hd2)
          refine ⟨rfl, ?_⟩
          dsimp only [tYes]
          rw [if_pos rfl]
          refine op_of (v_of rfl (k_of ⟨d, _, rfl, rfl, ?_⟩))
          rw [dig_mem ⟨d, dl⟩]
          refine ⟨_, hd, sz_lt (by rw [List.length_map, List.length_map, List.length_take]; omega), Ex.mut ee hD, ?_⟩
          rw [upd_same, take_one hd2, List.map_append, List.map_append]
          rfl
        · rintro H2 ⟨e2, hd⟩
          rw [show w'.cps.size = (TL.tl w').length from len, List.take_length] at hd
          refine n_of ⟨D, _, rfl, sq_of hd, _, rfl, ?_⟩
          rw [List.all_map]
          show (if (!((TL.tl w').all dig)) = true then _ else _)
          cases dg : (TL.tl w').all dig with
          | false =>
            rw [if_pos (show (!false) = true from rfl)]
            refine ret_of (k_of (bad ?_ H2 e2))
            rintro ⟨n, _, hn⟩
            rw [hn, num_dig n] at dg
            cases dg
          | true =>
            rw [if_neg (show ¬ (!true) = true from Bool.false_ne_true)]
            dsimp only [tNext]
            have tne : TL.tl w' ≠ [] := fun z => by rw [z] at len; exact absurd c0 (by rw [len]; exact Nat.lt_irrefl 0)
            cases e : TL.tl w' with
            | nil => exact absurd e tne
            | cons c l =>
              rw [e] at dg
              have can := canon (List.cons_ne_nil c l) dg
              have e0 : w'.cps.toList[0]? = some c := by
                have : w'.cps.toList = c :: l := e
                rw [this]
                rfl
              have fin : (∃ n, (c :: l) = TL.numL n) → tOp (rI0 fun i j => .bl (decide (i ≤ j))) (tCB (fun xs H Q => ∃ a n, xs = [.str a] ∧ PySem.intText? a = some n ∧ a.length ≤ 640 ∧ Q (.int n) H) (tCons (tVar 0) tNil)) (tVar 1) [some (.str w'), some (.int (m : Int)), none] H2 Q := fun ⟨n, hn⟩ => by
                have hn' : TL.tl w' = TL.numL n := e.trans hn
                refine op_of (cb_of (c_of (v_of rfl (n_of ⟨_, _, rfl, int_is hn' (by omega), by omega, v_of rfl ⟨_, _, rfl, rfl, ?_⟩⟩))))
                exact q H2 _ e2 ⟨fun h => ⟨n, by have := of_decide_eq_true h; omega, hn'⟩, fun ⟨n', h1, h2⟩ => decide_eq_true (by have := TL.numL_inj (hn'.symm.trans h2); omega)⟩
              refine ret_of (andv_of (orv_of (op_of (v_of rfl (k_of ⟨rfl, _, rfl, ?_⟩)))))
              rw [eq_zero, e]
              by_cases z : (c :: l) = [48]
              · rw [decide_eq_true z, if_pos rfl]
                refine ⟨_, rfl, ?_⟩
                rw [if_pos rfl]
                exact fin (can.mp (.inr z))
              · rw [decide_eq_false z, if_neg Bool.false_ne_true]
                refine op_of (op_of (v_of rfl (k_of ⟨_, 0, c, rfl, rfl, by rw [sizeLine_eq]; omega, atI_nat (j := 0) e0, k_of ⟨rfl, _, rfl, ?_⟩⟩)))
                rw [zero_is e0]
                by_cases c48 : c = 48
                · rw [decide_eq_true c48, if_neg (show ¬ (!true) = true from Bool.false_ne_true)]
                  refine bad ?_ H2 e2
                  rintro ⟨n, _, hn⟩
                  rcases can.mpr ⟨n, e.symm.trans hn⟩ with h | h
                  · exact h (by rw [c48]; rfl)
                  · exact z h
                · rw [decide_eq_false c48, if_pos (show (!false) = true from rfl)]
                  exact fin (can.mp (.inl fun h => c48 (Option.some.inj h)))
      · rw [decide_eq_false (by omega), if_pos (show (!false) = true from rfl), if_pos rfl]
        refine ret_of (k_of (bad ?_ H (Ex.refl H)))
        rintro ⟨n, h, hn⟩
        have := TL.numL_len (n := n) (k := 10) (by decide) (by omega)
        rw [← hn, ← len] at this
        omega
    · rw [decide_eq_false (by omega), if_neg Bool.false_ne_true]
      refine ⟨_, rfl, ?_⟩
      rw [if_pos (show (!false) = true from rfl), if_pos rfl]
      refine ret_of (k_of (bad ?_ H (Ex.refl H)))
      rintro ⟨n, h, hn⟩
      have := List.length_pos_iff.mpr (TL.numL_ne n)
      rw [← hn, ← len] at this
      exact c0 this
end
end Qw
/-! the law's own words: values -/
namespace Qw
open PySem PySem.Spec PyProof.Rows L2 Evl Gd Sn
abbrev sLVal : Stmt := topS 51
abbrev nLVal : List Str := ["_law_word"]
theorem scLVal : FnScope nLVal ["_law_word"] (defScope sLVal) := ⟨rfl, rfl, rfl, by decide +kernel, rfl, by decide +kernel, by decide +kernel⟩
def spLVal : Sp := fun vs H Q _ => ∃ w : Str, vs = [.str w] ∧ Wd w ∧ ∀ H' (b : Bool), Ex H H' → (b = true ↔ ValW w) → Q (.bl b) H'
theorem head_is {w : Str} : TL.tl (cutS w none (some 1)) = (TL.tl w).take 1 := by
  have len := TL.len_tl w
  unfold cutS
  rw [TL.tl_mk]
  have h1 : HT.sIx w.length 0 none = 0 := rfl
  have h2 : HT.sIx w.length w.length (some ((1 : Nat) : Int)) = min 1 w.length := HT.sIx_nat w.length w.length 1
  rw [show (some (1 : Int)) = some ((1 : Nat) : Int) from rfl, h1, h2, List.drop_zero, Nat.sub_zero]
  show ((TL.tl w).take (min 1 w.length)) = _
  rw [len, ← List.take_take, List.take_length]
theorem dash_is {w : Str} : decide (V.str (cutS w none (some 1)) = V.str "-") = true ↔ ∃ l, TL.tl w = 45 :: l := by
  rw [decide_eq_true_iff]
  constructor
  · intro e
    have h := congrArg TL.tl (V.str.inj e)
    rw [head_is, tl_dash] at h
    cases t : TL.tl w with
    | nil => rw [t] at h; cases h
    | cons a l =>
      rw [t] at h
      have h : [a] = [45] := h
      exact ⟨l, by rw [(List.cons.inj h).1]⟩
  · rintro ⟨l, e⟩
    have : cutS w none (some 1) = "-" := TL.ext_tl (by rw [head_is, tl_dash, e]; rfl)
    rw [this]
theorem dash0 {w : Str} {l : List Nat} (h : TL.tl w = 45 :: l) : decide (V.str w = V.str "-0") = decide (l = [48]) := by
  refine decide_eq_decide.mpr ⟨fun e => ?_, fun e => ?_⟩
  · have : TL.tl w = [45, 48] := by rw [V.str.inj e]; decide +kernel
    rw [h] at this
    exact (List.cons.inj this).2
  · rw [TL.ext_tl (x := w) (y := ("-0" : Str)) (by rw [h, e]; decide +kernel)]
section
variable {P : Program} {w : World} {K : PySem.W.Frag} {mg : Str → Option Value} {base : Heap}
theorem ok_lval {f fN fU : Addr} {fd fdN fdU : FuncData} (F : Fun K "_law_is_value" "_law_is_value" sLVal f fd) (FN : Fun K "_law_is_name" "_law_is_name" sLName fN fdN) (FU : Fun K "_law_is_number" "_law_is_number" sLNum fU fdU) (bN : Binds K fdN ["_law_word"] []) (bU : Binds K fdU ["_law_word", "_law_most"] []) (gN : mg "_law_is_name" = some (.ref fN)) (gU : mg "_law_is_number" = some (.ref fU)) (GN : FnOk P w K mg base CX0 2 fN fdN ["_law_word"] spLName) (GU' : FnOk P w K mg base CX0 1 fU fdU ["_law_word", "_law_most"] spLNum) : FnOk P w K mg base CX0 3 f fd ["_law_word"] spLVal := by
  have GU : FnOk P w K mg base CX0 2 fU fdU ["_law_word", "_law_most"] spLNum := GU'.mono (by decide)
  refine F.ok scLVal (fun vs H Q E h => ?_) (fun cdv A outer s H vs Q E hr h => ?_)
  · obtain ⟨w', rfl, _⟩ := h
    rfl
  · obtain ⟨w', rfl, wd, q⟩ := h
    have few := wd.few
    refine ⟨_, pss_cons (ps_if (pw_or (pt_cmpR op_eq (pv 0) pe_str (nomark _)) (pw_or (pt_val (pe_call GN hr (by rfl) gN FN.kp bN .nil pass0 (pa_cons (pv 0) pa_nil))) (pw_or1 (pt_val (pe_call GU hr (by rfl) gU FU.kp bU .nil pass0 (pa_cons (pv 0) <| pa_cons (pe_op op_pow pe_int pe_int) pa_nil)))))).pt (pss_one (ps_ret pe_bl)) pss_nil) <|
      pss_one (ps_ret (pe_and (pe_cmpR op_eq (pe_slice sl_str (pv 0) po_none (po_some pe_int)) pe_str (nomark _)) (pe_and (pe_cmpR op_ne (pv 0) pe_str (nomark _)) (pe_one (pe_call GU hr (by rfl) gU FU.kp bU .nil pass0 (pa_cons (pe_slice sl_str (pv 0) (po_some pe_int) po_none) <| pa_cons (pe_op op_pow pe_int pe_int) pa_nil)))))), ?_⟩
    have yes : ValW w' → ∀ H', Ex H H' → Q (.bl true) H' := fun v H' x => q H' true x ⟨fun _ => v, fun _ => rfl⟩
    have no : ¬ ValW w' → ∀ H', Ex H H' → Q (.bl false) H' := fun v H' x => q H' false x ⟨fun z => (by cases z), fun z => absurd z v⟩
    refine seq_of (ifS_of (or_of (test_of (op_of (v_of rfl (k_of ⟨rfl, _, rfl, ?_⟩))))))
    rw [str_eq]
    by_cases wn : w' = "none"
    · rw [decide_eq_true wn, if_pos rfl, if_pos rfl]
      exact ret_of (k_of (yes (.inl wn) H (Ex.refl H)))
    rw [decide_eq_false wn, if_neg Bool.false_ne_true]
    refine or_of (test_of (call_of (c_of (v_of rfl (n_of ⟨_, rfl, wd, fun H1 e1 => ⟨nameB w', rfl, ?_⟩⟩)))))
    cases nb : nameB w' with
    | true =>
      rw [if_pos rfl, if_pos rfl]
      exact ret_of (k_of (yes (.inr (.inl nb)) H1 e1))
    | false =>
      rw [if_neg Bool.false_ne_true]
      refine test_of (call_of (c_of (v_of rfl (c_of (op_of (k_of (k_of ⟨10, 9, rfl, rfl, ⟨by decide, by decide, by decide⟩, n_of ⟨_, 1000000000, rfl, Nat.le_refl _, wd, fun H2 b e2 hb => ⟨b, rfl, ?_⟩⟩⟩)))))))
      cases b with
      | true =>
        rw [if_pos rfl]
        exact ret_of (k_of (yes (.inr (.inr (.inl (hb.mp rfl)))) H2 (e1.trans e2)))
      | false =>
        rw [if_neg Bool.false_ne_true]
        dsimp only [tNext]
        have nn : ¬ NumW (TL.tl w') 1000000000 := fun z => by have := hb.mpr z; cases this
        have e12 := e1.trans e2
        have other : ∀ {A : Prop}, ValW w' → (∀ l, TL.tl w' = 45 :: l → NumW l 1000000000 → l ≠ [48] → A) → A := fun {A} v k => by
          rcases v with h | h | h | ⟨l, h1, h2, h3⟩
          · exact absurd h wn
          · rw [nb] at h
            cases h
          · exact absurd h nn
          · exact k l h1 h2 h3
        refine ret_of (andv_of (op_of (v_of rfl ⟨1, rfl, w', rfl, by rw [sizeLine_eq]; omega, k_of ⟨rfl, _, rfl, ?_⟩⟩)))
        by_cases d : ∃ l, TL.tl w' = 45 :: l
        · rw [dash_is.mpr d, if_pos rfl]
          obtain ⟨l, hl⟩ := d
          refine andv_of (op_of (v_of rfl (k_of ⟨rfl, _, rfl, ?_⟩)))
          rw [dash0 hl]
          by_cases z : l = [48]
          · rw [decide_eq_true z, if_neg (show ¬ (!true) = true from Bool.false_ne_true)]
            refine no (fun v => other v fun l' h1 _ h3 => ?_) H2 e12
            rw [hl] at h1
            exact h3 ((List.cons.inj h1).2 ▸ z)
          · rw [decide_eq_false z, if_pos (show (!false) = true from rfl)]
            have tl := tail_is hl
            have wt : Wd (cutS w' (some 1) none) := ⟨by rw [tl]; exact fun c hc => wd.asc c (by rw [hl]; exact List.mem_cons_of_mem _ hc), Nat.le_trans (cutS_length _ _ _) few⟩
            refine call_of (c_of (slS_of (v_of rfl (k_of ⟨1, rfl, _, rfl, by rw [sizeLine_eq]; omega, c_of (op_of (k_of (k_of ⟨10, 9, rfl, rfl, ⟨by decide, by decide, by decide⟩, n_of ⟨_, 1000000000, rfl, Nat.le_refl _, wt, fun H3 b e3 hb => ?_⟩⟩)))⟩))))
            rw [tl] at hb
            exact q H3 b (e12.trans e3) ⟨fun h => .inr (.inr (.inr ⟨l, hl, hb.mp h, z⟩)), fun v => other v fun l' h1 h2 _ => hb.mpr (by rw [hl] at h1; rw [(List.cons.inj h1).2]; exact h2)⟩
        · rw [show decide (V.str (cutS w' none (some 1)) = V.str "-") = false from by
            cases y : decide (V.str (cutS w' none (some 1)) = V.str "-") with
            | false => rfl
            | true => exact absurd (dash_is.mp y) d, if_neg Bool.false_ne_true]
          exact no (fun v => other v fun l h1 _ _ => d ⟨l, h1⟩) H2 e12
end
end Qw
/-! the law's own words: places -/
namespace Qw
open PySem PySem.Spec PyProof.Rows L2 Evl Gd Sn
abbrev sLSpot : Stmt := topS 52
theorem scLSpot : FnScope nLVal ["_law_word"] (defScope sLSpot) := ⟨rfl, rfl, rfl, by decide +kernel, rfl, by decide +kernel, by decide +kernel⟩
def spLSpot : Sp := fun vs H Q _ => ∃ w : Str, vs = [.str w] ∧ Wd w ∧ ∀ H' (b : Bool), Ex H H' → (b = true ↔ SlotW w) → Q (.bl b) H'
theorem six_dig : ∀ c : Fin 128, decide (c.val ∈ ("012345" : Str).cps.toList) = decide (48 ≤ c.val ∧ c.val ≤ 53) := by decide +kernel
theorem dot_one {c : Nat} : decide (V.str (⟨#[c]⟩ : Str) = V.str ".") = decide (c = 46) := by
  by_cases z : c = 46
  · subst z
    decide +kernel
  · rw [decide_eq_false z, decide_eq_false]
    intro e
    have e2 : (#[c] : Array Nat).toList = ("." : Str).cps.toList := congrArg (fun z : Str => z.cps.toList) (V.str.inj e)
    rw [show ("." : Str).cps.toList = [46] from by decide +kernel] at e2
    exact z (List.cons.inj e2).1
theorem last_two : ∀ {l : List Nat}, 2 < l.length → ∃ p c d, l = p ++ [c, d] ∧ p ≠ [] := by
  intro l h
  refine ⟨l.take (l.length - 2), l[l.length - 2], l[l.length - 1], ?_, fun z => ?_⟩
  · have h1 : l.drop (l.length - 2) = [l[l.length - 2], l[l.length - 1]] := by
      rw [List.drop_eq_getElem_cons (by omega), show l.length - 2 + 1 = l.length - 1 by omega, List.drop_eq_getElem_cons (by omega), show l.length - 1 + 1 = l.length by omega, List.drop_length]
    rw [← h1, List.take_append_drop]
  · have := congrArg List.length z
    rw [List.length_take, List.length_nil] at this
    omega
section
variable {P : Program} {w : World} {K : PySem.W.Frag} {mg : Str → Option Value} {base : Heap}
theorem ok_lspot {f fN : Addr} {fd fdN : FuncData} (F : Fun K "_law_is_spot" "_law_is_spot" sLSpot f fd) (FN : Fun K "_law_is_name" "_law_is_name" sLName fN fdN) (bN : Binds K fdN ["_law_word"] []) (gN : mg "_law_is_name" = some (.ref fN)) (mL : mg "len" = none) (GN : FnOk P w K mg base CX0 2 fN fdN ["_law_word"] spLName) : FnOk P w K mg base CX0 3 f fd ["_law_word"] spLSpot := by
  refine F.ok scLSpot (fun vs H Q E h => ?_) (fun cdv A outer s H vs Q E hr h => ?_)
  · obtain ⟨w', rfl, _⟩ := h
    rfl
  · obtain ⟨w', rfl, wd, q⟩ := h
    have few := wd.few
    have len := TL.len_tl w'
    refine ⟨_, pss_one (ps_ret (pe_and (pe_cmpR op_gt (pe_callB call_len_str (by rfl) mL PySem.boot_len (pa_cons (pv 0) pa_nil)) pe_int (nomark _)) (pe_and (pe_cmpR op_eq (pe_ix ix_str (pv 0) (pe_un un_neg pe_int) (fun _ _ => rfl)) pe_str (nomark _)) (pe_and (pe_cmpR op_in_sign (pe_ix ix_str (pv 0) (pe_un un_neg pe_int) (fun _ _ => rfl)) pe_str (by rfl)) (pe_one (pe_call GN hr (by rfl) gN FN.kp bN .nil pass0 (pa_cons (pe_slice sl_str (pv 0) po_none (po_some (pe_un un_neg pe_int))) pa_nil))))))), ?_⟩
    have no : ¬ SlotW w' → ∀ H', Ex H H' → Q (.bl false) H' := fun v H' x => q H' false x ⟨fun z => (by cases z), fun z => absurd z v⟩
    refine ret_of (andv_of (op_of (cb_of (c_of (v_of rfl (n_of ⟨_, rfl, by rw [sizeLine_eq]; omega, k_of ⟨_, _, rfl, rfl, _, rfl, ?_⟩⟩))))))
    by_cases l2 : 2 < w'.length
    · rw [decide_eq_true (by omega), if_pos rfl]
      obtain ⟨p, c, d, e, pne⟩ := last_two (l := TL.tl w') (by omega)
      have ec : w'.cps.toList = p ++ [c, d] := e
      have hd : d < 128 := wd.asc d (by rw [e]; simp)
      have a2 : atI w'.cps.toList (-2) = some c := by
        rw [ec]
        have n2 : (p ++ [c, d]).length = p.length + 2 := by rw [List.length_append]; rfl
        unfold atI ixN
        rw [n2, if_neg (by decide), if_pos (by omega)]
        show (p ++ [c, d])[((-2 : Int) + ((p.length + 2 : Nat) : Int)).toNat]? = some c
        rw [show ((-2 : Int) + ((p.length + 2 : Nat) : Int)).toNat = p.length by omega, List.getElem?_append_right (Nat.le_refl _), Nat.sub_self]
        rfl
      have a1 : atI w'.cps.toList (-1) = some d := by
        rw [ec, show p ++ [c, d] = (p ++ [c]) ++ [d] by simp]
        exact atI_last _ _
      have cut : TL.tl (cutS w' none (some (-2))) = p := by
        unfold cutS
        rw [TL.tl_mk, ec]
        have h1 : HT.sIx w'.length 0 none = 0 := rfl
        have wl : w'.length = p.length + 2 := by rw [len, e, List.length_append]; rfl
        have h2 : HT.sIx w'.length w'.length (some (-2)) = p.length := by
          unfold HT.sIx
          rw [wl]
          simp
          omega
        rw [h1, h2, List.drop_zero, Nat.sub_zero, List.take_append_of_le_length (Nat.le_refl _), List.take_length]
      have wp : Wd (cutS w' none (some (-2))) := ⟨by rw [cut]; exact fun x hx => wd.asc x (by rw [e]; exact List.mem_append_left _ hx), Nat.le_trans (cutS_length _ _ _) few⟩
      have only : SlotW w' → c = 46 ∧ (48 ≤ d ∧ d ≤ 53) ∧ nameB (cutS w' none (some (-2))) = true := by
        rintro ⟨o, m, ho, eo⟩
        have h := e.symm.trans eo
        have lens : p.length = (TL.tl o).length := by
          have := congrArg List.length h
          rw [List.length_append, List.length_append] at this
          have h2 : ([c, d] : List Nat).length = 2 := rfl
          have h3 : ([46, 48 + m.val] : List Nat).length = 2 := rfl
          omega
        obtain ⟨ep, er⟩ := List.append_inj h lens
        obtain ⟨e1, e2⟩ := List.cons.inj er
        have e2 := (List.cons.inj e2).1
        have om : cutS w' none (some (-2)) = o := TL.ext_tl (cut.trans ep)
        refine ⟨e1, ⟨by omega, by have := m.isLt; omega⟩, by rw [om]; exact ho⟩
      refine andv_of (op_of (op_of (v_of rfl (un_of (k_of ⟨2, rfl, _, -2, c, rfl, rfl, by rw [sizeLine_eq]; omega, a2, k_of ⟨rfl, _, rfl, ?_⟩⟩)))))
      rw [dot_one]
      by_cases c46 : c = 46
      · rw [decide_eq_true c46, if_pos rfl]
        refine andv_of (op_of (op_of (v_of rfl (un_of (k_of ⟨1, rfl, _, -1, d, rfl, rfl, by rw [sizeLine_eq]; omega, a1, k_of ⟨d, _, rfl, rfl, _, rfl, ?_⟩⟩)))))
        rw [six_dig ⟨d, hd⟩]
        by_cases d6 : 48 ≤ d ∧ d ≤ 53
        · rw [decide_eq_true d6, if_pos rfl]
          refine call_of (c_of (v_of rfl ⟨2, rfl, -2, rfl, w', rfl, by rw [sizeLine_eq]; omega, n_of ⟨_, rfl, wp, fun H1 e1 => ?_⟩⟩))
          refine q H1 _ e1 ⟨fun nb => ⟨_, ⟨d - 48, by omega⟩, nb, ?_⟩, fun v => (only v).2.2⟩
          rw [cut, e, c46]
          show p ++ [46, d] = p ++ [46, 48 + (d - 48)]
          rw [show 48 + (d - 48) = d by omega]
        · rw [decide_eq_false d6, if_neg Bool.false_ne_true]
          exact no (fun v => d6 (only v).2.1) H (Ex.refl H)
      · rw [decide_eq_false c46, if_neg Bool.false_ne_true]
        exact no (fun v => c46 (only v).1) H (Ex.refl H)
    · rw [decide_eq_false (by omega), if_neg Bool.false_ne_true]
      refine no ?_ H (Ex.refl H)
      rintro ⟨o, m, ho, eo⟩
      have := congrArg List.length eo
      rw [List.length_append, ← len] at this
      have on : TL.tl o ≠ [] := fun z => by
        unfold nameB at ho
        rw [z] at ho
        simp [nameL] at ho
      have := List.length_pos_iff.mpr on
      have : ([46, 48 + m.val] : List Nat).length = 2 := rfl
      omega
end
end Qw
/-! the law's own words: what is read -/
namespace Qw
open PySem PySem.Spec PyProof.Rows L2 Evl Gd Sn
abbrev sLWorth : Stmt := topS 53
abbrev nLWorth : List Str := ["_law_words"]
theorem scLWorth : FnScope nLWorth ["_law_words"] (defScope sLWorth) := ⟨rfl, rfl, rfl, by decide +kernel, rfl, by decide +kernel, by decide +kernel⟩
def gWorth (ws : List Str) : Prop := (∃ a : Str, ws = [a] ∧ (ValW a ∨ SlotW a)) ∨ AskedF ws
/-- a look of the law's at words: True iff so -/
def spB (G : List Str → Prop) : Sp := fun vs H Q _ => ∃ (l : Addr) (ws : List Str), vs = [.ref l] ∧ Ws H l ws ∧ ∀ H' (b : Bool), Ex H H' → (b = true ↔ G ws) → Q (.bl b) H'
section
variable {P : Program} {w : World} {K : PySem.W.Frag} {mg : Str → Option Value} {base : Heap}
theorem ok_lworth {f fN fV fS : Addr} {fd fdN fdV fdS : FuncData} (F : Fun K "_law_is_worth" "_law_is_worth" sLWorth f fd) (FN : Fun K "_law_is_name" "_law_is_name" sLName fN fdN) (FV : Fun K "_law_is_value" "_law_is_value" sLVal fV fdV) (FS : Fun K "_law_is_spot" "_law_is_spot" sLSpot fS fdS) (bN : Binds K fdN ["_law_word"] []) (bV : Binds K fdV ["_law_word"] []) (bS : Binds K fdS ["_law_word"] []) (gN : mg "_law_is_name" = some (.ref fN)) (gV : mg "_law_is_value" = some (.ref fV)) (gS : mg "_law_is_spot" = some (.ref fS)) (mL : mg "len" = none)
    (GN' : FnOk P w K mg base CX0 2 fN fdN ["_law_word"] spLName) (GV : FnOk P w K mg base CX0 3 fV fdV ["_law_word"] spLVal) (GS : FnOk P w K mg base CX0 3 fS fdS ["_law_word"] spLSpot) : FnOk P w K mg base CX0 4 f fd ["_law_words"] (spB gWorth) := by
  have GN : FnOk P w K mg base CX0 3 fN fdN ["_law_word"] spLName := GN'.mono (by decide)
  refine F.ok scLWorth (fun vs H Q E h => ?_) (fun cdv A outer s H vs Q E hr h => ?_)
  · obtain ⟨l, ws, rfl, _⟩ := h
    rfl
  · obtain ⟨l, ws, rfl, hws, q⟩ := h
    have hl := hws.at_
    have lw : ((ws.map V.str).length : Int) = (ws.length : Int) := by rw [List.length_map]
    refine ⟨_, pss_cons (ps_if (pt_cmpR op_eq (pe_callB call_len_seq (by rfl) mL PySem.boot_len (pa_cons (pv 0) pa_nil)) pe_int (nomark _)) (pss_one (ps_ret (pe_or (pe_call GV hr (by rfl) gV FV.kp bV .nil pass0 (pa_cons (pe_ix ix_list (pv 0) pe_int (fun _ _ => rfl)) pa_nil)) (pe_one (pe_call GS hr (by rfl) gS FS.kp bS .nil pass0 (pa_cons (pe_ix ix_list (pv 0) pe_int (fun _ _ => rfl)) pa_nil)))))) pss_nil) <|
      pss_cons (ps_if (pt_cmpR op_eq (pe_callB call_len_seq (by rfl) mL PySem.boot_len (pa_cons (pv 0) pa_nil)) pe_int (nomark _)) (pss_one (ps_ret (pe_and (pe_cmpR op_eq (pe_ix ix_list (pv 0) pe_int (fun _ _ => rfl)) pe_str (nomark _)) (pe_one (pe_call GN hr (by rfl) gN FN.kp bN .nil pass0 (pa_cons (pe_ix ix_list (pv 0) pe_int (fun _ _ => rfl)) pa_nil)))))) pss_nil) <|
      pss_one (ps_ret (pe_and (pe_cmpR op_eq (pe_callB call_len_seq (by rfl) mL PySem.boot_len (pa_cons (pv 0) pa_nil)) pe_int (nomark _)) (pe_and (pe_cmpR op_eq (pe_ix ix_list (pv 0) pe_int (fun _ _ => rfl)) pe_str (nomark _)) (pe_and (pe_call GN hr (by rfl) gN FN.kp bN .nil pass0 (pa_cons (pe_ix ix_list (pv 0) pe_int (fun _ _ => rfl)) pa_nil)) (pe_one (pe_call GN hr (by rfl) gN FN.kp bN .nil pass0 (pa_cons (pe_ix ix_list (pv 0) pe_int (fun _ _ => rfl)) pa_nil))))))), ?_⟩
    have no : ¬ gWorth ws → ∀ H', Ex H H' → Q (.bl false) H' := fun v H' x => q H' false x ⟨fun z => (by cases z), fun z => absurd z v⟩
    refine seq_of (ifS_of (test_of (op_of (len_of (ws.length : Nat) rfl hl lw (k_of ⟨rfl, _, rfl, ?_⟩)))))
    by_cases c1 : ws.length = 1
    · rw [int_yes (by omega), if_pos rfl]
      match ws, c1 with
      | [a], _ =>
      have one : gWorth [a] ↔ ValW a ∨ SlotW a := ⟨(fun h => by
        rcases h with ⟨a', e, h⟩ | ⟨w, e, _⟩ | ⟨w, u, e, _⟩
        · cases e
          exact h
        · cases e
        · cases e), fun h => .inl ⟨a, rfl, h⟩⟩
      refine ret_of (orv_of (call_of (c_of (ixk_of rfl hl (k := 0) rfl (n_of ⟨_, rfl, hws.wd a (by simp), fun H1 b e1 hb => ⟨b, rfl, ?_⟩⟩)))))
      cases b with
      | true =>
        rw [if_pos rfl]
        exact q H1 true e1 ⟨fun _ => one.mpr (.inl (hb.mp rfl)), fun _ => rfl⟩
      | false =>
        rw [if_neg Bool.false_ne_true]
        refine call_of (c_of (ixk_of rfl (e1 _ _ hl) (k := 0) rfl (n_of ⟨_, rfl, hws.wd a (by simp), fun H2 b e2 hb2 => q H2 b (e1.trans e2) ⟨fun h => one.mpr (.inr (hb2.mp h)), fun v => ?_⟩⟩)))
        rcases one.mp v with v | v
        · have := hb.mpr v
          cases this
        · exact hb2.mpr v
    · rw [int_no (by omega), if_neg Bool.false_ne_true]
      dsimp only [tNext]
      refine seq_of (ifS_of (test_of (op_of (len_of (ws.length : Nat) rfl hl lw (k_of ⟨rfl, _, rfl, ?_⟩)))))
      by_cases c2 : ws.length = 2
      · rw [int_yes (by omega), if_pos rfl]
        match ws, c2 with
        | [a, b], _ =>
        have two : gWorth [a, b] ↔ a = "get" ∧ nameB b = true := ⟨(fun h => by
          rcases h with ⟨a', e, h⟩ | ⟨w, e, h⟩ | ⟨w, u, e, _⟩
          · cases e
          · cases e
            exact ⟨rfl, h⟩
          · cases e), fun h => .inr (.inl ⟨b, by rw [h.1], h.2⟩)⟩
        refine ret_of (andv_of (op_of (ixk_of rfl hl (k := 0) rfl (k_of ⟨rfl, _, rfl, ?_⟩))))
        rw [str_eq]
        by_cases ga : a = "get"
        · rw [decide_eq_true ga, if_pos rfl]
          exact call_of (c_of (ixk_of rfl hl (k := 1) rfl (n_of ⟨_, rfl, hws.wd b (by simp), fun H1 e1 => q H1 _ e1 ⟨fun h => two.mpr ⟨ga, h⟩, fun v => (two.mp v).2⟩⟩)))
        · rw [decide_eq_false ga, if_neg Bool.false_ne_true]
          exact no (fun v => ga (two.mp v).1) H (Ex.refl H)
      · rw [int_no (by omega), if_neg Bool.false_ne_true]
        dsimp only [tNext]
        refine ret_of (andv_of (op_of (len_of (ws.length : Nat) rfl hl lw (k_of ⟨rfl, _, rfl, ?_⟩))))
        by_cases c3 : ws.length = 3
        · rw [int_yes (by omega), if_pos rfl]
          match ws, c3 with
          | [a, b, c], _ =>
          have three : gWorth [a, b, c] ↔ b = "at" ∧ nameB a = true ∧ nameB c = true := ⟨(fun h => by
            rcases h with ⟨a', e, h⟩ | ⟨w, e, h⟩ | ⟨w, u, e, h1, h2⟩
            · cases e
            · cases e
            · cases e
              exact ⟨rfl, h1, h2⟩), fun h => .inr (.inr ⟨a, c, by rw [h.1], h.2.1, h.2.2⟩)⟩
          refine andv_of (op_of (ixk_of rfl hl (k := 1) rfl (k_of ⟨rfl, _, rfl, ?_⟩)))
          rw [str_eq]
          by_cases gb : b = "at"
          · rw [decide_eq_true gb, if_pos rfl]
            refine andv_of (call_of (c_of (ixk_of rfl hl (k := 0) rfl (n_of ⟨_, rfl, hws.wd a (by simp), fun H1 e1 => ⟨nameB a, rfl, ?_⟩⟩))))
            cases na : nameB a with
            | true =>
              rw [if_pos rfl]
              exact call_of (c_of (ixk_of rfl (e1 _ _ hl) (k := 2) rfl (n_of ⟨_, rfl, hws.wd c (by simp), fun H2 e2 => q H2 _ (e1.trans e2) ⟨fun h => three.mpr ⟨gb, na, h⟩, fun v => (three.mp v).2.2⟩⟩)))
            | false =>
              rw [if_neg Bool.false_ne_true]
              exact no (fun v => by have := (three.mp v).2.1; rw [na] at this; cases this) H1 e1
          · rw [decide_eq_false gb, if_neg Bool.false_ne_true]
            exact no (fun v => gb (three.mp v).1) H (Ex.refl H)
        · rw [int_no (by omega), if_neg Bool.false_ne_true]
          refine no ?_ H (Ex.refl H)
          rintro (⟨_, rfl, _⟩ | ⟨_, rfl, _⟩ | ⟨_, _, rfl, _⟩)
          · exact c1 rfl
          · exact c2 rfl
          · exact c3 rfl
end
end Qw
/-! looks that come to True iff something holds -/
namespace Qw
open PySem PySem.Spec PyProof.Rows L2 Evl Gd Sn
/-- the look comes to True iff G -/
def Says (σ : L2.St) (H : Hp) (te : TE) (G : Prop) : Prop := ∀ Q : VK, (∀ H' (b : Bool), Ex H H' → (b = true ↔ G) → Q (.bl b) H') → te σ H Q
def SaysT (σ : L2.St) (H : Hp) (t : TT) (G : Prop) : Prop := ∀ Q : Bool → Hp → Prop, (∀ H' (b : Bool), Ex H H' → (b = true ↔ G) → Q b H') → t σ H Q
section
variable {σ : L2.St} {H : Hp} {ta tb : TE} {t u : TT} {A B : Prop} {D : Ends}
theorem Says.imp (h : Says σ H ta A) (e : A ↔ B) : Says σ H ta B := fun Q q => h Q fun H' b x hb => q H' b x (hb.trans e)
theorem SaysT.imp (h : SaysT σ H t A) (e : A ↔ B) : SaysT σ H t B := fun Q q => h Q fun H' b x hb => q H' b x (hb.trans e)
theorem tf {b : Bool} (h : b = true ↔ A) : (b = true ∧ A) ∨ (b = false ∧ ¬ A) := by
  cases b with
  | true => exact .inl ⟨rfl, h.mp rfl⟩
  | false => exact .inr ⟨rfl, fun a => by have := h.mpr a; cases this⟩
theorem t_iff (a : A) : true = true ↔ A := ⟨fun _ => a, fun _ => rfl⟩
theorem f_iff (a : ¬ A) : false = true ↔ A := ⟨fun z => (by cases z), fun z => absurd z a⟩
theorem Says.and (ha : Says σ H ta A) (hb : ∀ H', Ex H H' → A → Says σ H' tb B) : Says σ H (tAndV ta tb) (A ∧ B) := fun Q q => andv_of (ha _ fun H1 b x h => ⟨b, rfl, by
  rcases tf h with ⟨rfl, a⟩ | ⟨rfl, a⟩
  · rw [if_pos rfl]
    exact hb H1 x a Q fun H2 c y g => q H2 c (x.trans y) (g.trans ⟨fun z => ⟨a, z⟩, fun z => z.2⟩)
  · rw [if_neg Bool.false_ne_true]
    exact q H1 false x (f_iff fun z => a z.1)⟩)
theorem Says.or (ha : Says σ H ta A) (hb : ∀ H', Ex H H' → ¬ A → Says σ H' tb B) : Says σ H (tOrV ta tb) (A ∨ B) := fun Q q => orv_of (ha _ fun H1 b x h => ⟨b, rfl, by
  rcases tf h with ⟨rfl, a⟩ | ⟨rfl, a⟩
  · rw [if_pos rfl]
    exact q H1 true x (t_iff (.inl a))
  · rw [if_neg Bool.false_ne_true]
    exact hb H1 x a Q fun H2 c y g => q H2 c (x.trans y) (g.trans ⟨.inr, fun z => z.resolve_left a⟩)⟩)
theorem SaysT.and (ha : SaysT σ H t A) (hb : ∀ H', Ex H H' → A → SaysT σ H' u B) : SaysT σ H (tAnd t u) (A ∧ B) := fun Q q => and_of (ha _ fun H1 b x h => by
  rcases tf h with ⟨rfl, a⟩ | ⟨rfl, a⟩
  · rw [if_pos rfl]
    exact hb H1 x a Q fun H2 c y g => q H2 c (x.trans y) (g.trans ⟨fun z => ⟨a, z⟩, fun z => z.2⟩)
  · rw [if_neg Bool.false_ne_true]
    exact q H1 false x (f_iff fun z => a z.1))
theorem SaysT.or (ha : SaysT σ H t A) (hb : ∀ H', Ex H H' → ¬ A → SaysT σ H' u B) : SaysT σ H (tOr t u) (A ∨ B) := fun Q q => or_of (ha _ fun H1 b x h => by
  rcases tf h with ⟨rfl, a⟩ | ⟨rfl, a⟩
  · rw [if_pos rfl]
    exact q H1 true x (t_iff (.inl a))
  · rw [if_neg Bool.false_ne_true]
    exact hb H1 x a Q fun H2 c y g => q H2 c (x.trans y) (g.trans ⟨.inr, fun z => z.resolve_left a⟩))
theorem SaysT.not (ha : SaysT σ H t A) : SaysT σ H (tNot t) (¬ A) := fun Q q => not_of (ha _ fun H1 b x h => q H1 _ x (by
  rcases tf h with ⟨rfl, a⟩ | ⟨rfl, a⟩
  · exact f_iff fun z => z a
  · exact t_iff a))
theorem Says.test (ha : Says σ H ta A) : SaysT σ H (tTest ta) A := fun Q q => test_of (ha _ fun H1 b x h => ⟨b, rfl, q H1 b x h⟩)
theorem Says.val (ha : Says σ H ta A) : SaysT σ H (tB ta) A := ha.test
theorem SaysT.ifS {ts tz : TS} (h : SaysT σ H t A) (y : ∀ H', Ex H H' → A → ts D σ H') (n : ∀ H', Ex H H' → ¬ A → tz D σ H') : tIfS t ts tz D σ H := ifS_of (h _ fun H1 b x g => by
  rcases tf g with ⟨rfl, a⟩ | ⟨rfl, a⟩
  · rw [if_pos rfl]
    exact y H1 x a
  · rw [if_neg Bool.false_ne_true]
    exact n H1 x a)
theorem Says.ret (h : Says σ H ta A) (q : ∀ H' (b : Bool), Ex H H' → (b = true ↔ A) → D.rt (.bl b) H') : tRet ta D σ H := ret_of (h _ q)
theorem says_true (a : A) : Says σ H (tC (.bl true)) A := fun Q q => k_of (q H true (Ex.refl H) (t_iff a))
theorem says_false (a : ¬ A) : Says σ H (tC (.bl false)) A := fun Q q => k_of (q H false (Ex.refl H) (f_iff a))
theorem b_iff {p : Prop} [Decidable p] : decide p = true ↔ p := decide_eq_true_iff
theorem nb_iff {p : Prop} [Decidable p] : (!decide p) = true ↔ ¬ p := by rw [Bool.not_eq_true', decide_eq_false_iff_not]
end
section
variable {K : PySem.W.Frag} {σ : L2.St} {H : Hp} {i : Nat} {l : Addr} {ws : List Str}
abbrev tLenW (K : PySem.W.Frag) (i : Nat) : TE := tCB (fun xs H Q => ∃ p ys, xs = [V.ref p] ∧ (SqL K H p ys ∨ SqT K H p ys) ∧ Q (V.int ↑ys.length) H) (tCons (tVar i) tNil)
abbrev tIxW (K : PySem.W.Frag) (i : Nat) (k : Int) : TE := tOp (rIxL K) (tVar i) (tC (.int k))
theorem len_w {Q : VK} (e : σ[i]? = some (some (.ref l))) (h : Ws H l ws) (q : Q (.int ws.length) H) : tLenW K i σ H Q := len_of ws.length e h.at_ (by rw [List.length_map]) q
theorem len_eq {k : Int} (e : σ[i]? = some (some (.ref l))) (h : Ws H l ws) : Says σ H (tOp rEq (tLenW K i) (tC (.int k))) ((ws.length : Int) = k) := fun Q q =>
  op_of (len_w e h (k_of ⟨rfl, q H _ (Ex.refl H) (b_iff.trans ⟨V.int.inj, fun z => by rw [z]⟩)⟩))
theorem len_ne {k : Int} (e : σ[i]? = some (some (.ref l))) (h : Ws H l ws) : Says σ H (tOp rNe (tLenW K i) (tC (.int k))) (¬ (ws.length : Int) = k) := fun Q q =>
  op_of (len_w e h (k_of ⟨rfl, q H _ (Ex.refl H) (nb_iff.trans ⟨fun z y => z (by rw [y]), fun z y => z (V.int.inj y)⟩)⟩))
theorem len_lt {k : Int} (e : σ[i]? = some (some (.ref l))) (h : Ws H l ws) : Says σ H (tOp (rI0 fun i j => .bl (decide (i < j))) (tLenW K i) (tC (.int k))) ((ws.length : Int) < k) := fun Q q =>
  op_of (len_w e h (k_of ⟨_, _, rfl, rfl, q H _ (Ex.refl H) b_iff⟩))
theorem word_eq {k : Nat} {a z : Str} (e : σ[i]? = some (some (.ref l))) (h : Ws H l ws) (g : ws[k]? = some a) : Says σ H (tOp rEq (tIxW K i k) (tC (.str z))) (a = z) := fun Q q =>
  op_of (ixk_of e h.at_ (k := k) (by rw [List.getElem?_map, g]; rfl) (k_of ⟨rfl, q H _ (Ex.refl H) (b_iff.trans ⟨V.str.inj, fun z => by rw [z]⟩)⟩))
theorem word_ne {k : Nat} {a z : Str} (e : σ[i]? = some (some (.ref l))) (h : Ws H l ws) (g : ws[k]? = some a) : Says σ H (tOp rNe (tIxW K i k) (tC (.str z))) (¬ a = z) := fun Q q =>
  op_of (ixk_of e h.at_ (k := k) (by rw [List.getElem?_map, g]; rfl) (k_of ⟨rfl, q H _ (Ex.refl H) (nb_iff.trans ⟨fun z y => z (by rw [y]), fun z y => z (V.str.inj y)⟩)⟩))
theorem strs_flat (zs : List Str) : (zs.map V.str).all flatV = true := by
  rw [List.all_map]
  exact List.all_eq_true.mpr fun _ _ => rfl
/-- what a function of one word says of the k-th word -/
theorem word_call {k : Nat} {a : Str} {sp : Sp} {E : XK} {G : Prop} (e : σ[i]? = some (some (.ref l))) (h : Ws H l ws) (g : ws[k]? = some a) (s : Wd a → ∀ (Q : VK), (∀ H' (b : Bool), Ex H H' → (b = true ↔ G) → Q (.bl b) H') → sp [.str a] H Q E) : Says σ H (tCall sp [] E (tCons (tIxW K i k) tNil)) G := fun Q q =>
  call_of (c_of (ixk_of e h.at_ (k := k) (by rw [List.getElem?_map, g]; rfl) (n_of (s (h.wd a (List.mem_of_getElem? g)) Q q))))
theorem name_s {a : Str} {E : XK} (wd : Wd a) (Q : VK) (q : ∀ H' (b : Bool), Ex H H' → (b = true ↔ nameB a = true) → Q (.bl b) H') : spLName [.str a] H Q E := ⟨a, rfl, wd, fun H' e => q H' _ e Iff.rfl⟩
theorem small_s {a : Str} {E : XK} (wd : Wd a) (Q : VK) (q : ∀ H' (b : Bool), Ex H H' → (b = true ↔ localB a = true) → Q (.bl b) H') : spLSmall [.str a] H Q E := ⟨a, rfl, wd, fun H' e => q H' _ e Iff.rfl⟩
theorem val_s {a : Str} {E : XK} (wd : Wd a) (Q : VK) (q : ∀ H' (b : Bool), Ex H H' → (b = true ↔ ValW a) → Q (.bl b) H') : spLVal [.str a] H Q E := ⟨a, rfl, wd, q⟩
theorem spot_s {a : Str} {E : XK} (wd : Wd a) (Q : VK) (q : ∀ H' (b : Bool), Ex H H' → (b = true ↔ SlotW a) → Q (.bl b) H') : spLSpot [.str a] H Q E := ⟨a, rfl, wd, q⟩
theorem num_call {k : Nat} {a : Str} {m : Nat} {E : XK} (e : σ[i]? = some (some (.ref l))) (h : Ws H l ws) (g : ws[k]? = some a) (le : m ≤ 1000000000) : Says σ H (tCall spLNum [] E (tCons (tIxW K i k) (tCons (tC (.int m)) tNil))) (NumW (TL.tl a) m) := fun Q q =>
  call_of (c_of (ixk_of e h.at_ (k := k) (by rw [List.getElem?_map, g]; rfl) (c_of (k_of (n_of ⟨a, m, rfl, le, h.wd a (List.mem_of_getElem? g), q⟩)))))
end
end Qw
/-! the law's own words: what is made -/
namespace Qw
open PySem PySem.Spec PyProof.Rows L2 Evl Gd Sn
abbrev sLMade : Stmt := topS 54
abbrev nLMade : List Str := ["_law_words"]
theorem scLMade : FnScope nLMade ["_law_words"] (defScope sLMade) := ⟨rfl, rfl, rfl, by decide +kernel, rfl, by decide +kernel, by decide +kernel⟩
/-- words that make an object -/
def gMadeW (ws : List Str) : Prop := (∃ h : Str, h ∈ homes2 ∧ ws = [("map" : Str), h]) ∨ (∃ h o : Str, h ∈ homes2 ∧ ws = [("weak" : Str), h, o] ∧ nameB o = true) ∨ ∃ h k : Str, h ∈ homes2 ∧ NumW (TL.tl k) 6 ∧ (ws = [("record" : Str), h, k] ∨ ∃ u : Str, ws = [("record" : Str), h, k, ("then" : Str), u] ∧ localB u = true)
section
variable {P : Program} {w : World} {K : PySem.W.Frag} {mg : Str → Option Value} {base : Heap}
theorem ok_lmade {f fN fU fL : Addr} {fd fdN fdU fdL : FuncData} (F : Fun K "_law_is_made" "_law_is_made" sLMade f fd) (FN : Fun K "_law_is_name" "_law_is_name" sLName fN fdN) (FU : Fun K "_law_is_number" "_law_is_number" sLNum fU fdU) (FL : Fun K "_law_is_small" "_law_is_small" sLSmall fL fdL) (bN : Binds K fdN ["_law_word"] []) (bU : Binds K fdU ["_law_word", "_law_most"] []) (bL : Binds K fdL ["_law_word"] []) (gN : mg "_law_is_name" = some (.ref fN)) (gU : mg "_law_is_number" = some (.ref fU)) (gL : mg "_law_is_small" = some (.ref fL)) (mL : mg "len" = none)
    (GN' : FnOk P w K mg base CX0 2 fN fdN ["_law_word"] spLName) (GU' : FnOk P w K mg base CX0 1 fU fdU ["_law_word", "_law_most"] spLNum) (GL : FnOk P w K mg base CX0 3 fL fdL ["_law_word"] spLSmall) : FnOk P w K mg base CX0 4 f fd ["_law_words"] (spB gMadeW) := by
  have GN : FnOk P w K mg base CX0 3 fN fdN ["_law_word"] spLName := GN'.mono (by decide)
  have GU : FnOk P w K mg base CX0 3 fU fdU ["_law_word", "_law_most"] spLNum := GU'.mono (by decide)
  refine F.ok scLMade (fun vs H Q E h => ?_) (fun cdv A outer s H vs Q E hr h => ?_)
  · obtain ⟨l, ws, rfl, _⟩ := h
    rfl
  · obtain ⟨l, ws, rfl, hws, q⟩ := h
    have ix : ∀ (X : Cx), X = X := fun _ => rfl
    refine ⟨_, pss_cons (ps_if (pw_or (pt_cmpR op_lt (pe_callB call_len_seq (by rfl) mL PySem.boot_len (pa_cons (pv 0) pa_nil)) pe_int (nomark _)) (pw_or1 (pt_cmpR op_notIn_seq (pe_ix ix_list (pv 0) pe_int (fun _ _ => rfl)) (pe_tup (pa_cons pe_str <| pa_cons pe_str pa_nil)) (by rfl)))).pt (pss_one (ps_ret pe_bl)) pss_nil) <|
      pss_cons (ps_if (pt_cmpR op_eq (pe_ix ix_list (pv 0) pe_int (fun _ _ => rfl)) pe_str (nomark _)) (pss_one (ps_ret (pe_cmpR op_eq (pe_callB call_len_seq (by rfl) mL PySem.boot_len (pa_cons (pv 0) pa_nil)) pe_int (nomark _)))) pss_nil) <|
      pss_cons (ps_if (pt_cmpR op_eq (pe_ix ix_list (pv 0) pe_int (fun _ _ => rfl)) pe_str (nomark _)) (pss_one (ps_ret (pe_and (pe_cmpR op_eq (pe_callB call_len_seq (by rfl) mL PySem.boot_len (pa_cons (pv 0) pa_nil)) pe_int (nomark _)) (pe_one (pe_call GN hr (by rfl) gN FN.kp bN .nil pass0 (pa_cons (pe_ix ix_list (pv 0) pe_int (fun _ _ => rfl)) pa_nil)))))) pss_nil) <|
      pss_cons (ps_if (pw_or (pt_cmpR op_ne (pe_ix ix_list (pv 0) pe_int (fun _ _ => rfl)) pe_str (nomark _)) (pw_or (pt_cmpR op_notIn_seq (pe_callB call_len_seq (by rfl) mL PySem.boot_len (pa_cons (pv 0) pa_nil)) (pe_tup (pa_cons pe_int <| pa_cons pe_int pa_nil)) (by rfl)) (pw_or1 (pt_not (pt_val (pe_call GU hr (by rfl) gU FU.kp bU .nil pass0 (pa_cons (pe_ix ix_list (pv 0) pe_int (fun _ _ => rfl)) <| pa_cons pe_int pa_nil))))))).pt (pss_one (ps_ret pe_bl)) pss_nil) <|
      pss_one (ps_ret (pe_or (pe_cmpR op_eq (pe_callB call_len_seq (by rfl) mL PySem.boot_len (pa_cons (pv 0) pa_nil)) pe_int (nomark _)) (pe_one (pe_and (pe_cmpR op_eq (pe_ix ix_list (pv 0) pe_int (fun _ _ => rfl)) pe_str (nomark _)) (pe_one (pe_call GL hr (by rfl) gL FL.kp bL .nil pass0 (pa_cons (pe_ix ix_list (pv 0) pe_int (fun _ _ => rfl)) pa_nil))))))), ?_⟩
    have no : ¬ gMadeW ws → ∀ H', Ex H H' → Q (.bl false) H' := fun v H' x => q H' false x (f_iff v)
    refine seq_of (SaysT.ifS (A := (ws.length : Int) < 2 ∨ ∀ b, ws[1]? = some b → b ∉ homes2) (.or (Says.test (len_lt rfl hws)) fun H1 x1 nl => ?_) (fun H1 x1 a => ?_) fun H1 x1 a => ?_)
    · have l2 : 1 < ws.length := by omega
      obtain ⟨b, hb⟩ : ∃ b, ws[1]? = some b := ⟨_, List.getElem?_eq_getElem l2⟩
      refine fun Q' q' => test_of (op_of (ixk_of rfl (hws.ex x1).at_ (k := 1) (by rw [List.getElem?_map, hb]; rfl) (tup_of (c_of (k_of (c_of (k_of (n_of ⟨two_le, fun a0 ha => ⟨a0, homes2.map V.str, rfl, .inr (st_of upd_same), rfl, homes_flat, _, rfl, ?_⟩⟩))))))))
      rw [if_pos rfl, inV_strs]
      exact q' _ _ (Ex.new ha) (nb_iff.trans ⟨fun z b' hb' => (by rw [hb] at hb'; cases hb'; exact z), fun z => z b hb⟩)
    · refine ret_of (k_of (no ?_ H1 x1))
      rintro (⟨h, hh, rfl⟩ | ⟨h, o, hh, rfl, _⟩ | ⟨h, k, hh, _, rfl | ⟨u, rfl, _⟩⟩) <;> exact a.elim (fun z => by simp at z) fun z => z h rfl hh
    dsimp only [tNext]
    obtain ⟨a1, a2⟩ := not_or.mp a
    match ws, a1 with
    | [], z => exact absurd (show ((0 : Nat) : Int) < 2 by decide) z
    | [_], z => exact absurd (show ((1 : Nat) : Int) < 2 by decide) z
    | z :: h :: us, _ =>
    have hh : h ∈ homes2 := Classical.byContradiction fun n => a2 fun b hb => by cases hb; exact n
    have ln : ((z :: h :: us).length : Int) = us.length + 2 := by rw [List.length_cons, List.length_cons]; omega
    have w1 := hws.ex x1
    refine seq_of (SaysT.ifS (Says.test (word_eq (k := 0) rfl w1 rfl)) (fun H2 x2 a => ?_) fun H2 x2 nm => ?_)
    · subst a
      refine Says.ret (len_eq rfl (w1.ex x2)) fun H3 b x3 hb => q H3 b ((x1.trans x2).trans x3) (hb.trans ?_)
      rw [ln]
      constructor
      · intro e
        exact .inl ⟨h, hh, by rw [List.length_eq_zero_iff.mp (show us.length = 0 by omega)]⟩
      · rintro (⟨_, _, e⟩ | ⟨_, _, _, e, _⟩ | ⟨_, _, _, _, e | ⟨_, e, _⟩⟩)
        · cases e
          rfl
        · cases e
        · cases e
        · cases e
    dsimp only [tNext]
    have w2 := w1.ex x2
    refine seq_of (SaysT.ifS (Says.test (word_eq (k := 0) rfl w2 rfl)) (fun H3 x3 a => ?_) fun H3 x3 nw => ?_)
    · subst a
      refine Says.ret (A := us.length = 1 ∧ ∀ o, us[0]? = some o → nameB o = true) (.and ((len_eq rfl (w2.ex x3)).imp (by rw [ln]; omega)) fun H4 x4 l1 => ?_) fun H5 b x5 hb => q H5 b (((x1.trans x2).trans x3).trans x5) (hb.trans ?_)
      · match us, l1 with
        | [o], _ => exact (word_call (k := 2) rfl ((w2.ex x3).ex x4) rfl name_s).imp ⟨fun z o' e => by cases e; exact z, fun z => z o rfl⟩
      · constructor
        · rintro ⟨l1, no⟩
          match us, l1 with
          | [o], _ => exact .inr (.inl ⟨h, o, hh, rfl, no o rfl⟩)
        · rintro (⟨_, _, e⟩ | ⟨_, _, _, e, n⟩ | ⟨_, _, _, _, e | ⟨_, e, _⟩⟩)
          · cases e
          · cases e
            exact ⟨rfl, fun o e => by cases e; exact n⟩
          · cases e
          · cases e
    dsimp only [tNext]
    have w3 := w2.ex x3
    have x03 := (x1.trans x2).trans x3
    refine seq_of (SaysT.ifS (A := ¬ z = "record" ∨ ¬ (us.length = 1 ∨ us.length = 3) ∨ ∀ k, us[0]? = some k → ¬ NumW (TL.tl k) 6) (.or (Says.test (word_ne (k := 0) rfl w3 rfl)) fun H4 x4 nz => .or ?_ fun H5 x5 nl => ?_) (fun H4 x4 a => ?_) fun H4 x4 a => ?_)
    · refine fun Q' q' => test_of (op_of (len_w rfl (w3.ex x4) (tup_of (c_of (k_of (c_of (k_of (n_of ⟨two_le, fun a0 ha => ⟨a0, [.int 3, .int 5], rfl, .inr (st_of upd_same), rfl, rfl, _, rfl, ?_⟩⟩))))))))
      rw [if_pos rfl, in35]
      refine q' _ _ (Ex.new ha) ?_
      rw [Bool.not_eq_true', Bool.or_eq_false_iff, decide_eq_false_iff_not, decide_eq_false_iff_not, List.length_cons, List.length_cons]
      omega
    · have l1 : us.length = 1 ∨ us.length = 3 := Classical.not_not.mp nl
      obtain ⟨k, hk⟩ : ∃ k, us[0]? = some k := ⟨_, List.getElem?_eq_getElem (by omega)⟩
      exact (SaysT.not (Says.val (num_call (k := 2) (m := 6) rfl ((w3.ex x4).ex x5) hk (by decide)))).imp ⟨fun z k' e => by rw [hk] at e; cases e; exact z, fun z => z k hk⟩
    · refine ret_of (k_of (no ?_ H4 (x03.trans x4)))
      rintro (⟨_, _, e⟩ | ⟨_, _, _, e, n⟩ | ⟨_, k, _, hn, e | ⟨_, e, _⟩⟩)
      · cases e
        exact nm rfl
      · cases e
        exact nw rfl
      · cases e
        rcases a with a | a | a
        · exact a rfl
        · exact a (.inl rfl)
        · exact a k rfl hn
      · cases e
        rcases a with a | a | a
        · exact a rfl
        · exact a (.inr rfl)
        · exact a k rfl hn
    dsimp only [tNext]
    obtain ⟨b1, b⟩ := not_or.mp a
    obtain ⟨b2, a3⟩ := not_or.mp b
    obtain rfl : z = "record" := Classical.not_not.mp b1
    have a2 : us.length = 1 ∨ us.length = 3 := Classical.not_not.mp b2
    have w4 := w3.ex x4
    obtain ⟨k, hk⟩ : ∃ k, us[0]? = some k := ⟨_, List.getElem?_eq_getElem (by omega)⟩
    have nk : NumW (TL.tl k) 6 := Classical.byContradiction fun n => a3 fun k' e => by rw [hk] at e; cases e; exact n
    refine Says.ret (A := us.length = 1 ∨ ∃ t u : Str, us[1]? = some t ∧ us[2]? = some u ∧ t = "then" ∧ localB u = true) (.or ((len_eq rfl w4).imp (by rw [ln]; omega)) fun H5 x5 nl => ?_) fun H5 b x5 hb => q H5 b ((x03.trans x4).trans x5) (hb.trans ?_)
    · match us, a2.resolve_left nl with
      | [k', t, u], _ =>
        refine (Says.and (word_eq (k := 3) rfl (w4.ex x5) rfl) fun H6 x6 e => word_call (k := 4) rfl ((w4.ex x5).ex x6) rfl small_s).imp ⟨fun z => ⟨t, u, rfl, rfl, z.1, z.2⟩, ?_⟩
        rintro ⟨t', u', e1, e2, h1, h2⟩
        cases e1
        cases e2
        exact ⟨h1, h2⟩
    · constructor
      · rintro (l1 | ⟨t, u, e1, e2, rfl, lu⟩)
        · match us, l1 with
          | [k'], _ =>
            cases hk
            exact .inr (.inr ⟨h, k, hh, nk, .inl rfl⟩)
        · match us, a2, hk, e1, e2 with
          | [k', t', u'], _, hk, e1, e2 =>
            cases hk
            cases e1
            cases e2
            exact .inr (.inr ⟨h, k, hh, nk, .inr ⟨u, rfl, lu⟩⟩)
      · rintro (⟨_, _, e⟩ | ⟨_, _, _, e, n⟩ | ⟨_, k, _, hn, e | ⟨u, e, lu⟩⟩)
        · cases e
        · cases e
        · cases e
          exact .inl rfl
        · cases e
          exact .inr ⟨_, u, rfl, rfl, rfl, lu⟩
end
end Qw
/-! set(list): a set of keys of one kind, many, with repeats -/
namespace Gd
open PySem PySem.Spec PyProof.Rows
section
variable {κ : Type} [DecidableEq κ]
/-- the keys met, each once -/
def onceF (m : List κ) (k : κ) : List κ := if k ∈ m then m else m ++ [k]
def once (l : List κ) : List κ := l.foldl onceF []
theorem once_snoc {l : List κ} {k : κ} : once (l ++ [k]) = onceF (once l) k := by
  unfold once
  rw [List.foldl_append]
  rfl
theorem once_fold : ∀ (l m : List κ), (l.foldl onceF m).length ≤ m.length + l.length ∧ ((l.foldl onceF m).length = m.length + l.length ↔ l.Nodup ∧ ∀ k ∈ l, k ∉ m) ∧ ∀ k, k ∈ l.foldl onceF m ↔ k ∈ m ∨ k ∈ l
  | [], m => ⟨Nat.le_refl _, ⟨fun _ => ⟨List.nodup_nil, fun k hk => nomatch hk⟩, fun _ => rfl⟩, fun k => ⟨.inl, fun h => h.elim id fun z => nomatch z⟩⟩
  | a :: r, m => by
    rw [List.foldl_cons, List.length_cons]
    by_cases c : a ∈ m
    · rw [show onceF m a = m from if_pos c]
      obtain ⟨h1, h2, h3⟩ := once_fold r m
      refine ⟨by omega, ⟨fun e => by omega, fun h => absurd c (h.2 a List.mem_cons_self)⟩, fun k => (h3 k).trans ?_⟩
      constructor
      · exact fun h => h.elim .inl fun z => .inr (List.mem_cons_of_mem _ z)
      · rintro (h | h)
        · exact .inl h
        · rcases List.mem_cons.mp h with rfl | h
          · exact .inl c
          · exact .inr h
    · rw [show onceF m a = m ++ [a] from if_neg c]
      obtain ⟨h1, h2, h3⟩ := once_fold r (m ++ [a])
      rw [List.length_append, List.length_singleton] at h1 h2
      refine ⟨by omega, ?_, fun k => (h3 k).trans ?_⟩
      · rw [show m.length + (r.length + 1) = m.length + 1 + r.length by omega, h2, List.nodup_cons]
        constructor
        · rintro ⟨n, h⟩
          refine ⟨⟨fun z => h a z (by simp), n⟩, fun k hk hm => ?_⟩
          rcases List.mem_cons.mp hk with rfl | hk
          · exact c hm
          · exact h k hk (List.mem_append_left _ hm)
        · rintro ⟨⟨na, n⟩, h⟩
          refine ⟨n, fun k hk hm => ?_⟩
          rcases List.mem_append.mp hm with hm | hm
          · exact h k (List.mem_cons_of_mem _ hk) hm
          · rw [List.mem_singleton.mp hm] at hk
            exact na hk
      · rw [List.mem_append, List.mem_singleton, List.mem_cons, or_assoc]
theorem once_le {l : List κ} : (once l).length ≤ l.length := by
  have := (once_fold l []).1
  rw [List.length_nil] at this
  unfold once
  omega
theorem once_lt {l : List κ} : (once l).length < l.length ↔ ¬ l.Nodup := by
  obtain ⟨h1, h2, _⟩ := once_fold l []
  rw [List.length_nil, Nat.zero_add] at h1 h2
  show (l.foldl onceF []).length < _ ↔ _
  constructor
  · intro h n
    have := h2.mpr ⟨n, fun k _ z => nomatch z⟩
    omega
  · intro n
    by_cases e : (l.foldl onceF []).length = l.length
    · exact absurd (h2.mp e).1 n
    · omega
theorem mem_once {l : List κ} {k : κ} : k ∈ once l ↔ k ∈ l := ((once_fold l []).2.2 k).trans ⟨fun h => h.elim (fun z => nomatch z) id, .inr⟩
end
section
variable {P : Program} {w : World} {κ : Type} [DecidableEq κ] {knd : KeyKind P w κ}
/-- the set of these keys -/
def SetIs (knd : KeyKind P w κ) (h : Heap) (a : Addr) (l : List κ) : Prop := h.SetOf knd a (fun k => decide (k ∈ l)) (once l).length
theorem SetIs.kept {h h' : Heap} {a : Addr} {l : List κ} (s : SetIs knd h a l) (e : ∀ o, h.get? a = some o → h'.get? a = some o) : SetIs knd h' a l := by
  obtain ⟨o, es, ep, t, ho, r⟩ := s
  exact ⟨o, es, ep, t, e o ho, r⟩
theorem SetIs.more {h : Heap} {a : Addr} {l : List κ} {k : κ} (s : h.SetOf knd a (fun k' => decide (k' ∈ l) || decide (k' = k)) (if decide (k ∈ l) = true then (once l).length else (once l).length + 1)) : SetIs knd h a (l ++ [k]) := by
  unfold SetIs
  have e1 : (fun k' => decide (k' ∈ l ++ [k])) = fun k' => decide (k' ∈ l) || decide (k' = k) := by
    funext k'
    rw [← Bool.decide_or]
    exact decide_eq_decide.mpr (by rw [List.mem_append, List.mem_singleton])
  have e2 : (once (l ++ [k])).length = if decide (k ∈ l) = true then (once l).length else (once l).length + 1 := by
    rw [once_snoc]
    unfold onceF
    by_cases c : k ∈ l
    · rw [if_pos (mem_once.mpr c), if_pos (decide_eq_true c)]
    · rw [if_neg fun z => c (mem_once.mp z), if_neg fun z => c (of_decide_eq_true z), List.length_append, List.length_singleton]
  rw [e1, e2]
  exact s
variable {A : Around} {R : Result → Shared → Prop} {it : Addr} {fp wr : List Addr} {G : Array GenState → Array GenState → Prop} {n : Nat} {Pv : Nat → Value → Prop} {St : Nat → Shared → Prop}
theorem set_loop (W : WalksS P w A.in1 it fp wr G n Pv St) {d : Addr} (out : d ∉ fp) {l : List κ} (kv : ∀ i v, Pv i v → ∃ k, l[i]? = some k ∧ knd.is k v = true ∧ v.scannable = true) (room : n + 1 < scanBound) (ln : l.length = n) :
    ∀ (m i : Nat) (s : Shared), i + m = n → St i s → SetIs knd s.heap d (l.take i) → (∀ s', Moved (d :: wr) G s s' → SetIs knd s'.heap d l → R (.ok (.ret .none)) s') →
      codeAny (model P w) A (.builtin "set.update.loop" ⟨[.ref d, .ref it], []⟩) R s
  | 0, i, s, e, st, hs, q => by
    have e : i = n := e
    subst e
    refine codeAny_builtin (F.entry_set_update_loop) (by
      rw [Around.under_plainId (F.plain_set_update_loop) _]
      show wpAny _ A.in1 (pyNext (.ref it) >>= _) _ _ s
      refine wpAny_bind (W.done s _ _ st fun s' mv => wpAny_pure (q s' (mv.mono fun b h => List.mem_cons_of_mem _ h) ?_))
      rw [List.take_of_length_le (Nat.le_of_eq ln)] at hs
      exact hs.kept fun o ho => mv.heap d o (fun z => out (W.sub _ z)) ho)
  | m + 1, i, s, e, st, hs, q => by
    refine codeAny_builtin (F.entry_set_update_loop) (by
      rw [Around.under_plainId (F.plain_set_update_loop) _]
      show wpAny _ A.in1 (pyNext (.ref it) >>= _) _ _ s
      refine wpAny_bind (W.item i s _ _ (by omega) st fun v s' pv st' mv => ?_)
      obtain ⟨k, hk, is, sc⟩ := kv i v pv
      have hs' := hs.kept fun o ho => mv.heap d o (fun z => out (W.sub _ z)) ho
      show wpAny _ A.in1 (holding [v] (setAdd d v) >>= _) _ _ s'
      refine wpAny_bind (wpAny_holding ?_)
      unfold setAdd
      refine wpAny_holding (wpAny_bind (knd.pyHash is ?_))
      have lt := once_le (l := l.take i)
      rw [List.length_take] at lt
      refine wpAny_setAddHashed_of (knd := knd) (s := { s' with toks := s'.toks + 1 }) is sc hs' (by omega) fun h' sb s2 => ?_
      have hn : SetIs knd h' d (l.take (i + 1)) := by
        rw [List.take_succ, hk]
        exact SetIs.more s2
      refine wpAny_pure ⟨plainId_quiet (F.plain_set_update_loop) _, set_loop W out kv room ln m (i + 1) _ (by omega) (W.frame _ s' _ _ st' (Nat.le_succ _) fun b hb o ho => ?_) hn fun s2 mv2 hs2 => q s2 (Moved.trans W.gtrans ((mv.mono fun b h => List.mem_cons_of_mem _ h).then_heap (Nat.le_succ _) fun b o hb ho => ?_) mv2) hs2⟩
      · rw [sb.2 b fun z : b = d => out (z ▸ hb)]
        exact ho
      · rw [sb.2 b fun z : b = d => hb (z ▸ List.mem_cons_self)]
        exact ho)
end
end Gd
/-! the call set(list of keys of one kind) -/
namespace Gd
open PySem PySem.Spec PyProof.Rows
section
variable {P : Program} {w : World} {κ : Type} [DecidableEq κ] {knd : KeyKind P w κ} {A : Around} {E : Value → Shared → Prop} {s : Shared}
/-- a new set without keys -/
abbrev bareSet (led : Bool) : Obj := { cls := .type "set", dict := none, data := .set #[] 0 (.fresh 0 0 led) }
theorem bare_is {h : Heap} {a : Addr} {led : Bool} (e : h.get? a = some (bareSet led)) : SetIs knd h a [] := by
  have r : h.SetOf knd a (fun _ => false) 0 := (setObjOf_fresh (knd := knd) led).setOf e (by unfold scanBound; omega)
  have f : (fun k : κ => decide (k ∈ ([] : List κ))) = fun _ => false := funext fun k => decide_eq_false List.not_mem_nil
  unfold SetIs
  rw [f]
  exact r
theorem set_of_list {l : Addr} {items : Array Value} {ks : List κ} {Q : Value → Shared → Prop} (hh : A.handled = none) (hl : s.heap.IsList l items) (ln : ks.length = items.size)
    (kv : ∀ (i : Nat) (v : Value), items[i]? = some v → ∃ k, ks[i]? = some k ∧ knd.is k v = true ∧ v.scannable = true) (room : items.size + 1 < scanBound)
    (q : ∀ (h' : Heap) (tk : Nat), SetIs knd h' s.heap.objs.size ks → (∀ b o, b < s.heap.objs.size → s.heap.get? b = some o → h'.get? b = some o) → Q (.ref s.heap.objs.size) { s with heap := h', toks := tk }) :
    wpAny (model P w) A (call (.type "set") [.ref l]) Q E s := by
  have f1 := PySem.F.called_set
  have m1 := f1.made
  have m2 := f1.sub
  have m3 := f1.notType
  have m4 := f1.canCreate
  have m5 := PySem.F.typeCall_set_1 (.ref l)
  obtain ⟨cls0, mro0, m6⟩ := f1.mro
  refine wpAny_call (codeAny_of_tree (by
    show wpAny _ _ (callAny (.type "set") _) _ _ _
    refine wpAny_pure ⟨Code.quiet_builtin _ (by decide +kernel), codeAny_builtin (PySem.F.entry_type_call) ?_⟩
    rw [Around.under_plain (weight_type_call_type "set" [.ref l] []) rfl]
    repeat (any_goals (first | assumption | wp_step))
    refine codeAny_mono (code_set_new_1 (.ref l) (E := E) (Q₁ := fun v s1 => ∃ led : Bool, v = .ref s.heap.objs.size ∧ s1 = { s with heap := s.heap.push (bareSet led) }) fun led => ⟨led, rfl, rfl⟩) fun r s1 hr => ?_
    match r with
    | .error e => exact hr
    | .ok (.ret v) =>
      obtain ⟨led, rfl, rfl⟩ := hr
      have hS : (s.heap.push (bareSet led)).get? s.heap.objs.size = some (bareSet led) := Heap.get?_push_size _ rfl
      have hT : Shared.TypeIs { s with heap := s.heap.push (bareSet led) } (.ref s.heap.objs.size) "set" := ⟨_, hS, rfl⟩
      have i1 := f1.init.lookup
      have i2 := f1.init.bind (.ref s.heap.objs.size)
      repeat (any_goals (first | assumption | wp_step))
      refine codeAny_mono (codeAny_call_builtin (R := wants (fun v s2 => v = .none ∧ ∃ h' tk, s2 = { s with heap := h', toks := tk } ∧ SetIs knd h' s.heap.objs.size ks ∧ ∀ b o, b < s.heap.objs.size → s.heap.get? b = some o → h'.get? b = some o) E) f1.init.plain (PySem.F.entry_set_init) (check_set_init_1 hT ?_)) fun r2 s2 hr2 => ?_
      · have lS : l < s.heap.objs.size := by
          obtain ⟨o, ho, _⟩ := hl
          exact Heap.lt_size ho
        obtain ⟨⟨c0, d0, b0, sl0⟩, ho, hc, n0, hd⟩ := hl
        simp only at hc hd
        subst hc
        subst hd
        have ho' : (s.heap.push (bareSet led)).get? l = some { cls := .type "list", dict := d0, data := .seq items n0, slots := sl0 } := Heap.get?_push_of_some _ ho
        have u1 := PySem.F.sub_list_set
        have u2 := PySem.F.sub_list_frozenset
        have u3 : (Value.type "list" == Value.type "dict") = false := by decide
        have hl1 : (s.heap.push (bareSet led)).IsList l items := ⟨_, ho', rfl, n0, rfl⟩
        unfold Builtin.«set.__init__» noKeywords Builtin.Frozenset.updateFrom
        generalize hPI : pyIter = PI
        wp_walk
        subst hPI
        refine wpAny_pyIter_list hl1 (wpAny_bind (wpAny_runValue ?_))
        have z1 : (s.heap.push (bareSet led)).objs.size = s.heap.objs.size + 1 := Heap.size_push ..
        have z2 : l ≠ (s.heap.push (bareSet led)).objs.size := by
          rw [z1]
          exact Nat.ne_of_lt (Nat.lt_succ_of_lt lS)
        have h3 : A.in1.in1.in1.handled = none := by simp [hh]
        refine set_loop (l := ks) (n := items.size) ((Walks.list h3 _ l z2 items).toS) (d := s.heap.objs.size) (fun z => ?_) kv room ln items.size 0 _ (Nat.zero_add _) ⟨⟨_, Heap.get?_push_size _ rfl, rfl, rfl⟩, hl1.push _⟩ (bare_is (Heap.get?_push_of_some _ hS)) fun s' mv hs => ?_
        · rcases List.mem_cons.mp z with z | z
          · rw [z1] at z
            exact Nat.ne_of_lt (Nat.lt_succ_self _) z
          · exact Nat.ne_of_gt lS (List.mem_singleton.mp z)
        · obtain ⟨h', g', dr', tk', os'⟩ := s'
          have e1 : g' = s.gens := mv.gens
          have e2 : dr' = s.drawn := mv.drawn
          have e3 : os' = s.os := mv.os
          subst e1 e2 e3
          show wpAny _ _ _ _ _ _
          refine wpAny_pure ?_
          show wpAny _ _ (ret Value.none) _ _ _
          refine wpAny_pure ⟨rfl, h', tk', rfl, hs, fun b o hb e => mv.heap b o (fun z => ?_) (Heap.get?_push_of_some _ (Heap.get?_push_of_some _ e))⟩
          rcases List.mem_cons.mp z with z | z
          · exact Nat.ne_of_lt hb z
          · have z := List.mem_singleton.mp z
            rw [z1] at z
            exact Nat.ne_of_lt (Nat.lt_succ_of_lt hb) z
      · match r2 with
        | .error e => exact hr2
        | .ok (.ret v2) =>
          obtain ⟨rfl, h', tk, rfl, hs, kp⟩ := hr2
          repeat (any_goals (first | assumption | wp_step))
          exact q _ _ hs kp))
end
end Gd
/-! len(set(texts)), the texts in a list -/
namespace Gd
open PySem PySem.Spec PyProof.Rows L2
theorem text_at : ∀ {ws : List Str} {us : List Value}, Vals (ws.map V.str) us → us.length = ws.length ∧ ∀ (i : Nat) v, us[i]? = some v → ∃ k t, ws[i]? = some k ∧ v = .str k t
  | [], _, .nil => ⟨rfl, fun i v h => by simp at h⟩
  | a :: r, _, .cons e t => by
    obtain ⟨l, f⟩ := text_at t
    refine ⟨by rw [List.length_cons, List.length_cons, l], fun i v h => ?_⟩
    cases i with
    | zero =>
      obtain ⟨k, rfl⟩ := e
      cases h
      exact ⟨a, k, rfl, rfl⟩
    | succ i => exact f i v h
section
variable {X : Cx}
/-- len(set(words)) -/
def tLenOnce (K : PySem.W.Frag) (ta : TE) : TE := fun σ H Q => ta σ H fun x H1 => ∃ (l : Addr) (ws : List Str), x = .ref l ∧ SqL K H1 l (ws.map V.str) ∧ ws.length < 4000 ∧ Q (.int (once ws).length) H1
theorem pe_lenOnce {a : Expr} {ta : TE} {p1 p2 p3 p4 : Pos} (hc : X.calm = true) (gl : Gl X "len") (ml : X.mg "len" = none) (gs : Gl X "set") (ms : X.mg "set" = none) (ha : PE X a ta)
    (na : starEach [a] X.env = (false, eval a X.env) :: starEach [] X.env := by rfl) : PE X (.Call (.Name "len" p1) [.Call (.Name "set" p2) [a] [] p3] [] p4) (tLenOnce X.K ta) where
  run pins s σ H Q I h := by
    refine Call_ (ld_blt I gl ml boot_len (PyProof.Rows.callWith_builtin1 (PyProof.Rows.args_cons ?_ rfl) rfl rfl))
    refine Call_ (ld_blt I gs ms boot_set (PyProof.Rows.callWith_type1 (PyProof.Rows.args_cons (thn (ha.run pins s σ H _ I h) fun v s1 z => PyProof.Rows.args_nil ?_) na) na rfl))
    obtain ⟨x, H1, I1, r1, l, ws, rfl, hq, few, q⟩ := z
    cases r1
    obtain ⟨its, r, pl, hz⟩ := I1.list hq
    obtain ⟨ln, at_⟩ := text_at r
    have sz : its.toArray.size = ws.length := by rw [List.size_toArray, ln]
    refine set_of_list (knd := PySem.strKind X.prog X.w) (ks := ws) (I1.ok.hd hc) pl.isList sz.symm (fun i v hv => ?_) (by rw [sz]; unfold scanBound; omega) fun h' tk hs kp => PyProof.Rows.args_nil ?_
    · rw [List.getElem?_toArray] at hv
      obtain ⟨k, t, e1, e2⟩ := at_ i v hv
      exact ⟨k, e1, e2 ▸ strKind_is _ _ _ _, e2 ▸ rfl⟩
    · obtain ⟨o, es, ep, t, ho, hex, hd, _, _, _, hf, hn⟩ := hs
      have I2 : Inv X pins σ H1 { s1 with heap := h', toks := tk } := I1.kept fun b o e => kp b o (Heap.lt_size e) e
      have le := once_le (l := ws)
      exact call_len_set ho hex hd hf (by rw [hn]; omega) ⟨.int (once ws).length, H1, I2.tok _, ⟨_, by rw [hn]⟩, q⟩
end
end Gd
/-! lists of texts: == and != -/
namespace Gd
open PySem PySem.Spec PyProof.Rows L2
theorem dp_words {K : PySem.W.Frag} {H : Hp} : ∀ ws : List Str, DpAll K H (ws.map V.str) (ws.map .str)
  | [] => .nil
  | w :: r => .cons (.str w) (dp_words r)
theorem words_plain : ∀ ws : List Str, PyData.plainAll (ws.map .str) = true
  | [] => rfl
  | w :: r => by
    rw [List.map_cons, PyData.plainAll, words_plain r]
    rfl
theorem words_deep : ∀ ws : List Str, PyData.depthAll (ws.map .str) ≤ 1
  | [] => Nat.zero_le _
  | w :: r => by
    have := words_deep r
    rw [List.map_cons, PyData.depthAll]
    exact Nat.max_le.mpr ⟨by show PyData.depth (.str w) ≤ 1; rw [PyData.depth]; omega, this⟩
theorem words_eqv : ∀ ws zs : List Str, PyData.eqvAll (ws.map .str) (zs.map .str) = decide (ws = zs)
  | [], [] => rfl
  | [], _ :: _ => rfl
  | _ :: _, [] => rfl
  | w :: r, z :: q => by
    rw [List.map_cons, List.map_cons, PyData.eqvAll, words_eqv r q]
    show ((w == z) && decide (r = q)) = _
    by_cases e : w = z
    · subst e
      rw [beq_self_eq_true, Bool.true_and]
      exact decide_eq_decide.mpr ⟨fun h => by rw [h], fun h => (List.cons.inj h).2⟩
    · rw [show (w == z) = false from by simp [e], Bool.false_and, decide_eq_false fun h => e (List.cons.inj h).1]
def rEqW (K : PySem.W.Frag) : R2 := fun x y H Q => ∃ (a b : Addr) (ws zs : List Str), x = .ref a ∧ y = .ref b ∧ SqL K H a (ws.map V.str) ∧ SqL K H b (zs.map V.str) ∧ Q (.bl (decide (ws = zs))) H
def rNeW (K : PySem.W.Frag) : R2 := fun x y H Q => ∃ (a b : Addr) (ws zs : List Str), x = .ref a ∧ y = .ref b ∧ SqL K H a (ws.map V.str) ∧ SqL K H b (zs.map V.str) ∧ Q (.bl (!decide (ws = zs))) H
section
variable {X : Cx}
theorem op_eqW (hu : X.A.units + 64 < cLine) : OpR X (compareOp .Eq) (rEqW X.K) := by
  intro pins s σ H x y v u Q I rx ry h
  obtain ⟨a, b, ws, zs, rfl, rfl, ha, hb, q⟩ := h
  obtain ⟨as, r1⟩ := Dp.reads I (.list (ws.map .str)) _ v (.lst ha (dp_words ws)) rx
  obtain ⟨bs, r2⟩ := Dp.reads I (.list (zs.map .str)) _ u (.lst hb (dp_words zs)) ry
  have d1 : PyData.depth (.list (ws.map .str)) ≤ 2 := by
    have := words_deep ws
    rw [PyData.depth]
    omega
  refine SeqAt.eq_plain r1 r2 (words_plain ws) (words_plain zs) (by have := Nat.min_le_left (PyData.depth (.list (ws.map .str))) (PyData.depth (.list (zs.map .str))); omega) ⟨.bl _, H, I, rfl, ?_⟩
  rw [show PyData.eqv (.list (ws.map .str)) (.list (zs.map .str)) = PyData.eqvAll (ws.map .str) (zs.map .str) from rfl, words_eqv]
  exact q
theorem op_neW (hu : X.A.units + 64 < cLine) : OpR X (compareOp .NotEq) (rNeW X.K) := by
  intro pins s σ H x y v u Q I rx ry h
  obtain ⟨a, b, ws, zs, rfl, rfl, ha, hb, q⟩ := h
  obtain ⟨as, r1⟩ := Dp.reads I (.list (ws.map .str)) _ v (.lst ha (dp_words ws)) rx
  obtain ⟨bs, r2⟩ := Dp.reads I (.list (zs.map .str)) _ u (.lst hb (dp_words zs)) ry
  have d1 : PyData.depth (.list (ws.map .str)) ≤ 2 := by
    have := words_deep ws
    rw [PyData.depth]
    omega
  refine SeqAt.ne_plain r1 r2 (words_plain ws) (words_plain zs) (by have := Nat.min_le_left (PyData.depth (.list (ws.map .str))) (PyData.depth (.list (zs.map .str))); omega) ⟨.bl _, H, I, rfl, ?_⟩
  rw [show PyData.eqv (.list (ws.map .str)) (.list (zs.map .str)) = PyData.eqvAll (ws.map .str) (zs.map .str) from rfl, words_eqv]
  exact q
end
end Gd
/-! looks at all words of a list; lists against [] -/
namespace Qw
open PySem PySem.Spec PyProof.Rows L2 Evl Gd Sn
/-- comes to a list of these words -/
def Gives (σ : L2.St) (H : Hp) (te : TE) (ws : List Str) : Prop := ∀ Q : VK, (∀ H' p, Ex H H' → Ws H' p ws → Q (.ref p) H') → te σ H Q
section
variable {K : PySem.W.Frag} {σ : L2.St} {H : Hp} {l : Addr} {ws : List Str}
theorem gives_var {i : Nat} (e : σ[i]? = some (some (.ref l))) (h : Ws H l ws) : Gives σ H (tVar i) ws := fun Q q => v_of e (q H l (Ex.refl H) h)
theorem gives_tl {te : TE} {v : Str} {r : List Str} (h : Gives σ H te (v :: r)) : Gives σ H (tSl (rSlL K) te (tPart (tC (.int 1))) tNoPart) r := fun Q q =>
  slS_of (h _ fun H1 p x hp => k_of ⟨1, rfl, p, _, rfl, sq_of hp.at_, fun p2 h2 => by
    have e := cut1 (v := v) (r := r)
    refine q _ p2 (x.trans (Ex.new h2)) ⟨by rw [upd_same, e], fun w hw => hp.wd w (List.mem_cons_of_mem _ hw), ?_⟩
    have := hp.few
    rw [List.length_cons] at this
    omega⟩)
theorem gives_tl2 {te : TE} {v c : Str} {r : List Str} (h : Gives σ H te (v :: c :: r)) : Gives σ H (tSl (rSlL K) te (tPart (tC (.int 2))) tNoPart) r := fun Q q =>
  slS_of (h _ fun H1 p x hp => k_of ⟨2, rfl, p, _, rfl, sq_of hp.at_, fun p2 h2 => by
    have e := cut2 (v := v) (c := c) (r := r)
    refine q _ p2 (x.trans (Ex.new h2)) ⟨by rw [upd_same, e], fun w hw => hp.wd w (List.mem_cons_of_mem _ (List.mem_cons_of_mem _ hw)), ?_⟩
    have := hp.few
    rw [List.length_cons, List.length_cons] at this
    omega⟩)
theorem says_all {te el : TE} {j : Nat} {vs : List Nat} {G : Str → Prop} (ht : Gives σ H te ws) (hw : ∀ x : V, wipe ((wipe σ vs).set j (some x)) vs = wipe σ vs)
    (he : ∀ H' u, Ex H H' → u ∈ ws → Wd u → Says ((wipe σ vs).set j (some (.str u))) H' el (G u)) : Says σ H (tCB (rAll K) (tCons (tLc (iList K te) (gName j) tYes el vs) tNil)) (∀ u ∈ ws, G u) := fun Q q =>
  cb_of (c_of (lc_of (iL_of (ht _ fun H1 p x1 hp => ⟨p, rfl, ⟨_, sq_of hp.at_⟩, fun D hD => by
    refine lc_list (xs := ws.map V.str) (fun i H' => Ex H1 H' ∧ ∃ bs : List Bool, H' D = some (.lst (bs.map V.bl)) ∧ bs.length = i ∧ i ≤ ws.length ∧ (bs.all id = true ↔ ∀ u ∈ ws.take i, G u)) ⟨Ex.new hD, [], upd_same, rfl, Nat.zero_le _, ⟨fun _ u hu => (by simp at hu), fun _ => rfl⟩⟩ (fun i H' _ h => sq_of (h.1 _ _ hp.at_)) ?_ ?_
    · rintro i x' H' hx ⟨e, bs, hd, ln, le, iff⟩
      rw [List.getElem?_map] at hx
      obtain ⟨u, hu, rfl⟩ := Option.map_eq_some_iff.mp hx
      have il : i < ws.length := (List.getElem?_eq_some_iff.mp hu).1
      refine ⟨hw _, ?_⟩
      dsimp only [tYes]
      rw [if_pos rfl]
      refine he H' u (x1.trans e) (List.mem_of_getElem? hu) (hp.wd u (List.mem_of_getElem? hu)) _ fun H2 b x2 hb => ?_
      refine ⟨bs.map V.bl, x2 _ _ hd, sz_lt (by rw [List.length_map]; have := hp.few; omega), Ex.mut (e.trans x2) hD, bs ++ [b], by rw [upd_same, List.map_append]; rfl, by rw [List.length_append, ln]; rfl, il, ?_⟩
      rw [List.all_append, Bool.and_eq_true, iff, take_one hu]
      constructor
      · rintro ⟨a, c⟩ v hv
        rcases List.mem_append.mp hv with hv | hv
        · exact a v hv
        · rw [List.mem_singleton.mp hv]
          exact hb.mp (by simpa using c)
      · exact fun a => ⟨fun v hv => a v (List.mem_append_left _ hv), by have := hb.mpr (a u (by simp)); simp [this]⟩
    · rintro H2 ⟨e2, bs, hd, ln, le, iff⟩
      rw [List.length_map, List.take_length] at iff
      exact n_of ⟨D, bs, rfl, sq_of hd, q H2 _ (x1.trans e2) iff⟩⟩))))
theorem says_nil {te : TE} (ht : Gives σ H te ws) : Says σ H (tOp (rEqW K) te (tLst tNil)) (ws = []) := fun Q q =>
  op_of (ht _ fun H1 p x hp => lst_of (n_of ⟨Nat.zero_le _, fun d hd => ⟨p, d, ws, [], rfl, rfl, sq_of ((Ex.new hd) _ _ hp.at_), sq_of upd_same, q _ _ (x.trans (Ex.new hd)) b_iff⟩⟩))
theorem says_ne {te : TE} (ht : Gives σ H te ws) : Says σ H (tOp (rNeW K) te (tLst tNil)) (ws ≠ []) := fun Q q =>
  op_of (ht _ fun H1 p x hp => lst_of (n_of ⟨Nat.zero_le _, fun d hd => ⟨p, d, ws, [], rfl, rfl, sq_of ((Ex.new hd) _ _ hp.at_), sq_of upd_same, q _ _ (x.trans (Ex.new hd)) nb_iff⟩⟩))
/-- the look of a function at a list of words -/
theorem says_B {te : TE} {G : List Str → Prop} {E : XK} (ht : Gives σ H te ws) : Says σ H (tCall (spB G) [] E (tCons te tNil)) (G ws) := fun Q q =>
  call_of (c_of (ht _ fun H1 p x hp => n_of ⟨p, ws, rfl, hp, fun H' b e hb => q H' b (x.trans e) hb⟩))
theorem var_eq {i : Nat} {v z : Str} (e : σ[i]? = some (some (.str v))) : Says σ H (tOp rEq (tVar i) (tC (.str z))) (v = z) := fun Q q =>
  op_of (v_of e (k_of ⟨rfl, q H _ (Ex.refl H) (b_iff.trans ⟨V.str.inj, fun z => by rw [z]⟩)⟩))
theorem var_ne {i : Nat} {v z : Str} (e : σ[i]? = some (some (.str v))) : Says σ H (tOp rNe (tVar i) (tC (.str z))) (¬ v = z) := fun Q q =>
  op_of (v_of e (k_of ⟨rfl, q H _ (Ex.refl H) (nb_iff.trans ⟨fun z y => z (by rw [y]), fun z y => z (V.str.inj y)⟩)⟩))
/-- v in (some texts written out) -/
theorem in_texts {i : Nat} {v : Str} {zs : List Str} {ta : TA} (e : σ[i]? = some (some (.str v))) (h : ∀ Q : List V → Hp → Prop, Q (zs.map V.str) H → ta σ H Q) (few : zs.length ≤ 100) : Says σ H (tOp (rIn K false) (tVar i) (tTup ta)) (v ∈ zs) := fun Q q =>
  op_of (v_of e (tup_of (h _ ⟨by rw [List.length_map]; exact Nat.le_trans few (by show 100 ≤ sizeLine; decide), fun p hp => ⟨p, _, rfl, .inr (st_of upd_same), rfl, strs_flat zs, by
    rw [if_neg Bool.false_ne_true, inV_strs]
    exact q _ _ (Ex.new hp) b_iff⟩⟩)))
/-- a call of a function of one word -/
theorem var_call {i : Nat} {v : Str} {sp : Sp} {E : XK} {G : Prop} (e : σ[i]? = some (some (.str v))) (s : ∀ (Q : VK), (∀ H' (b : Bool), Ex H H' → (b = true ↔ G) → Q (.bl b) H') → sp [.str v] H Q E) : Says σ H (tCall sp [] E (tCons (tVar i) tNil)) G := fun Q q =>
  call_of (c_of (v_of e (n_of (s Q q))))
/-- the look at a list of words that are some -/
def spB1 (G : List Str → Prop) : Sp := fun vs H Q _ => ∃ (l : Addr) (ws : List Str), vs = [.ref l] ∧ Ws H l ws ∧ ws ≠ [] ∧ ∀ H' (b : Bool), Ex H H' → (b = true ↔ G ws) → Q (.bl b) H'
theorem says_B1 {te : TE} {G : List Str → Prop} {E : XK} (ne : ws ≠ []) (ht : Gives σ H te ws) : Says σ H (tCall (spB1 G) [] E (tCons te tNil)) (G ws) := fun Q q =>
  call_of (c_of (ht _ fun H1 p x hp => n_of ⟨p, ws, rfl, hp, ne, fun H' b e hb => q H' b (x.trans e) hb⟩))
theorem len_chain {i : Nat} {a b : Int} (e : σ[i]? = some (some (.ref l))) (h : Ws H l ws) : Says σ H (tChain (rI0 fun i j => .bl (decide (i < j))) (rI0 fun i j => .bl (decide (i < j))) (tC (.int a)) (tLenW K i) (tC (.int b))) (a < ws.length ∧ (ws.length : Int) < b) := fun Q q =>
  chain_of (k_of (len_w e h ⟨_, _, rfl, rfl, _, rfl, by
    by_cases c : a < (ws.length : Int)
    · rw [decide_eq_true c, if_pos rfl]
      exact k_of ⟨_, _, rfl, rfl, q H _ (Ex.refl H) (b_iff.trans ⟨fun z => ⟨c, z⟩, fun z => z.2⟩)⟩
    · rw [decide_eq_false c, if_neg Bool.false_ne_true]
      exact q H false (Ex.refl H) (f_iff fun z => c z.1)⟩))
end
end Qw
/-! the law's own words: blocks, procedures, calls -/
namespace Qw
open PySem PySem.Spec PyProof.Rows L2 Evl Gd Sn
abbrev sLBlock : Stmt := topS 55
abbrev nLBlock : List Str := ["_law_words", "_law_first", "_law_rest", "_law_word"]
theorem scLBlock : FnScope nLBlock ["_law_words"] (defScope sLBlock) := ⟨rfl, rfl, rfl, by decide +kernel, rfl, by decide +kernel, by decide +kernel⟩
/-- words of a block, a procedure, a call -/
def gBlockW (ws : List Str) : Prop := ∃ (v : Str) (r : List Str), ws = v :: r ∧ ((v = "if" ∧ gIf ws) ∨ (v = "repeat" ∧ gNum ws) ∨ (v = "proc" ∧ gProc ws) ∨ (v = "do" ∧ gDo ws) ∨ ((v = "else" ∨ v = "end") ∧ gBare ws))
theorem else_flat : (["else", "end"] : List Str).length = 2 := rfl
section
variable {P : Program} {w : World} {K : PySem.W.Frag} {mg : Str → Option Value} {base : Heap}
theorem ok_lblock {f fV fU fL : Addr} {fd fdV fdU fdL : FuncData} (F : Fun K "_law_is_block" "_law_is_block" sLBlock f fd) (FV : Fun K "_law_is_value" "_law_is_value" sLVal fV fdV) (FU : Fun K "_law_is_number" "_law_is_number" sLNum fU fdU) (FL : Fun K "_law_is_small" "_law_is_small" sLSmall fL fdL) (bV : Binds K fdV ["_law_word"] []) (bU : Binds K fdU ["_law_word", "_law_most"] []) (bL : Binds K fdL ["_law_word"] []) (gV : mg "_law_is_value" = some (.ref fV)) (gU : mg "_law_is_number" = some (.ref fU)) (gL : mg "_law_is_small" = some (.ref fL)) (mL : mg "len" = none) (mS : mg "set" = none) (mA : mg "all" = none)
    (GV : FnOk P w K mg base CX0 3 fV fdV ["_law_word"] spLVal) (GU' : FnOk P w K mg base CX0 1 fU fdU ["_law_word", "_law_most"] spLNum) (GL : FnOk P w K mg base CX0 3 fL fdL ["_law_word"] spLSmall) : FnOk P w K mg base CX0 4 f fd ["_law_words"] (spB1 gBlockW) := by
  have GU : FnOk P w K mg base CX0 3 fU fdU ["_law_word", "_law_most"] spLNum := GU'.mono (by decide)
  refine F.ok scLBlock (fun vs H Q E h => ?_) (fun cdv A outer s H vs Q E hr h => ?_)
  · obtain ⟨l, ws, rfl, _⟩ := h
    rfl
  · obtain ⟨l, ws, rfl, hws, ne, q⟩ := h
    refine ⟨_, pss_cons (ps_par (i := 1) (j := 2) rfl scLBlock.nd rfl rfl (by decide) rfl rfl (pa_cons (pe_ix ix_list (pv 0) pe_int (fun _ _ => rfl)) <| pa_cons (pe_slice sl_list (pv 0) (po_some pe_int) po_none) pa_nil) (by rfl)) <|
      pss_cons (ps_if (pt_cmpR op_eq (pv 1) pe_str (nomark _)) (pss_one (ps_ret (pe_and (pe_cmpR op_eq (pe_callB call_len_seq (by rfl) mL PySem.boot_len (pa_cons (pv 2) pa_nil)) pe_int (nomark _)) <| pe_and (pe_cmpR op_eq (pe_ix ix_list (pv 2) pe_int (fun _ _ => rfl)) pe_str (nomark _)) <| pe_and (pe_call GV hr (by rfl) gV FV.kp bV .nil pass0 (pa_cons (pe_ix ix_list (pv 2) pe_int (fun _ _ => rfl)) pa_nil)) <| pe_one (pe_call GV hr (by rfl) gV FV.kp bV .nil pass0 (pa_cons (pe_ix ix_list (pv 2) pe_int (fun _ _ => rfl)) pa_nil))))) pss_nil) <|
      pss_cons (ps_if (pt_cmpR op_eq (pv 1) pe_str (nomark _)) (pss_one (ps_ret (pe_and (pe_cmpR op_eq (pe_callB call_len_seq (by rfl) mL PySem.boot_len (pa_cons (pv 2) pa_nil)) pe_int (nomark _)) <| pe_one (pe_call GU hr (by rfl) gU FU.kp bU .nil pass0 (pa_cons (pe_ix ix_list (pv 2) pe_int (fun _ _ => rfl)) <| pa_cons pe_int pa_nil))))) pss_nil) <|
      pss_cons (ps_if (pt_cmpR op_eq (pv 1) pe_str (nomark _))
        (pss_cons (ps_if (pw_or (pt_not (pt_chain op_lt op_lt pe_int (pe_callB call_len_seq (by rfl) mL PySem.boot_len (pa_cons (pv 2) pa_nil)) pe_int)) (pw_or1 (pt_cmpR op_lt (pe_lenOnce rfl (by rfl) mL (by rfl) mS (pe_slice sl_list (pv 2) (po_some pe_int) po_none)) (pe_callB call_len_seq (by rfl) mL PySem.boot_len (pa_cons (pe_slice sl_list (pv 2) (po_some pe_int) po_none) pa_nil)) (nomark _)))).pt (pss_one (ps_ret pe_bl)) pss_nil) <|
         pss_one (ps_ret (pe_callB (cr_all rfl) (by rfl) mA (by decide +kernel) (pa_cons (pe_lc (own := [("_law_word", 3)]) (g := gName 3) (tt := tYes) (te := tCall spLSmall [] E0 (tCons (tVar 3) tNil)) rfl scLBlock.nd (pi_list (pv 2)) (blkOk_by (N := nLBlock) (sc := defScope sLBlock) (by decide +kernel))
            (fun _ _ _ _ _ => pg_name (i := 3) scLBlock.nd rfl (.inl rfl)) (fun _ _ _ _ _ => pts_nil) (fun _ _ _ _ _ => pe_call GL hr (by rfl) gL FL.kp bL .nil pass0 (pa_cons (pv 3) pa_nil))) pa_nil)))) pss_nil) <|
      pss_cons (ps_if (pt_cmpR op_eq (pv 1) pe_str (nomark _)) (pss_one (ps_ret (pe_and (pe_cmpR (op_neW hr.units) (pv 2) (pe_lst pa_nil) (nomark _)) <| pe_and (pe_call GL hr (by rfl) gL FL.kp bL .nil pass0 (pa_cons (pe_ix ix_list (pv 2) pe_int (fun _ _ => rfl)) pa_nil)) <| pe_one (pe_callB (cr_all rfl) (by rfl) mA (by decide +kernel) (pa_cons (pe_lc (own := [("_law_word", 3)]) (g := gName 3) (tt := tYes) (te := tCall spLVal [] E0 (tCons (tVar 3) tNil)) rfl scLBlock.nd (pi_list (pe_slice sl_list (pv 2) (po_some pe_int) po_none)) (blkOk_by (N := nLBlock) (sc := defScope sLBlock) (by decide +kernel))
            (fun _ _ _ _ _ => pg_name (i := 3) scLBlock.nd rfl (.inl rfl)) (fun _ _ _ _ _ => pts_nil) (fun _ _ _ _ _ => pe_call GV hr (by rfl) gV FV.kp bV .nil pass0 (pa_cons (pv 3) pa_nil))) pa_nil))))) pss_nil) <|
      pss_one (ps_ret (pe_and (pe_cmpR op_in_seq (pv 1) (pe_tup (pa_cons pe_str <| pa_cons pe_str pa_nil)) (by rfl)) (pe_one (pe_cmpR (op_eqW hr.units) (pv 2) (pe_lst pa_nil) (nomark _))))), ?_⟩
    match ws, ne with
    | v :: r, _ =>
    refine seq_of (par_of (c_of (ixk_of rfl hws.at_ (k := 0) rfl (c_of ((gives_tl (gives_var rfl hws)) _ fun H1 p x1 hp => n_of ⟨_, _, rfl, ?_⟩)))))
    dsimp only
    have ln : ((v :: r).length : Int) = r.length + 1 := by rw [List.length_cons]; omega
    refine seq_of (SaysT.ifS (Says.test (var_eq rfl)) (fun H2 x2 a => ?_) fun H2 x2 n1 => ?_)
    · subst a
      refine Says.ret (A := r.length = 3 ∧ (∀ b : Str, r[1]? = some b → b = "is") ∧ (∀ a, r[0]? = some a → ValW a) ∧ ∀ c, r[2]? = some c → ValW c) (.and ((len_eq rfl (hp.ex x2)).imp (by omega)) fun H3 x3 l3 => ?_) fun H3 b x3 hb => q H3 b ((x1.trans x2).trans x3) (hb.trans ?_)
      · match r, l3 with
        | [a, b, c], _ =>
          have w3 := (hp.ex x2).ex x3
          refine (Says.and (word_eq (k := 1) rfl w3 rfl) fun H4 x4 e => Says.and (word_call (k := 0) rfl (w3.ex x4) rfl val_s) fun H5 x5 va => word_call (k := 2) rfl ((w3.ex x4).ex x5) rfl val_s).imp ⟨fun z => ⟨fun _ e => (by cases e; exact z.1), fun _ e => (by cases e; exact z.2.1), fun _ e => (by cases e; exact z.2.2)⟩, fun z => ⟨z.1 _ rfl, z.2.1 _ rfl, z.2.2 _ rfl⟩⟩
      · constructor
        · rintro ⟨l3, h1, h2, h3⟩
          match r, l3 with
          | [a, b, c], _ =>
            obtain rfl := h1 b rfl
            exact ⟨_, _, rfl, .inl ⟨rfl, _, _, _, rfl, h2 a rfl, h3 c rfl⟩⟩
        · rintro ⟨v', r', e, ⟨_, _, a, b, e2, va, vb⟩ | ⟨rfl, _⟩ | ⟨rfl, _⟩ | ⟨rfl, _⟩ | ⟨rfl | rfl, _⟩⟩
          · cases e2
            exact ⟨rfl, fun _ e => (by cases e; rfl), fun _ e => (by cases e; exact va), fun _ e => (by cases e; exact vb)⟩
          all_goals exact absurd (List.cons.inj e).1 (by decide +kernel)
    dsimp only [tNext]
    refine seq_of (SaysT.ifS (Says.test (var_eq rfl)) (fun H3 x3 a => ?_) fun H3 x3 n2 => ?_)
    · subst a
      refine Says.ret (A := r.length = 1 ∧ (∀ b, r[0]? = some b → NumW (TL.tl b) 10000)) (.and ((len_eq rfl ((hp.ex x2).ex x3)).imp (by omega)) fun H4 x4 l3 => ?_) fun H4 b x4 hb => q H4 b (((x1.trans x2).trans x3).trans x4) (hb.trans ?_)
      · match r, l3 with
        | [a], _ =>
          exact (num_call (k := 0) (m := 10000) rfl (((hp.ex x2).ex x3).ex x4) rfl (by decide)).imp ⟨fun z _ e => (by cases e; exact z), fun z => z _ rfl⟩
      · constructor
        · rintro ⟨l3, h1⟩
          match r, l3 with
          | [a], _ => exact ⟨_, _, rfl, .inr (.inl ⟨rfl, _, _, rfl, h1 a rfl⟩)⟩
        · rintro ⟨v', r', e, ⟨rfl, _⟩ | ⟨_, _, a, e2, h⟩ | ⟨rfl, _⟩ | ⟨rfl, _⟩ | ⟨rfl | rfl, _⟩⟩
          rotate_left
          · cases e2
            exact ⟨rfl, fun _ e => (by cases e; exact h)⟩
          all_goals exact absurd (List.cons.inj e).1 (by decide +kernel)
    dsimp only [tNext]
    have x03 := (x1.trans x2).trans x3
    have w3 := (hp.ex x2).ex x3
    refine seq_of (SaysT.ifS (Says.test (var_eq rfl)) (fun H4 x4 a => ?_) fun H4 x4 n3 => ?_)
    · subst a
      have w4 := w3.ex x4
      refine seq_of (SaysT.ifS (A := ¬ (0 < (r.length : Int) ∧ (r.length : Int) < 6) ∨ ∀ c us, r = c :: us → ¬ us.Nodup) (.or (.not (Says.test (len_chain rfl w4))) fun H5 x5 nl => ?_) (fun H5 x5 a => ?_) fun H5 x5 a => ?_)
      · match r, nl with
        | [], nl => exact absurd (fun z => absurd z.1 (Int.lt_irrefl 0)) nl
        | c :: us, nl =>
          refine SaysT.imp (Says.test (A := ¬ us.Nodup) fun Q' q' => op_of ((gives_tl (gives_var rfl (w4.ex x5))) _ fun H6 p6 x6 hp6 => ?_)) ⟨fun z c' us' e => (by cases e; exact z), fun z => z c us rfl⟩
          have l6 : us.length < 4000 := by
            have := (Classical.not_not.mp nl).2
            rw [List.length_cons] at this
            omega
          refine ⟨p6, us, rfl, sq_of hp6.at_, l6, cb_of (c_of ((gives_tl (gives_var rfl ((w4.ex x5).ex x6))) _ fun H7 p7 x7 hp7 => n_of ⟨p7, _, rfl, .inl (sq_of hp7.at_), _, _, rfl, rfl, q' H7 _ (x6.trans x7) (b_iff.trans ?_)⟩))⟩
          rw [List.length_map]
          exact ⟨fun z => once_lt.mp (by omega), fun z => by have := once_lt.mpr z; omega⟩
      · refine ret_of (k_of (q H5 false ((x03.trans x4).trans x5) (f_iff ?_)))
        rintro ⟨v', r', e, ⟨rfl, _⟩ | ⟨rfl, _⟩ | ⟨_, _, c, us, e2, l4, h1, h2, nd⟩ | ⟨rfl, _⟩ | ⟨rfl | rfl, _⟩⟩
        rotate_left 2
        · cases e2
          rcases a with a | a
          · exact a ⟨by rw [List.length_cons]; omega, by rw [List.length_cons]; omega⟩
          · exact a c us rfl nd
        all_goals exact absurd (List.cons.inj e).1 (by decide +kernel)
      dsimp only [tNext]
      obtain ⟨a1, a2⟩ := not_or.mp a
      have a1 := Classical.not_not.mp a1
      refine Says.ret (says_all (G := fun u => localB u = true) (gives_var rfl (w4.ex x5)) (fun _ => rfl) fun H6 u x6 hu wu => var_call rfl (small_s wu)) fun H6 b x6 hb => q H6 b (((x03.trans x4).trans x5).trans x6) (hb.trans ?_)
      match r, a1, a2 with
      | [], a1, _ => exact absurd a1.1 (Int.lt_irrefl 0)
      | c :: us, a1, a2 =>
        rw [List.length_cons] at a1
        have nd : us.Nodup := Classical.byContradiction fun n => a2 fun c' us' e => (by cases e; exact n)
        constructor
        · intro al
          exact ⟨_, _, rfl, .inr (.inr (.inl ⟨rfl, _, c, us, rfl, by omega, al c List.mem_cons_self, fun u hu => al u (List.mem_cons_of_mem _ hu), nd⟩))⟩
        · rintro ⟨v', r', e, ⟨rfl, _⟩ | ⟨rfl, _⟩ | ⟨_, _, c, us, e2, l4, h1, h2, nd⟩ | ⟨rfl, _⟩ | ⟨rfl | rfl, _⟩⟩
          rotate_left 2
          · cases e2
            intro u hu
            rcases List.mem_cons.mp hu with rfl | hu
            · exact h1
            · exact h2 u hu
          all_goals exact absurd (List.cons.inj e).1 (by decide +kernel)
    dsimp only [tNext]
    have x04 := x03.trans x4
    have w4 := w3.ex x4
    refine seq_of (SaysT.ifS (Says.test (var_eq rfl)) (fun H5 x5 a => ?_) fun H5 x5 n4 => ?_)
    · subst a
      have w5 := w4.ex x5
      refine Says.ret (A := r ≠ [] ∧ ∀ c us, r = c :: us → localB c = true ∧ ∀ u ∈ us, ValW u) (.and (says_ne (gives_var rfl w5)) fun H6 x6 nr => ?_) fun H6 b x6 hb => q H6 b ((x04.trans x5).trans x6) (hb.trans ?_)
      · match r, nr with
        | c :: us, _ =>
          have w6 := w5.ex x6
          refine (Says.and (word_call (k := 0) rfl w6 rfl small_s) fun H7 x7 lc => says_all (G := ValW) (gives_tl (gives_var rfl (w6.ex x7))) (fun _ => rfl) fun H8 u x8 hu wu => var_call rfl (val_s wu)).imp ⟨fun z c' us' e => (by cases e; exact z), fun z => z c us rfl⟩
      · constructor
        · rintro ⟨nr, h⟩
          match r, nr with
          | c :: us, _ => exact ⟨_, _, rfl, .inr (.inr (.inr (.inl ⟨rfl, _, c, us, rfl, h c us rfl⟩)))⟩
        · rintro ⟨v', r', e, ⟨rfl, _⟩ | ⟨rfl, _⟩ | ⟨rfl, _⟩ | ⟨_, _, c, us, e2, h⟩ | ⟨rfl | rfl, _⟩⟩
          rotate_left 3
          · cases e2
            exact ⟨List.cons_ne_nil _ _, fun c us e => by cases e; exact h⟩
          all_goals exact absurd (List.cons.inj e).1 (by decide +kernel)
    dsimp only [tNext]
    have w5 := w4.ex x5
    refine Says.ret (.and (in_texts (zs := ["else", "end"]) rfl (fun Q' q' => c_of (k_of (c_of (k_of (n_of q'))))) (by decide)) fun H6 x6 m => says_nil (gives_var rfl (w5.ex x6))) fun H6 b x6 hb => q H6 b ((x04.trans x5).trans x6) (hb.trans ?_)
    constructor
    · rintro ⟨m, rfl⟩
      refine ⟨_, _, rfl, .inr (.inr (.inr (.inr ⟨?_, _, rfl⟩)))⟩
      rcases List.mem_cons.mp m with e | m
      · exact .inl e
      · exact .inr (List.mem_singleton.mp m)
    · rintro ⟨v', r', e, ⟨rfl, _⟩ | ⟨rfl, _⟩ | ⟨rfl, _⟩ | ⟨rfl, _⟩ | ⟨h, _, e2⟩⟩
      · exact absurd (List.cons.inj e).1 n1
      · exact absurd (List.cons.inj e).1 n2
      · exact absurd (List.cons.inj e).1 n3
      · exact absurd (List.cons.inj e).1 n4
      · cases e2
        cases e
        refine ⟨?_, rfl⟩
        rcases h with rfl | rfl
        · exact List.mem_cons_self
        · exact List.mem_cons_of_mem _ List.mem_cons_self
end
end Qw
/-! the law's look at a row and the program's are the same -/
namespace Qw
open PySem PySem.Spec PyProof.Rows L2 Evl Gd Sn
theorem look_some {z : Str} {us : List Str} {G : List Str → Prop} (h : formTab.lookup z = some G) : gStat (z :: us) ↔ G (z :: us) := by
  show (match formTab.lookup z with
    | some G => G (z :: us)
    | none => gStore (z :: us)) ↔ _
  rw [h]
theorem look_none {z : Str} {us : List Str} (h : formTab.lookup z = none) : gStat (z :: us) ↔ gStore (z :: us) := by
  show (match formTab.lookup z with
    | some G => G (z :: us)
    | none => gStore (z :: us)) ↔ _
  rw [h]
abbrev bareL : List Str := ["minor", "begin", "finalize", "settle"]
abbrev numL4 : List Str := ["rings", "slice", "compact"]
abbrev nmL : List Str := ["drop", "hold", "release", "pin", "unpin"]
theorem mem2 {a b z : Str} (h : z ∈ [a, b]) : z = a ∨ z = b := by simpa using h
theorem bare_at {z : Str} (h : z ∈ bareL) : formTab.lookup z = some gBare := by
  simp only [List.mem_cons, List.not_mem_nil, or_false] at h
  rcases h with rfl | rfl | rfl | rfl <;> rfl
theorem num_at {z : Str} (h : z ∈ numL4) : formTab.lookup z = some gNum := by
  simp only [List.mem_cons, List.not_mem_nil, or_false] at h
  rcases h with rfl | rfl | rfl <;> rfl
theorem nm_at {z : Str} (h : z ∈ nmL) : formTab.lookup z = some gNm := by
  simp only [List.mem_cons, List.not_mem_nil, or_false] at h
  rcases h with rfl | rfl | rfl | rfl | rfl <;> rfl
theorem blk_at : formTab.lookup ("if" : Str) = some gIf ∧ formTab.lookup ("repeat" : Str) = some gNum ∧ formTab.lookup ("proc" : Str) = some gProc ∧ formTab.lookup ("do" : Str) = some gDo ∧ formTab.lookup ("else" : Str) = some gBare ∧ formTab.lookup ("end" : Str) = some gBare ∧ formTab.lookup ("say" : Str) = some gSay ∧ formTab.lookup ("let" : Str) = some gLet := ⟨rfl, rfl, rfl, rfl, rfl, rfl, rfl, rfl⟩
theorem no_look {z : Str} : ∀ (T : List (Str × (List Str → Prop))), z ∉ T.map (·.1) → T.lookup z = none
  | [], _ => rfl
  | (a, G) :: T, h => by
    rw [List.map_cons, List.mem_cons, not_or] at h
    rw [List.lookup_cons, show (z == a) = false from by simp [h.1]]
    exact no_look T h.2
abbrev blkL : List Str := ["if", "repeat", "proc", "do", "else", "end"]
theorem keys_are {z : Str} (h : z ∈ formTab.map (·.1)) : z ∈ bareL ∨ z ∈ numL4 ∨ z ∈ nmL ∨ z = "say" ∨ z = "let" ∨ z ∈ blkL := by
  have all : ∀ z ∈ formTab.map (·.1), z ∈ bareL ∨ z ∈ numL4 ∨ z ∈ nmL ∨ z = "say" ∨ z = "let" ∨ z ∈ blkL := by
    have e : formTab.map (·.1) = (["let", "say", "drop", "hold", "release", "pin", "unpin", "if", "else", "end", "repeat", "proc", "do", "minor", "rings", "begin", "slice", "compact", "finalize", "settle"] : List Str) := rfl
    rw [e]
    decide +kernel
  exact all z h
theorem blk_no {z : Str} (h : z ∈ blkL) : nameB z = false ∧ 46 ∉ TL.tl z := by
  have all : ∀ z ∈ blkL, nameB z = false ∧ 46 ∉ TL.tl z := by decide +kernel
  exact all z h
theorem store_no {z : Str} {us : List Str} (h : z ∈ blkL) : ¬ gStore (z :: us) := by
  obtain ⟨h1, h2⟩ := blk_no h
  rintro (⟨p, a, e, ⟨o, m, _, e2⟩, _⟩ | ⟨o, t, a, e, h3, _⟩)
  · cases e
    exact h2 (by rw [e2]; simp)
  · cases e
    rw [h1] at h3
    cases h3
/-- what is none of the simple rows and no row of a block is a store or nothing -/
theorem stat_store {z : Str} {us : List Str} (n1 : z ∉ bareL) (n2 : z ∉ numL4) (n3 : z ∉ nmL) (n4 : ¬ z = "say") (n5 : ¬ z = "let") (nb : ¬ gBlockW (z :: us)) : gStat (z :: us) ↔ gStore (z :: us) := by
  by_cases k : z ∈ formTab.map (·.1)
  · have b : z ∈ blkL := by
      rcases keys_are k with h | h | h | h | h | h
      · exact absurd h n1
      · exact absurd h n2
      · exact absurd h n3
      · exact absurd h n4
      · exact absurd h n5
      · exact h
    refine ⟨fun s => absurd ?_ nb, fun s => absurd s (store_no b)⟩
    refine ⟨z, us, rfl, ?_⟩
    simp only [List.mem_cons, List.not_mem_nil, or_false] at b
    obtain ⟨l1, l2, l3, l4, l5, l6, _, _⟩ := blk_at
    rcases b with rfl | rfl | rfl | rfl | rfl | rfl
    · exact .inl ⟨rfl, (look_some l1).mp s⟩
    · exact .inr (.inl ⟨rfl, (look_some l2).mp s⟩)
    · exact .inr (.inr (.inl ⟨rfl, (look_some l3).mp s⟩))
    · exact .inr (.inr (.inr (.inl ⟨rfl, (look_some l4).mp s⟩)))
    · exact .inr (.inr (.inr (.inr ⟨.inl rfl, (look_some l5).mp s⟩)))
    · exact .inr (.inr (.inr (.inr ⟨.inr rfl, (look_some l6).mp s⟩)))
  · exact look_none (no_look _ k)
theorem block_stat {z : Str} {us : List Str} (h : gBlockW (z :: us)) : gStat (z :: us) := by
  obtain ⟨l1, l2, l3, l4, l5, l6, _, _⟩ := blk_at
  obtain ⟨v, r, e, ⟨rfl, g⟩ | ⟨rfl, g⟩ | ⟨rfl, g⟩ | ⟨rfl, g⟩ | ⟨rfl | rfl, g⟩⟩ := h
  all_goals obtain ⟨e1, e2⟩ := List.cons.inj e
  all_goals subst e1 e2
  · exact (look_some l1).mpr g
  · exact (look_some l2).mpr g
  · exact (look_some l3).mpr g
  · exact (look_some l4).mpr g
  · exact (look_some l5).mpr g
  · exact (look_some l6).mpr g
theorem asked_len {r : List Str} (h : AskedF r) : r.length ≠ 1 ∧ ∃ a q, r = a :: q ∧ q ≠ [] ∧ a ∉ madeL := by
  rcases h with ⟨w, rfl, _⟩ | ⟨w, u, rfl, h, _⟩
  · exact ⟨by simp, _, _, rfl, List.cons_ne_nil _ _, by decide +kernel⟩
  · refine ⟨by simp, _, _, rfl, List.cons_ne_nil _ _, fun m => ?_⟩
    have all : ∀ z ∈ madeL, nameB z = false := by decide +kernel
    rw [all w m] at h
    cases h
theorem say_is {v : Str} {r : List Str} : gSay (v :: r) ↔ gWorth r := by
  constructor
  · rintro (⟨v', a, e, h⟩ | ⟨v', r', e, _, h⟩)
    · cases e
      exact .inl ⟨a, rfl, h⟩
    · cases e
      exact .inr h
  · rintro (⟨a, rfl, h⟩ | h)
    · exact .inl ⟨v, a, rfl, h⟩
    · exact .inr ⟨v, r, rfl, (asked_len h).1, h⟩
theorem seven_num {k : Str} : k ∈ sizes7 ↔ NumW (TL.tl k) 6 := by
  constructor
  · intro h
    obtain ⟨m, e⟩ := seven_is k h
    exact ⟨m.val, by omega, by rw [e, TL.tl_num]⟩
  · rintro ⟨n, le, e⟩
    have all : ∀ m : Fin 7, Str.ofString (toString ((m.val : Nat) : Int)) ∈ sizes7 := by decide +kernel
    rw [str_num e]
    exact all ⟨n, by omega⟩
theorem let_is {v : Str} {r : List Str} : gLet (v :: r) ↔ ∃ (n z : Str) (q : List Str), r = n :: ("=" : Str) :: z :: q ∧ nameB n = true ∧ (gWorth (z :: q) ∨ gMadeW (z :: q)) := by
  constructor
  · rintro ⟨v', n, z, q, e, hn, h⟩
    obtain ⟨rfl, rfl⟩ := List.cons.inj e
    refine ⟨n, z, q, rfl, hn, ?_⟩
    rcases h with ⟨rfl, h⟩ | ⟨_, _, h⟩ | ⟨_, h⟩
    · exact .inl (.inl ⟨z, rfl, h⟩)
    · exact .inl (.inr h)
    · right
      rcases h with ⟨rfl, a, b, c, d, h, k, hh, hk, e2 | ⟨u, e2, lu⟩⟩ | ⟨rfl, a, b, c, d, h, o, e2, hh, no⟩ | ⟨rfl, a, b, c, d, h, e2, hh⟩
      · cases e2
        exact .inr (.inr ⟨h, k, hh, seven_num.mp hk, .inl rfl⟩)
      · cases e2
        exact .inr (.inr ⟨h, k, hh, seven_num.mp hk, .inr ⟨u, rfl, lu⟩⟩)
      · cases e2
        exact .inr (.inl ⟨h, o, hh, rfl, no⟩)
      · cases e2
        exact .inl ⟨h, hh, rfl⟩
  · rintro ⟨n, z, q, rfl, hn, h⟩
    refine ⟨v, n, z, q, rfl, hn, ?_⟩
    rcases h with (⟨a, e, h⟩ | h) | h
    · cases e
      exact .inl ⟨rfl, h⟩
    · obtain ⟨_, a, q', e, h1, h2⟩ := asked_len h
      cases e
      exact .inr (.inl ⟨h1, h2, h⟩)
    · right
      right
      rcases h with ⟨h, hh, e⟩ | ⟨h, o, hh, e, no⟩ | ⟨h, k, hh, nk, e | ⟨u, e, lu⟩⟩
      · cases e
        exact ⟨List.cons_ne_nil _ _, .inr (.inr ⟨rfl, _, _, _, _, h, rfl, hh⟩)⟩
      · cases e
        exact ⟨List.cons_ne_nil _ _, .inr (.inl ⟨rfl, _, _, _, _, h, o, rfl, hh, no⟩)⟩
      · cases e
        exact ⟨List.cons_ne_nil _ _, .inl ⟨rfl, _, _, _, _, h, k, hh, seven_num.mpr nk, .inl rfl⟩⟩
      · cases e
        exact ⟨List.cons_ne_nil _ _, .inl ⟨rfl, _, _, _, _, h, k, hh, seven_num.mpr nk, .inr ⟨u, rfl, lu⟩⟩⟩
end Qw
/-! the law's own words: a row -/
namespace Qw
open PySem PySem.Spec PyProof.Rows L2 Evl Gd Sn
abbrev sLRow : Stmt := topS 56
abbrev nLRow : List Str := ["_law_row", "_law_words", "_law_first", "_law_rest"]
theorem scLRow : FnScope nLRow ["_law_row"] (defScope sLRow) := ⟨rfl, rfl, rfl, by decide +kernel, rfl, by decide +kernel, by decide +kernel⟩
def spLRow : Sp := fun vs H Q _ => ∃ w : Str, vs = [.str w] ∧ Wd w ∧ ∀ H' (b : Bool), Ex H H' → (b = true ↔ gLine w) → Q (.bl b) H'
theorem pair_ne {K : PySem.W.Frag} {σ : L2.St} {H : Hp} {i : Nat} {l : Addr} {ws : List Str} {k1 k2 : Nat} {a b c d : Str} (e : σ[i]? = some (some (.ref l))) (h : Ws H l ws) (g1 : ws[k1]? = some a) (g2 : ws[k2]? = some b) :
    Says σ H (tOp (rNeW K) (tLst (tCons (tIxW K i k1) (tCons (tIxW K i k2) tNil))) (tLst (tCons (tC (.str c)) (tCons (tC (.str d)) tNil)))) (¬ (a = c ∧ b = d)) := fun Q q =>
  op_of (lst_of (c_of (ixk_of e h.at_ (k := k1) (by rw [List.getElem?_map, g1]; rfl) (c_of (ixk_of e h.at_ (k := k2) (by rw [List.getElem?_map, g2]; rfl) (n_of ⟨two_le, fun p hp => lst_of (c_of (k_of (c_of (k_of (n_of ⟨two_le, fun p2 hp2 => ⟨p, p2, [a, b], [c, d], rfl, rfl, sq_of ((Ex.new hp2) _ _ upd_same), sq_of upd_same, q _ _ ((Ex.new hp).trans (Ex.new hp2)) (nb_iff.trans ⟨fun z y => z (by rw [y.1, y.2]), fun z y => z (by cases y; exact ⟨rfl, rfl⟩)⟩)⟩⟩)))))⟩))))))
section
variable {P : Program} {w : World} {K : PySem.W.Frag} {mg : Str → Option Value} {base : Heap}
theorem ok_lrow {f fN fU fV fS fW fM fB : Addr} {fd fdN fdU fdV fdS fdW fdM fdB : FuncData} (F : Fun K "_law_is_row" "_law_is_row" sLRow f fd) (FN : Fun K "_law_is_name" "_law_is_name" sLName fN fdN) (FU : Fun K "_law_is_number" "_law_is_number" sLNum fU fdU) (FV : Fun K "_law_is_value" "_law_is_value" sLVal fV fdV) (FS : Fun K "_law_is_spot" "_law_is_spot" sLSpot fS fdS) (FW : Fun K "_law_is_worth" "_law_is_worth" sLWorth fW fdW) (FM : Fun K "_law_is_made" "_law_is_made" sLMade fM fdM) (FB : Fun K "_law_is_block" "_law_is_block" sLBlock fB fdB)
    (bN : Binds K fdN ["_law_word"] []) (bU : Binds K fdU ["_law_word", "_law_most"] []) (bV : Binds K fdV ["_law_word"] []) (bS : Binds K fdS ["_law_word"] []) (bW : Binds K fdW ["_law_words"] []) (bM : Binds K fdM ["_law_words"] []) (bB : Binds K fdB ["_law_words"] [])
    (gN : mg "_law_is_name" = some (.ref fN)) (gU : mg "_law_is_number" = some (.ref fU)) (gV : mg "_law_is_value" = some (.ref fV)) (gS : mg "_law_is_spot" = some (.ref fS)) (gW : mg "_law_is_worth" = some (.ref fW)) (gM : mg "_law_is_made" = some (.ref fM)) (gB : mg "_law_is_block" = some (.ref fB)) (mL : mg "len" = none)
    (GN' : FnOk P w K mg base CX0 2 fN fdN ["_law_word"] spLName) (GU' : FnOk P w K mg base CX0 1 fU fdU ["_law_word", "_law_most"] spLNum) (GV' : FnOk P w K mg base CX0 3 fV fdV ["_law_word"] spLVal) (GS' : FnOk P w K mg base CX0 3 fS fdS ["_law_word"] spLSpot) (GW : FnOk P w K mg base CX0 4 fW fdW ["_law_words"] (spB gWorth)) (GM : FnOk P w K mg base CX0 4 fM fdM ["_law_words"] (spB gMadeW)) (GB : FnOk P w K mg base CX0 4 fB fdB ["_law_words"] (spB1 gBlockW)) : FnOk P w K mg base CX0 5 f fd ["_law_row"] spLRow := by
  have GN : FnOk P w K mg base CX0 4 fN fdN ["_law_word"] spLName := GN'.mono (by decide)
  have GU : FnOk P w K mg base CX0 4 fU fdU ["_law_word", "_law_most"] spLNum := GU'.mono (by decide)
  have GV : FnOk P w K mg base CX0 4 fV fdV ["_law_word"] spLVal := GV'.mono (by decide)
  have GS : FnOk P w K mg base CX0 4 fS fdS ["_law_word"] spLSpot := GS'.mono (by decide)
  refine F.ok scLRow (fun vs H Q E h => ?_) (fun cdv A outer s H vs Q E hr h => ?_)
  · obtain ⟨w', rfl, _⟩ := h
    rfl
  · obtain ⟨w', rfl, wd, q⟩ := h
    refine ⟨_, pss_cons (ps_set (i := 1) scLRow.nd rfl (.inl rfl) (pe_split (pv 0) pe_str)) <|
      pss_cons (ps_par (i := 2) (j := 3) rfl scLRow.nd rfl rfl (by decide) rfl rfl (pa_cons (pe_ix ix_list (pv 1) pe_int (fun _ _ => rfl)) <| pa_cons (pe_slice sl_list (pv 1) (po_some pe_int) po_none) pa_nil) (by rfl)) <|
      pss_cons (ps_if (pt_cmpR op_in_seq (pv 2) (pe_tup (pa_cons pe_str <| pa_cons pe_str <| pa_cons pe_str <| pa_cons pe_str pa_nil)) (by rfl)) (pss_one (ps_ret (pe_cmpR (op_eqW hr.units) (pv 3) (pe_lst pa_nil) (nomark _)))) pss_nil) <|
      pss_cons (ps_if (pt_cmpR op_in_seq (pv 2) (pe_tup (pa_cons pe_str <| pa_cons pe_str <| pa_cons pe_str pa_nil)) (by rfl)) (pss_one (ps_ret (pe_and (pe_cmpR op_eq (pe_callB call_len_seq (by rfl) mL PySem.boot_len (pa_cons (pv 3) pa_nil)) pe_int (nomark _)) (pe_one (pe_call GU hr (by rfl) gU FU.kp bU .nil pass0 (pa_cons (pe_ix ix_list (pv 3) pe_int (fun _ _ => rfl)) <| pa_cons pe_int pa_nil)))))) pss_nil) <|
      pss_cons (ps_if (pt_cmpR op_in_seq (pv 2) (pe_tup (pa_cons pe_str <| pa_cons pe_str <| pa_cons pe_str <| pa_cons pe_str <| pa_cons pe_str pa_nil)) (by rfl)) (pss_one (ps_ret (pe_and (pe_cmpR op_eq (pe_callB call_len_seq (by rfl) mL PySem.boot_len (pa_cons (pv 3) pa_nil)) pe_int (nomark _)) (pe_one (pe_call GN hr (by rfl) gN FN.kp bN .nil pass0 (pa_cons (pe_ix ix_list (pv 3) pe_int (fun _ _ => rfl)) pa_nil)))))) pss_nil) <|
      pss_cons (ps_if (pt_cmpR op_eq (pv 2) pe_str (nomark _)) (pss_one (ps_ret (pe_call GW hr (by rfl) gW FW.kp bW .nil pass0 (pa_cons (pv 3) pa_nil)))) pss_nil) <|
      pss_cons (ps_if (pt_cmpR op_eq (pv 2) pe_str (nomark _))
        (pss_cons (ps_if (pw_or (pt_cmpR op_lt (pe_callB call_len_seq (by rfl) mL PySem.boot_len (pa_cons (pv 3) pa_nil)) pe_int (nomark _)) (pw_or (pt_not (pt_val (pe_call GN hr (by rfl) gN FN.kp bN .nil pass0 (pa_cons (pe_ix ix_list (pv 3) pe_int (fun _ _ => rfl)) pa_nil)))) (pw_or1 (pt_cmpR op_ne (pe_ix ix_list (pv 3) pe_int (fun _ _ => rfl)) pe_str (nomark _))))).pt (pss_one (ps_ret pe_bl)) pss_nil) <|
         pss_one (ps_ret (pe_or (pe_call GW hr (by rfl) gW FW.kp bW .nil pass0 (pa_cons (pe_slice sl_list (pv 3) (po_some pe_int) po_none) pa_nil)) (pe_one (pe_call GM hr (by rfl) gM FM.kp bM .nil pass0 (pa_cons (pe_slice sl_list (pv 3) (po_some pe_int) po_none) pa_nil)))))) pss_nil) <|
      pss_cons (ps_if (pt_val (pe_call GB hr (by rfl) gB FB.kp bB .nil pass0 (pa_cons (pv 1) pa_nil))) (pss_one (ps_ret pe_bl)) pss_nil) <|
      pss_cons (ps_if (pw_and (pt_cmpR op_eq (pe_callB call_len_seq (by rfl) mL PySem.boot_len (pa_cons (pv 1) pa_nil)) pe_int (nomark _)) (pw_and1 (pt_cmpR op_eq (pe_ix ix_list (pv 1) pe_int (fun _ _ => rfl)) pe_str (nomark _)))).pt (pss_one (ps_ret (pe_and (pe_call GS hr (by rfl) gS FS.kp bS .nil pass0 (pa_cons (pv 2) pa_nil)) (pe_one (pe_call GV hr (by rfl) gV FV.kp bV .nil pass0 (pa_cons (pe_ix ix_list (pv 1) pe_int (fun _ _ => rfl)) pa_nil)))))) pss_nil) <|
      pss_cons (ps_if (pw_or (pt_cmpR op_ne (pe_callB call_len_seq (by rfl) mL PySem.boot_len (pa_cons (pv 1) pa_nil)) pe_int (nomark _)) (pw_or1 (pt_cmpR (op_neW hr.units) (pe_lst (pa_cons (pe_ix ix_list (pv 1) pe_int (fun _ _ => rfl)) <| pa_cons (pe_ix ix_list (pv 1) pe_int (fun _ _ => rfl)) pa_nil)) (pe_lst (pa_cons pe_str <| pa_cons pe_str pa_nil)) (nomark _)))).pt (pss_one (ps_ret pe_bl)) pss_nil) <|
      pss_one (ps_ret (pe_and (pe_call GN hr (by rfl) gN FN.kp bN .nil pass0 (pa_cons (pv 2) pa_nil)) (pe_and (pe_call GN hr (by rfl) gN FN.kp bN .nil pass0 (pa_cons (pe_ix ix_list (pv 1) pe_int (fun _ _ => rfl)) pa_nil)) (pe_one (pe_call GV hr (by rfl) gV FV.kp bV .nil pass0 (pa_cons (pe_ix ix_list (pv 1) pe_int (fun _ _ => rfl)) pa_nil)))))), ?_⟩
    have few := wd.few
    obtain ⟨s1, s2, s3⟩ := split_wd (w := w') (b := " ") (c := 32) (by decide +kernel) (by decide) wd
    have q : ∀ H' (b : Bool), Ex H H' → (b = true ↔ gStat (Txt.split w' " ")) → Q (.bl b) H' := q
    refine seq_of (asg_of (m1_of (v_of rfl ⟨⟨_, rfl⟩, k_of ⟨_, _, rfl, rfl, by decide +kernel, by rw [sizeLine_eq]; omega, fun p hp => ?_⟩⟩)))
    have x0 : Ex H (upd H p (.lst ((Txt.split w' " ").map V.str))) := Ex.new hp
    have hws : Ws (upd H p (.lst ((Txt.split w' " ").map V.str))) p (Txt.split w' " ") := ⟨upd_same, fun u hu => (s3 u hu).1, by omega⟩
    generalize upd H p (.lst ((Txt.split w' " ").map V.str)) = H0 at x0 hws ⊢
    generalize Txt.split w' " " = ws at s1 hws q ⊢
    match ws, s1 with
    | v :: r, _ =>
    dsimp only
    refine seq_of (par_of (c_of (ixk_of rfl hws.at_ (k := 0) rfl (c_of ((gives_tl (gives_var rfl hws)) _ fun H1 pr y1 hr1 => n_of ⟨_, _, rfl, ?_⟩)))))
    have x1 := x0.trans y1
    have w1 := hws.ex y1
    have wv := hws.wd v List.mem_cons_self
    have ln : ((v :: r).length : Int) = r.length + 1 := by rw [List.length_cons]; omega
    dsimp only
    refine seq_of (SaysT.ifS (Says.test (in_texts (zs := bareL) rfl (fun Q' q' => c_of (k_of (c_of (k_of (c_of (k_of (c_of (k_of (n_of q'))))))))) (by decide))) (fun H2 x2 a => ?_) fun H2 x2 n1 => ?_)
    · refine Says.ret (says_nil (gives_var rfl (hr1.ex x2))) fun H3 b x3 hb => q H3 b ((x1.trans x2).trans x3) (hb.trans ?_)
      refine Iff.trans ?_ (look_some (bare_at a)).symm
      exact ⟨fun e => ⟨v, by rw [e]⟩, fun ⟨v', e⟩ => by cases e; rfl⟩
    dsimp only [tNext]
    have w2 := w1.ex x2
    have r2 := hr1.ex x2
    have x02 := x1.trans x2
    refine seq_of (SaysT.ifS (Says.test (in_texts (zs := numL4) rfl (fun Q' q' => c_of (k_of (c_of (k_of (c_of (k_of (n_of q'))))))) (by decide))) (fun H3 x3 a => ?_) fun H3 x3 n2 => ?_)
    · refine Says.ret (A := r.length = 1 ∧ (∀ b, r[0]? = some b → NumW (TL.tl b) 10000)) (.and ((len_eq rfl (r2.ex x3)).imp (by omega)) fun H4 x4 l3 => ?_) fun H4 b x4 hb => q H4 b ((x02.trans x3).trans x4) (hb.trans ?_)
      · match r, l3 with
        | [a], _ => exact (num_call (k := 0) (m := 10000) rfl ((r2.ex x3).ex x4) rfl (by decide)).imp ⟨fun z _ e => (by cases e; exact z), fun z => z _ rfl⟩
      · refine Iff.trans ?_ (look_some (num_at a)).symm
        constructor
        · rintro ⟨l3, h1⟩
          match r, l3 with
          | [a], _ => exact ⟨_, _, rfl, h1 a rfl⟩
        · rintro ⟨_, a, e2, h⟩
          cases e2
          exact ⟨rfl, fun _ e => (by cases e; exact h)⟩
    dsimp only [tNext]
    have w3 := w2.ex x3
    have r3 := r2.ex x3
    have x03 := x02.trans x3
    refine seq_of (SaysT.ifS (Says.test (in_texts (zs := nmL) rfl (fun Q' q' => c_of (k_of (c_of (k_of (c_of (k_of (c_of (k_of (c_of (k_of (n_of q'))))))))))) (by decide))) (fun H4 x4 a => ?_) fun H4 x4 n3 => ?_)
    · refine Says.ret (A := r.length = 1 ∧ (∀ b, r[0]? = some b → nameB b = true)) (.and ((len_eq rfl (r3.ex x4)).imp (by omega)) fun H5 x5 l3 => ?_) fun H5 b x5 hb => q H5 b ((x03.trans x4).trans x5) (hb.trans ?_)
      · match r, l3 with
        | [a], _ => exact (word_call (k := 0) rfl ((r3.ex x4).ex x5) rfl name_s).imp ⟨fun z _ e => (by cases e; exact z), fun z => z _ rfl⟩
      · refine Iff.trans ?_ (look_some (nm_at a)).symm
        constructor
        · rintro ⟨l3, h1⟩
          match r, l3 with
          | [a], _ => exact ⟨_, _, rfl, h1 a rfl⟩
        · rintro ⟨_, a, e2, h⟩
          cases e2
          exact ⟨rfl, fun _ e => (by cases e; exact h)⟩
    dsimp only [tNext]
    have w4 := w3.ex x4
    have r4 := r3.ex x4
    have x04 := x03.trans x4
    refine seq_of (SaysT.ifS (Says.test (var_eq rfl)) (fun H5 x5 a => ?_) fun H5 x5 n4 => ?_)
    · subst a
      exact Says.ret (says_B (gives_var rfl (r4.ex x5))) fun H6 b x6 hb => q H6 b ((x04.trans x5).trans x6) (hb.trans (say_is.symm.trans (look_some blk_at.2.2.2.2.2.2.1).symm))
    dsimp only [tNext]
    have w5 := w4.ex x5
    have r5 := r4.ex x5
    have x05 := x04.trans x5
    refine seq_of (SaysT.ifS (Says.test (var_eq rfl)) (fun H6 x6 a => ?_) fun H6 x6 n5 => ?_)
    · subst a
      have r6 := r5.ex x6
      have ls : gStat ("let" :: r) ↔ gLet ("let" :: r) := look_some blk_at.2.2.2.2.2.2.2
      have at0 : ∀ {k : Nat}, ¬ (r.length : Int) < 3 → k < 3 → ∃ n, r[k]? = some n := fun nl h => ⟨_, List.getElem?_eq_getElem (by omega)⟩
      refine seq_of (SaysT.ifS (A := (r.length : Int) < 3 ∨ (¬ ∀ n, r[0]? = some n → nameB n = true) ∨ ¬ ∀ e : Str, r[1]? = some e → e = "=") (.or (Says.test (len_lt rfl r6)) fun H7 x7 nl => .or (SaysT.not (Says.val ?_)) fun H8 x8 nn => ?_) (fun H7 x7 a => ?_) fun H7 x7 a => ?_)
      · obtain ⟨n, hn⟩ := at0 (k := 0) nl (by decide)
        exact (word_call (k := 0) rfl (r6.ex x7) hn name_s).imp ⟨fun z n' e => (by rw [hn] at e; cases e; exact z), fun z => z n hn⟩
      · obtain ⟨n, hn⟩ := at0 (k := 1) nl (by decide)
        exact SaysT.imp (Says.test (word_ne (k := 1) rfl ((r6.ex x7).ex x8) hn)) ⟨fun z h => z (h n hn), fun z h => z fun e he => (by rw [hn] at he; cases he; exact h)⟩
      · refine ret_of (k_of (q H7 false ((x05.trans x6).trans x7) (f_iff fun s => ?_)))
        obtain ⟨n, z, g, rfl, hn, _⟩ := let_is.mp (ls.mp s)
        rcases a with a | a | a
        · rw [List.length_cons, List.length_cons, List.length_cons] at a
          omega
        · exact a fun n' e => by cases e; exact hn
        · exact a fun n' e => by cases e; rfl
      dsimp only [tNext]
      obtain ⟨a1, a⟩ := not_or.mp a
      obtain ⟨a2, a3⟩ := not_or.mp a
      have a2 := Classical.not_not.mp a2
      have a3 := Classical.not_not.mp a3
      match r, a1 with
      | [], a1 => exact absurd (show ((0 : Nat) : Int) < 3 by decide) a1
      | [_], a1 => exact absurd (show ((1 : Nat) : Int) < 3 by decide) a1
      | [_, _], a1 => exact absurd (show ((2 : Nat) : Int) < 3 by decide) a1
      | n :: e :: z :: g, _ =>
        have nn := a2 n rfl
        obtain rfl := a3 e rfl
        refine Says.ret (.or (says_B (gives_tl2 (gives_var rfl (r6.ex x7)))) fun H8 x8 _ => says_B (gives_tl2 (gives_var rfl ((r6.ex x7).ex x8)))) fun H8 b x8 hb => q H8 b (((x05.trans x6).trans x7).trans x8) (hb.trans (Iff.trans ?_ (let_is.symm.trans ls.symm)))
        exact ⟨fun h => ⟨n, z, g, rfl, nn, h⟩, fun ⟨_, _, _, e, _, h⟩ => by cases e; exact h⟩
    dsimp only [tNext]
    have w6 := w5.ex x6
    have x06 := x05.trans x6
    refine seq_of (SaysT.ifS (Says.val (says_B1 (List.cons_ne_nil _ _) (gives_var rfl w6))) (fun H7 x7 a => ?_) fun H7 x7 nb => ?_)
    · exact ret_of (k_of (q H7 true (x06.trans x7) (t_iff (block_stat a))))
    dsimp only [tNext]
    have w7 := w6.ex x7
    have x07 := x06.trans x7
    have st := stat_store n1 n2 n3 n4 n5 nb
    have q : ∀ H' (b : Bool), Ex H H' → (b = true ↔ gStore (v :: r)) → Q (.bl b) H' := fun H' b e h => q H' b e (h.trans st.symm)
    refine seq_of (SaysT.ifS (A := r.length = 2 ∧ ∀ e : Str, r[0]? = some e → e = "=") (.and (SaysT.imp (Says.test (len_eq rfl w7)) (by omega)) fun H8 x8 l2 => ?_) (fun H8 x8 a => ?_) fun H8 x8 a => ?_)
    · match r, l2 with
      | [e, c], _ => exact SaysT.imp (Says.test (word_eq (k := 1) rfl (w7.ex x8) rfl)) ⟨fun z _ e => (by cases e; exact z), fun z => z _ rfl⟩
    · obtain ⟨l2, h⟩ := a
      match r, l2 with
      | [e, c], _ =>
        obtain rfl := h e rfl
        refine Says.ret (.and (var_call rfl (spot_s wv)) fun H9 x9 sl => word_call (k := 2) rfl ((w7.ex x8).ex x9) rfl val_s) fun H9 b x9 hb => q H9 b ((x07.trans x8).trans x9) (hb.trans ⟨fun z => .inl ⟨_, _, rfl, z⟩, ?_⟩)
        rintro (⟨_, _, e, h⟩ | ⟨_, _, _, e, _⟩)
        · cases e
          exact h
        · cases e
    dsimp only [tNext]
    have w8 := w7.ex x8
    have x08 := x07.trans x8
    refine seq_of (SaysT.ifS (A := ¬ r.length = 4 ∨ ¬ ∀ b d : Str, r[0]? = some b → r[2]? = some d → b = "at" ∧ d = "=") (.or (SaysT.imp (Says.test (len_ne rfl w8)) (by omega)) fun H9 x9 l4 => ?_) (fun H9 x9 a => ?_) fun H9 x9 c => ?_)
    · match r, Classical.not_not.mp l4 with
      | [b, c, d, e], _ => exact SaysT.imp (Says.test (pair_ne (k1 := 1) (k2 := 3) rfl (w8.ex x9) rfl rfl)) ⟨fun z y => z (y b d rfl rfl), fun z y => z fun b' d' e1 e2 => (by cases e1; cases e2; exact y)⟩
    · refine ret_of (k_of (q H9 false (x08.trans x9) (f_iff fun s => ?_)))
      rcases s with ⟨p, b, e, h⟩ | ⟨o, t, c, e, h⟩
      · cases e
        rename_i a0
        exact a0 ⟨rfl, fun e he => by cases he; rfl⟩
      · cases e
        rcases a with a | a
        · exact a rfl
        · exact a fun b d e1 e2 => by cases e1; cases e2; exact ⟨rfl, rfl⟩
    dsimp only [tNext]
    obtain ⟨c1, c2⟩ := not_or.mp c
    have c1 := Classical.not_not.mp c1
    have c2 := Classical.not_not.mp c2
    match r, c1 with
    | [b, t, d, e], _ =>
      obtain ⟨rfl, rfl⟩ := c2 b d rfl rfl
      have w9 := w8.ex x9
      refine Says.ret (.and (var_call rfl (name_s wv)) fun H10 x10 _ => .and (word_call (k := 2) rfl (w9.ex x10) rfl name_s) fun H11 x11 _ => word_call (k := 4) rfl ((w9.ex x10).ex x11) rfl val_s) fun H10 b x10 hb => q H10 b ((x08.trans x9).trans x10) (hb.trans ⟨fun z => .inr ⟨_, _, _, rfl, z⟩, ?_⟩)
      rintro (⟨_, _, e, h⟩ | ⟨_, _, _, e, h⟩)
      · cases e
      · cases e
        exact h
end
end Qw
/-! _law_due of any value -/
namespace Qw
open PySem PySem.Spec PyProof.Rows L2 Evl Gd Sn
abbrev sDue : Stmt := topS 59
abbrev nDue : List Str := ["_law_value", "_law_rows", "_law_at", "_law_row"]
theorem scDue : FnScope nDue ["_law_value"] (defScope sDue) := ⟨rfl, rfl, rfl, by decide +kernel, rfl, by decide +kernel, by decide +kernel⟩
/-- what is asked of a value -/
def DueIs (e r : PyData) : Prop := (isStr e = false ∧ r = .tuple [.str "bad", .int 0]) ∨ (∃ z, e = .str z ∧ (∀ u ∈ linesOf z, gLine u) ∧ r = .tuple [.str "rows", .tuple ((linesOf z).map dLine)]) ∨
  ∃ (z : Str) (i : Nat) (u : Str), e = .str z ∧ (linesOf z)[i]? = some u ∧ ¬ gLine u ∧ (∀ (j : Nat) u', j < i → (linesOf z)[j]? = some u' → gLine u') ∧ r = .tuple [.str "bad", .int i]
theorem due_one {e r r' : PyData} (h : DueIs e r) (g : DueIs e r') : r = r' := by
  rcases h with ⟨h1, rfl⟩ | ⟨z, rfl, h1, rfl⟩ | ⟨z, i, u, rfl, h1, h2, h3, rfl⟩
  · rcases g with ⟨g1, rfl⟩ | ⟨z, rfl, g1, rfl⟩ | ⟨z, i, u, rfl, g1, g2, g3, rfl⟩
    · rfl
    · cases h1
    · cases h1
  · rcases g with ⟨g1, rfl⟩ | ⟨z', e, g1, rfl⟩ | ⟨z', i, u, e, g1, g2, g3, rfl⟩
    · cases g1
    · cases e
      rfl
    · cases e
      exact absurd (h1 u (List.mem_of_getElem? g1)) g2
  · rcases g with ⟨g1, rfl⟩ | ⟨z', e, g1, rfl⟩ | ⟨z', i', u', e, g1, g2, g3, rfl⟩
    · cases g1
    · cases e
      exact absurd (g1 u (List.mem_of_getElem? h1)) h2
    · cases e
      have : i = i' := by
        rcases Nat.lt_trichotomy i i' with c | c | c
        · exact absurd (g3 i u c h1) h2
        · exact c
        · exact absurd (h3 i' u' c g1) g2
      rw [this]
/-- any value: exactly what is due -/
def spDue (K : PySem.W.Frag) : Sp := fun vs H Q _ => ∃ (D : Addr → Prop) (x : V) (e : PyData), vs = [x] ∧ Av K D H x e ∧ (∀ z, e = .str z → Wd z) ∧ ∀ (H' : Hp) (t : Addr) (r : PyData), Ex H H' → DueIs e r → Td K H' (.ref t) r → Q (.ref t) H'
/-- the rows of a text, or none -/
theorem rows_of {σ : L2.St} {H : Hp} {Q : VK} {z : Str} {i : Nat} (e : σ[i]? = some (some (.str z))) (wz : Wd z) (q : ∀ H2 p, Ex H H2 → H2 p = some (.lst ((linesOf z).map V.str)) → (linesOf z).length ≤ 99001 → (∀ u ∈ linesOf z, Wd u) → Q (.ref p) H2) :
    tIf (tTest (tOp rNe (tVar i) (tC (.str "")))) (tM1 (fun x xs H Q => ∃ a b, x = .str a ∧ xs = [.str b] ∧ (b.length == 0) = false ∧ a.length + 2 ≤ sizeLine ∧ rNewStrs (Txt.split a b) H Q) (tVar i) (tC (.str "\n"))) (tLst tNil) σ H Q := by
  have fz := wz.few
  refine if_of (test_of (op_of (v_of e (k_of ⟨rfl, _, rfl, ?_⟩))))
  rw [str_eq]
  by_cases zn : z = ""
  · have lo : linesOf z = [] := if_pos zn
    rw [decide_eq_true zn, if_neg (show ¬ (!true) = true from Bool.false_ne_true)]
    rw [lo] at q
    exact lst_of (n_of ⟨Nat.zero_le _, fun p hp => q _ p (Ex.new hp) upd_same (Nat.zero_le _) fun u hu => nomatch hu⟩)
  · have lo : linesOf z = Txt.split z "\n" := if_neg zn
    rw [decide_eq_false zn, if_pos (show (!false) = true from rfl)]
    rw [lo] at q
    obtain ⟨s1, s2, s3⟩ := split_wd (w := z) (b := "\n") (c := 10) (by decide +kernel) (by decide) wz
    exact m1_of (v_of e ⟨⟨_, rfl⟩, k_of ⟨_, _, rfl, rfl, by decide +kernel, by rw [sizeLine_eq]; omega, fun p hp => q _ p (Ex.new hp) upd_same (by omega) fun u hu => (s3 u hu).1⟩⟩)
section
variable {P : Program} {w : World} {K : PySem.W.Frag} {mg : Str → Option Value} {base : Heap}
theorem ok_due {f fR : Addr} {fd fdR : FuncData} (F : Fun K "_law_due" "_law_due" sDue f fd) (FR : Fun K "_law_is_row" "_law_is_row" sLRow fR fdR) (bR : Binds K fdR ["_law_row"] []) (gR : mg "_law_is_row" = some (.ref fR)) (mI : mg "isinstance" = none) (mS : mg "str" = none) (mE : mg "enumerate" = none) (mT : mg "tuple" = none)
    (GR : FnOk P w K mg base CX0 5 fR fdR ["_law_row"] spLRow) : FnOk P w K mg base CX0 6 f fd ["_law_value"] (spDue K) := by
  refine F.ok scDue (fun vs H Q E h => ?_) (fun cdv A outer s H vs Q E hr h => ?_)
  · obtain ⟨D, x, e, rfl, _⟩ := h
    rfl
  · obtain ⟨D, x, e, rfl, av, wd, q⟩ := h
    refine ⟨_, pss_cons (ps_if (pt_not (pt_val (pe_callB call_isi (by rfl) mI (by decide +kernel) (pa_cons (pv 0) (pa_cons (pe_bltn (v := .ty "str") (by rfl) mS (by decide +kernel) rfl) pa_nil))))) (pss_one (ps_ret (pe_tup (pa_cons pe_str <| pa_cons pe_int pa_nil)))) pss_nil) <|
      pss_cons (ps_set (i := 1) scDue.nd rfl (.inl rfl) (pe_ifExp (pt_cmpR op_ne (pv 0) pe_str (nomark _)) (pe_split (pv 0) pe_str) (pe_lst pa_nil))) <|
      pss_cons (ps_for PassesOwn.never rfl (pi_enum (by rfl) mE (pa_cons (pv 1) pa_nil)) (pg_tup (n := 2) rfl (pgs_cons (pg_name (i := 2) scDue.nd rfl (.inl rfl)) <| pgs_cons (pg_name (i := 3) scDue.nd rfl (.inl rfl)) pgs_nil))
        (pss_one (ps_if (pt_not (pt_val (pe_call GR hr (by rfl) gR FR.kp bR .nil pass0 (pa_cons (pv 3) pa_nil)))) (pss_one (ps_ret (pe_tup (pa_cons pe_str <| pa_cons (pv 2) pa_nil)))) pss_nil))) <|
      pss_one (ps_ret (pe_tup (pa_cons pe_str <| pa_cons (pe_callTy call_tuple_of (by rfl) mT (by decide +kernel) (pa_cons (pe_lc (own := [("_law_row", 3)]) (g := gName 3) (tt := tYes) (te := tCB (rTupOf K) (tCons (tM1 (fun x xs H Q => ∃ a b, x = .str a ∧ xs = [.str b] ∧ (b.length == 0) = false ∧ a.length + 2 ≤ sizeLine ∧ rNewStrs (Txt.split a b) H Q) (tVar 3) (tC (.str " "))) tNil)) rfl scDue.nd (pi_list (pv 1)) (blkOk_by (N := nDue) (sc := defScope sDue) (by decide +kernel))
        (fun _ _ _ _ _ => pg_name (i := 3) scDue.nd rfl (.inl rfl)) (fun _ _ _ _ _ => pts_nil) (fun _ _ _ _ _ => pe_callTy call_tuple_of (by rfl) mT (by decide +kernel) (pa_cons (pe_split (pv 3) pe_str) pa_nil))) pa_nil)) pa_nil))), ?_⟩
    refine seq_of (ifS_of (not_of (test_of (cb_of (c_of (v_of rfl (c_of (k_of (n_of ⟨x, .ty "str", _, _, isStr e, rfl, .ty "str", ty_av av, kit_ty (kit_str e), isStr e, rfl, ?_⟩)))))))))
    cases st : isStr e with
    | false =>
      rw [if_pos (show (!false) = true from rfl)]
      exact ret_of (tup_of (c_of (k_of (c_of (k_of (n_of ⟨two_le, fun p hp => q _ p _ (Ex.new hp) (.inl ⟨st, rfl⟩) (.tup (st_of upd_same) (.cons (.str _) (.cons (.int _) .nil)))⟩))))))
    | true =>
      rw [if_neg (show ¬ (!true) = true from Bool.false_ne_true)]
      obtain ⟨z, rfl⟩ : ∃ z, e = .str z := by cases e <;> first | exact ⟨_, rfl⟩ | cases st
      cases av
      have wz := wd z rfl
      have fz := wz.few
      dsimp only [tNext]
      refine seq_of (asg_of (rows_of rfl wz fun H2 p x2 h2 s2 s3 => ?_))
      dsimp only
      refine seq_of (for_of (c_of (v_of rfl (n_of ⟨p, _, rfl, sq_of h2, for_it (walk_enum (K := K) (a := p) (xs := (linesOf z).map V.str)) (fun i σ' H' => ∃ y2 y3, σ' = [some (.str z), some (.ref p), y2, y3] ∧ Ex H H' ∧ H' p = some (.lst ((linesOf z).map V.str)) ∧ ∀ (j : Nat) u', j < i → (linesOf z)[j]? = some u' → gLine u') ⟨none, none, rfl, x2, h2, fun j u' h => absurd h (Nat.not_lt_zero _)⟩ (fun i σ' H' _ ⟨_, _, _, _, h, _⟩ => sq_of h) ?_ ?_⟩))))
      · rintro i x σ' Hc Hd hi ⟨y2, y3, rfl, e, hp', before⟩ hy
        obtain ⟨T, u, v, rfl, hT, rfl, hu, hv⟩ := hy
        cases hu
        have hv : ((linesOf z).map V.str)[i]? = some v := hv
        rw [List.getElem?_map] at hv
        obtain ⟨ln, hl1, rfl⟩ := Option.map_eq_some_iff.mp hv
        have wl := s3 ln (List.mem_of_getElem? hl1)
        have e3 : Ex Hc (upd Hc T (.tup [.int i, .str ln])) := Ex.new hT
        refine ⟨T, _, rfl, st_of upd_same, rfl, .int i, _, rfl, .str ln, _, rfl, rfl, ?_⟩
        dsimp only [gName]
        generalize upd Hc T (.tup [.int i, .str ln]) = Ha at e3 ⊢
        refine SaysT.ifS (A := ¬ gLine ln) (SaysT.not (Says.val (var_call rfl fun Q' q' => ⟨ln, rfl, wl, q'⟩))) (fun Hb x4 bad => ?_) fun Hb x4 ok => ?_
        · exact ret_of (tup_of (c_of (k_of (c_of (v_of rfl (n_of ⟨two_le, fun t ht => q _ t _ (((e.trans e3).trans x4).trans (Ex.new ht)) (.inr (.inr ⟨z, i, ln, rfl, hl1, bad, before, rfl⟩)) (.tup (st_of upd_same) (.cons (.str _) (.cons (.int _) .nil)))⟩))))))
        · refine ⟨_, _, rfl, (e.trans e3).trans x4, (e3.trans x4) _ _ hp', fun j u' hj hju => ?_⟩
          by_cases c : j = i
          · rw [c, hl1] at hju
            cases hju
            exact Classical.not_not.mp ok
          · exact before j u' (by omega) hju
      · rintro σ' Hc ⟨y2, y3, rfl, e, hp', all⟩
        have ok : ∀ u ∈ linesOf z, gLine u := fun u hu => by
          obtain ⟨j, hj⟩ := List.mem_iff_getElem?.mp hu
          exact all j u (by rw [List.length_map]; exact (List.getElem?_eq_some_iff.mp hj).1) hj
        dsimp only
        refine ret_of (tup_of (c_of (k_of (c_of (cb_of (c_of (lc_of (iL_of (v_of rfl ⟨p, rfl, ⟨_, sq_of hp'⟩, fun D2 hD => ?_⟩)))))))))
        refine lc_list (xs := (linesOf z).map V.str) (fun i H' => Ex Hc H' ∧ ∃ us, H' D2 = some (.lst us) ∧ us.length = i ∧ TdAll K H' us (((linesOf z).take i).map dLine)) ⟨Ex.new hD, [], upd_same, rfl, .nil⟩ (fun i H' _ h => sq_of (h.1 _ _ hp')) ?_ ?_
        · rintro i x' H' hx ⟨e4, us, hd, ul, td⟩
          rw [List.getElem?_map] at hx
          obtain ⟨ln, hl1, rfl⟩ := Option.map_eq_some_iff.mp hx
          have wl := s3 ln (List.mem_of_getElem? hl1)
          have fl := wl.few
          have il : i < (linesOf z).length := (List.getElem?_eq_some_iff.mp hl1).1
          refine ⟨rfl, ?_⟩
          dsimp only [tYes]
          rw [if_pos rfl]
          refine cb_of (c_of (m1_of (v_of rfl ⟨⟨_, rfl⟩, k_of ⟨_, _, rfl, rfl, by decide +kernel, by rw [sizeLine_eq]; omega, fun p2 hp2 => n_of ⟨p2, _, rfl, .inl ⟨sq_of upd_same, fun t ht => ?_⟩⟩⟩⟩)))
          have x1 : Ex H' (upd H' p2 (.lst ((Txt.split ln " ").map V.str))) := Ex.new hp2
          generalize upd H' p2 (.lst ((Txt.split ln " ").map V.str)) = Ha at x1 ht ⊢
          have x2 : Ex Ha (upd Ha t (.tup ((Txt.split ln " ").map V.str))) := Ex.new ht
          have y2 : (upd Ha t (.tup ((Txt.split ln " ").map V.str))) t = some (.tup ((Txt.split ln " ").map V.str)) := upd_same
          generalize upd Ha t (.tup ((Txt.split ln " ").map V.str)) = Hb at x2 y2 ⊢
          have hdb := (x1.trans x2) _ _ hd
          refine ⟨us, hdb, sz_lt (by omega), Ex.mut (e4.trans (x1.trans x2)) hD, us ++ [.ref t], upd_same, by rw [List.length_append, ul]; rfl, ?_⟩
          have kt : KeepT K Hb (upd Hb D2 (.lst (us ++ [.ref t]))) := .lst hdb fun a o n h => by
            rw [upd_ne n]
            exact h
          rw [take_one hl1, List.map_append]
          have tr : Td K Hb (.ref t) (dLine ln) := .tup (st_of y2) (td_strs _)
          exact ((td.ex (x1.trans x2)).snoc tr).keep kt
        · rintro H3 ⟨e3, us, hd, ul, td⟩
          rw [List.length_map, List.take_length] at td
          refine n_of ⟨D2, us, rfl, .inl ⟨sq_of hd, fun t ht => n_of ⟨two_le, fun t2 ht2 => ?_⟩⟩⟩
          exact q _ t2 _ (((e.trans e3).trans (Ex.new ht)).trans (Ex.new ht2)) (.inr (.inl ⟨z, rfl, ok, rfl⟩)) (.tup (st_of upd_same) (.cons (.str _) (.cons (.tup (st_of ((Ex.new ht2) _ _ upd_same)) ((td.ex (Ex.new ht)).ex (Ex.new ht2))) .nil)))
end
end Qw
/-! a call of a def kept where no repr is under way, what it raises told at the slots -/
namespace Gd
open PySem PySem.Spec PyProof.Rows L2
section
variable {X : Cx} {k : Nat} {f : Addr} {fd : FuncData} {ps : List Str} {sp : Sp} {W : WX}
theorem runS {pins : List (Addr × Obj)} {σ : L2.St} {H : Hp} {s : Shared} {Q : VK} {us : List Value} {vs : List V} (F : FnG X.prog X.w X.K X.mg X.base (L2.CX X.prog X.w) k f fd ps sp) (room : Room k X.A) (gd : X.A.guards = some [])
    (bind : Binds X.K fd ps []) (tk : Takes X W) (I : Inv X pins σ H s) (rel : Vals vs us) (want : sp vs H Q (WE W σ)) :
    wpAny (model X.prog X.w) X.A (call (.ref f) us) (EP X pins σ Q) X.xe s := by
  have many : us.length = ps.length := rel.length.symm.trans (F.arity _ _ _ _ want)
  have b := bind s us I.kIn (by rw [List.append_nil]; exact many)
  rw [List.append_nil] at b
  refine wpAny_call (codeAny_mono (F.go X.A room gd X.stack s H ⟨us, []⟩ _ _ Q (WE W σ) I.env0 b rel want) ?_)
  intro r s2 post
  match r, post with
  | .error _, post => exact passAt tk σ _ _ _ _ _ I post
  | .ok (.ret _), post => exact I.after post
  | .ok .next, post => exact post.elim
  | .ok .brk, post => exact post.elim
  | .ok .cont, post => exact post.elim
theorem pe_callGS {x : Str} {p pos : Pos} {e : Expr} {es : List Expr} {t : TA} (F : FnG X.prog X.w X.K X.mg X.base (L2.CX X.prog X.w) k f fd ps sp) (room : Room k X.A) (gd : X.A.guards = some []) (isGl : Gl X x) (at_ : X.mg x = some (.ref f))
    (kept : PySem.W.keepIn X.K (.ref f) = true) (bind : Binds X.K fd ps []) (tk : Takes X W)
    (args : PA X (e :: es) t) (nodbg : (x == ("__debug__" : Str)) = false := by decide) (star : starEach (e :: es) X.env = (false, eval e X.env) :: starEach es X.env := by rfl) (plain : (backTo pos (starEach es X.env)).any (·.1) = false := by rfl) :
    PE X (.Call (.Name x p) (e :: es) [] pos) (tCallS sp (WE W) t) where
  run pins s σ H Q I want := by
    refine wpAny_Call_Name_kw (ld_glob I isGl at_ (PySem.W.callWith_K (h₀ := X.base) I.ok.mod.kin kept (thn (args.run pos pins s σ H _ I want) ?_) star plain) nodbg)
    rintro us s1 ⟨vs, H1, I1, rel, q⟩
    exact ⟨I1.kIn, runS F room gd bind tk I1 rel q⟩
theorem callS_of {E : L2.St → XK} {t : TA} {σ : L2.St} {H : Hp} {Q : VK} (h : t σ H fun vs H1 => sp vs H1 Q (E σ)) : tCallS sp E t σ H Q := h
/-- nothing is taken -/
theorem takesNo : Takes X (fun _ _ _ _ => False) := fun _ _ ⟨_, _, _, _, _, _, _, _, _, _, _, _, _, _, _, _, z⟩ => z.elim
end
end Gd
/-! _law_heard of any value -/
namespace Qw
open PySem PySem.Spec PyProof.Rows L2 Evl Gd Sn Ex
abbrev sHeard : Stmt := topS 60
abbrev nHeard : List Str := ["_law_value", "_law_caught", "error"]
theorem scHeard : FnScope nHeard ["_law_value"] (defScope sHeard) := ⟨rfl, rfl, rfl, by decide +kernel, rfl, by decide +kernel, by decide +kernel⟩
/-- what the classes of errors say of BadRow -/
structure ErrH (K : PySem.W.Frag) (mg : Str → Option Value) (CE CB C1 C2 C3 : Addr) : Prop where
  mE : mg "HeapError" = some (.ref CE)
  mB : mg "BadRow" = some (.ref CB)
  m1 : mg "BadBlock" = some (.ref C1)
  m2 : mg "Twice" = some (.ref C2)
  m3 : mg "NoProcedure" = some (.ref C3)
  heap : PySem.W.exmOne K (.ref CB) (.ref CE) = some true
  row : PySem.W.kitOne K (.ref CB) (.ref CB) = some true
  oth : PySem.W.kitAny K (.ref CB) [.ref C1, .ref C2, .ref C3] = some false
  ve : PySem.W.kitOne K (.ref CB) (.type "ValueError") = some true
  exc : ExcC K CB
  xf : XfC K CB
  no : PySem.W.findIn K (.ref CB) "row" = some none
theorem read_of {K : PySem.W.Frag} {CB : Addr} {D : Addr → Prop} {x : V} {e : PyData} {H : Hp} {Q : VK} {E : XK} (av : Av K D H x e) (wd : ∀ z, e = .str z → Wd z)
    (yes : ∀ (H' : Hp) (t : Addr) (r : PyData), Ex H H' → DueIs e (.tuple [.str "rows", r]) → Td K H' (.ref t) r → Q (.ref t) H')
    (no : ∀ (H' : Hp) (dd : Addr) (i : Nat), Ex H H' → H' dd = some (.xd [("row", .int i)]) → DueIs e (.tuple [.str "bad", .int i]) → E (.ref CB) (some dd) H') : spRead K CB [x] H Q E :=
  ⟨D, x, e, rfl, av, wd, fun z ez all H' t e1 td => yes H' t _ e1 (.inr (.inl ⟨z, ez, all, rfl⟩)) td, fun z i u ez hi nb before H' dd e1 hd => no H' dd i e1 hd (.inr (.inr ⟨z, i, u, ez, hi, nb, before, rfl⟩)), fun st H' dd e1 hd => no H' dd 0 e1 hd (.inl ⟨st, rfl⟩)⟩
section
variable {P : Program} {w : World} {K : PySem.W.Frag} {mg : Str → Option Value} {base : Heap}
theorem ok_heard {f fR CE CB C1 C2 C3 : Addr} {fd fdR : FuncData} (F : Fun K "_law_heard" "_law_heard" sHeard f fd) (FR : Fun K "read_script" "read_script" sRead fR fdR) (bR : Binds K fdR ["text"] []) (gR : mg "read_script" = some (.ref fR)) (mI : mg "isinstance" = none) (mV : mg "ValueError" = none) (er : ErrH K mg CE CB C1 C2 C3)
    (GR : FnG P w K mg base (L2.CX P w) 8 fR fdR ["text"] (spRead K CB)) : FnG P w K mg base CX0 9 f fd ["_law_value"] (spDue K) := by
  refine fng_of F scHeard (fun vs H Q E h => ?_) (fun cdv A outer s H vs Q E hr gd h => ?_)
  · obtain ⟨D, x, e, rfl, _⟩ := h
    rfl
  · obtain ⟨D, x, e, rfl, av, wd, q⟩ := h
    refine ⟨_, pss_cons (ps_set (i := 1) scHeard.nd rfl (.inl rfl) pe_non) <|
      pss_cons (ps_tryK (x := "HeapError") (n := "error") (y := "_law_caught") (i := 2) (j := 1) (c := .ref CE) (Wout := fun _ _ _ _ => False) rfl rfl rfl scHeard.nd rfl rfl (by decide) rfl (.inl rfl) rfl rfl rfl ⟨rfl, rfl, .inl er.mE⟩ takesNo (fun W pn xe tk _ => pss_one (ps_ret (pe_tup (pa_cons pe_str <| pa_cons (pe_callGS GR hr gd (by rfl) gR FR.kp bR tk (pa_cons (pv 0) pa_nil)) pa_nil))))) <|
      pss_cons (ps_if (pw_or (pt_not (pt_val (pe_callB call_isiZ (by rfl) mI (by decide +kernel) (pa_cons (pv 1) (pa_cons (pe_glob (v := .ref CB) (by rfl) er.mB rfl) pa_nil))))) (pw_or1 (pt_val (pe_callB call_isiZT (by rfl) mI (by decide +kernel) (pa_cons (pv 1) (pa_cons (pe_tup (pa_cons (pe_glob (v := .ref C1) (by rfl) er.m1 rfl) <| pa_cons (pe_glob (v := .ref C2) (by rfl) er.m2 rfl) <| pa_cons (pe_glob (v := .ref C3) (by rfl) er.m3 rfl) pa_nil)) pa_nil)))))).pt (pss_one (ps_ret (pe_tup (pa_cons pe_str <| pa_cons pe_non pa_nil)))) pss_nil) <|
      pss_one (ps_ret (pe_ifExp (pt_val (pe_callB call_isiZ (by rfl) mI (by decide +kernel) (pa_cons (pv 1) (pa_cons (pe_bltn (v := .ty "ValueError") (by rfl) mV (by decide +kernel) rfl) pa_nil)))) (pe_tup (pa_cons pe_str <| pa_cons (pe_ez (pv 1)) pa_nil)) (pe_tup (pa_cons pe_str <| pa_cons pe_non pa_nil)))), ?_⟩
    refine seq_of (asg_of (k_of ?_))
    dsimp only
    refine seq_of (ret_of (tup_of (c_of (k_of (c_of (callS_of (c_of (v_of rfl (n_of (read_of av wd (fun H1 t r e1 due td => ?_) fun H1 dd i e1 hd due => ?_))))))))))
    · exact n_of ⟨two_le, fun p hp => q _ p _ (e1.trans (Ex.new hp)) due (.tup (st_of upd_same) (.cons (.str _) (.cons (td.ex (Ex.new hp)) .nil)))⟩
    · refine ⟨true, er.heap, fun _ a ha => ?_, fun z => by cases z⟩
      have e2 : Ex H1 (upd H1 a (exz a (.ref CB) (some dd))) := Ex.new ha
      have kept : Kept (upd H1 a (exz a (.ref CB) (some dd))) a CB := .inr ⟨dd, _, upd_same, e2 _ _ hd⟩
      have at1 : (upd H1 a (exz a (.ref CB) (some dd))) a = some (exz a (.ref CB) (some dd)) := upd_same
      have hd1 := e2 _ _ hd
      have e02 := e1.trans e2
      generalize upd H1 a (exz a (.ref CB) (some dd)) = H2 at e2 kept at1 hd1 e02 ⊢
      dsimp only
      refine seq_of (ifS_of (or_of (not_of (test_of (cb_of (c_of (v_of rfl (c_of (k_of (n_of ⟨a, CB, .ref CB, .ref CB, true, rfl, .own CB, kept, er.exc, er.row, true, rfl, ?_⟩))))))))))
      rw [if_neg (show ¬ (!true) = true from Bool.false_ne_true)]
      refine test_of (cb_of (c_of (v_of rfl (c_of (tup_of (c_of (k_of (c_of (k_of (c_of (k_of (n_of ⟨by show 3 ≤ sizeLine; decide, fun tp htp => ?_⟩))))))))))))
      have e3 := Ex.new htp (o := .tup [.ref C1, .ref C2, .ref C3])
      have kept3 : Kept (upd H2 tp (.tup [.ref C1, .ref C2, .ref C3])) a CB := .inr ⟨dd, _, e3 _ _ at1, e3 _ _ hd1⟩
      have tp3 : (upd H2 tp (.tup [.ref C1, .ref C2, .ref C3])) tp = some (.tup [.ref C1, .ref C2, .ref C3]) := upd_same
      have at3 := e3 _ _ at1
      have hd3 := e3 _ _ hd1
      have e03 := e02.trans e3
      show tNil _ (upd H2 tp (.tup [.ref C1, .ref C2, .ref C3])) _
      generalize upd H2 tp (.tup [.ref C1, .ref C2, .ref C3]) = H3 at e3 kept3 tp3 at3 hd3 e03 ⊢
      refine n_of ⟨a, CB, tp, _, _, false, rfl, tp3, .cons (.own C1) (.cons (.own C2) (.cons (.own C3) .nil)), kept3, er.exc, er.oth, false, rfl, ?_⟩
      rw [if_neg Bool.false_ne_true]
      dsimp only [tNext]
      refine ret_of (if_of (test_of (cb_of (c_of (v_of rfl (c_of (k_of (n_of ⟨a, CB, .ty "ValueError", .type "ValueError", true, rfl, .ty "ValueError", kept3, er.exc, er.ve, true, rfl, ?_⟩))))))))
      rw [if_pos rfl]
      refine tup_of (c_of (k_of (c_of (v_of (v := .ref a) rfl ⟨a, CB, dd, _, .int i, rfl, er.xf, er.no, at3, hd3, by rw [List.lookup, show (("row" : Str) == ("row" : Str)) = true from by decide +kernel], n_of ⟨two_le, fun t ht => ?_⟩⟩))))
      exact q _ t _ (e03.trans (Ex.new ht)) due (.tup (st_of upd_same) (.cons (.str _) (.cons (.int _) .nil)))
end
end Qw
namespace Qf
open PySem PySem.Spec PyProof.Rows L2 Evl Gd Qw
theorem off_pot {d p : Addr} {H H' : Hp} {n : Int} {o : HO} (e : Off d H H') (pot : Pot H d n) (hp : H p = some o) (no : ∀ xs : List V, o = .lst xs → ∃ x : Str, ∃ r, xs = .str x :: r) : H' p = some o := by
  refine e p o (fun z => ?_) hp
  subst z
  obtain ⟨g, b, m, h0, _⟩ := pot
  rw [hp] at h0
  cases h0
  obtain ⟨x, r, h⟩ := no _ rfl
  cases h
section
variable {σ : L2.St} {H : Hp} {Q : VK} {E : XK} {d : Addr} {n : Int}
/-- one item of a list that is made there -/
theorem rd_of {td tl : TE} {xs : List V} (hd : Ev td σ H (.ref d)) (hP : Pot H d n) (hn : n ≤ 1000000) (ev : EvL tl σ H xs) (z0 : 0 < xs.length) (z1 : xs.length ≤ 1000) (k : ∀ H' x, x ∈ xs → Off d H H' → Pot H' d (n + 1) → Q x H') :
    tCall spOf [] E (tCons td (tCons tl tNil)) σ H Q := by
  refine hd H (Ex.refl H) _ fun H1 e1 => ev H1 e1 _ fun p H2 np e2 h2 => ?_
  have p1 := hP.ex e1
  exact ⟨d, p, n, xs, rfl, p1.ex e2, hn, p1.ne np, h2, z0, z1, fun H' x hx o pt => k H' x hx ((Off.of (e1.trans e2)).trans o) pt⟩
def names7 : List Str := ["a", "b", "x", "G", "Hello", "abcdefgh", "k"]
/-- three names -/
theorem rd_names {te tl : TE} {m : Nat} {j : Nat} (m0 : m ≤ 100) (hn : n ≤ 900000) (sd : ∀ x : Int, Ev te ((wipe σ [j]).set j (some (.int x))) H (.ref d)) (ev : ∀ (x : Int) (H1 : Hp), EvL tl ((wipe σ [j]).set j (some (.int x))) H1 (names7.map V.str)) (hw : ∀ x : Int, wipe ((wipe σ [j]).set j (some (.int x))) [j] = wipe σ [j]) (pot : Pot H d n)
    (sd' : ∀ (x : Int) (H1 : Hp), Ev te ((wipe σ [j]).set j (some (.int x))) H1 (.ref d))
    (k : ∀ p H' (ws : List Str), Off d H H' → Pot H' d (n + m) → H' p = some (.lst (ws.map V.str)) → ws.length = m → (∀ w ∈ ws, w ∈ names7) → Q (.ref p) H') : tLc (iRng1 (tCons (tC (.int (m : Int))) tNil)) (gName j) tYes (tCall spOf [] E (tCons te (tCons tl tNil))) [j] σ H Q := by
  refine ⟨(m : Int), rfl, by omega, by omega, fun D hD => ?_⟩
  have nD : D ≠ d := pot.ne hD
  rw [Int.toNat_natCast]
  refine lc_range (lo := 0) (n := m) (fun i H' => Off d H H' ∧ Pot H' d (n + (i : Int)) ∧ ∃ ws : List Str, H' D = some (.lst (ws.map V.str)) ∧ ws.length = i ∧ ∀ w ∈ ws, w ∈ names7) ⟨Off.of (Ex.new hD), (pot.ex (Ex.new hD)).up (by omega), [], (upd_same : upd H D (.lst []) D = some (.lst [])), rfl, fun w h => absurd h List.not_mem_nil⟩ ?_ ?_
  · rintro i H' hi ⟨off, pt, ws, hd, hl, hm⟩
    refine ⟨hw _, ?_⟩
    refine rd_of (sd' _ _) pt (by omega) (ev _ _) (by decide) (by decide) fun H2 x hx o2 p2 => ?_
    obtain ⟨w, hw7, rfl⟩ := List.mem_map.mp hx
    refine ⟨_, o2 _ _ nD hd, ?_, ?_, ?_, ws ++ [w], ?_, ?_, ?_⟩
    · rw [List.length_map]
      exact sz_lt (by omega)
    · intro a o ne ha
      rw [upd_ne (ne_of_none ha hD)]
      exact o2 a o ne (off a o ne ha)
    · obtain ⟨g, b, c, h0, h⟩ := p2
      refine ⟨g, b, c, ?_, h.1, h.2.1, h.2.2.1, h.2.2.2.1, h.2.2.2.2.1, by have := h.2.2.2.2.2; push_cast; omega⟩
      rw [upd_ne (Ne.symm nD)]
      exact h0
    · rw [upd_same, List.map_append]
      rfl
    · rw [List.length_append, hl]
      rfl
    · intro v hv
      rcases List.mem_append.mp hv with h | h
      · exact hm v h
      · rw [List.mem_singleton.mp h]
        exact hw7
  · rintro H' ⟨off, pt, ws, hd, hl, hm⟩
    exact k D H' ws off pt hd hl hm
end
section
variable {ta tr te tb : TE} {tt : TA} {ts tz : TS} {D : Ends} {g : TG} {σ : L2.St} {H : Hp} {Q : VK}
theorem tup_of (h : tt σ H fun xs H1 => xs.length ≤ sizeLine ∧ ∀ p, H1 p = none → Q (.ref p) (upd H1 p (.tup xs))) : tTup tt σ H Q := h
theorem lst_of (h : tt σ H fun xs H1 => xs.length ≤ sizeLine ∧ ∀ p, H1 p = none → Q (.ref p) (upd H1 p (.lst xs))) : tLst tt σ H Q := h
theorem c_of {Q : List V → Hp → Prop} (h : ta σ H fun x H1 => tt σ H1 fun xs H2 => Q (x :: xs) H2) : tCons ta tt σ H Q := h
theorem n_of {Q : List V → Hp → Prop} (h : Q [] H) : tNil σ H Q := h
theorem v_of {i : Nat} {v : V} (e : σ[i]? = some (some v)) (h : Q v H) : tVar i σ H Q := ⟨v, e, h⟩
theorem k_of {v : V} (h : Q v H) : tC v σ H Q := h
theorem seq_of (h : ts { D with nx := tz D } σ H) : tSeq ts tz D σ H := h
theorem asg_of {i : Nat} (h : te σ H fun x H1 => D.nx (σ.set i (some x)) H1) : tAsg te (gName i) D σ H := h
theorem asgG_of (h : te σ H fun x H1 => g x σ H1 D.nx) : tAsg te g D σ H := h
theorem par_of {i j : Nat} (h : tt σ H fun vs H1 => ∃ v w, vs = [v, w] ∧ D.nx ((σ.set i (some v)).set j (some w)) H1) : tPar i j tt D σ H := h
theorem ret_of (h : te σ H D.rt) : tRet te D σ H := h
theorem op_of {r : R2} (h : ta σ H fun x H1 => tb σ H1 fun y H2 => r x y H2 Q) : tOp r ta tb σ H Q := h
theorem call_of {sp : Sp} {dvs : List V} {E : XK} (h : tt σ H fun vs H1 => sp (vs ++ dvs) H1 Q E) : tCall sp dvs E tt σ H Q := h
theorem cb_of {r : List V → Hp → VK → Prop} (h : tt σ H fun vs H1 => r vs H1 Q) : tCB r tt σ H Q := h
/-- two short texts, one behind the other -/
def sCat : R2 := fun x y H Q => ∃ i j, x = V.str i ∧ y = V.str j ∧ i.length + j.length ≤ sizeLine ∧ Q (V.str (i ++ j)) H
theorem cat_of {z w : Str} (lz : z.length ≤ 1000) (lw : w.length ≤ 1000) (h : Q (.str (z ++ w)) H) : (fun x y H Q => ∃ i j, x = V.str i ∧ y = V.str j ∧ i.length + j.length ≤ sizeLine ∧ Q (V.str (i ++ j)) H) (V.str z) (.str w) H Q :=
  ⟨z, w, rfl, rfl, by rw [sizeLine_eq]; omega, h⟩
theorem ev_cat {z w : Str} (ha : Ev ta σ H (.str z)) (hb : Ev tb σ H (.str w)) (lz : z.length ≤ 1000) (lw : w.length ≤ 1000) :
    Ev (tOp (fun x y H Q => ∃ i j, x = V.str i ∧ y = V.str j ∧ i.length + j.length ≤ sizeLine ∧ Q (V.str (i ++ j)) H) ta tb) σ H (.str (z ++ w)) :=
  fun H1 e Q q => op_of (ha H1 e _ fun H2 e2 => hb H2 (e.trans e2) _ fun H3 e3 => cat_of lz lw (q H3 (e2.trans e3)))
end
theorem log_small {r : Int} (h : r.natAbs < 10 ^ 10) : r.natAbs.log2 < 1920 := by
  by_cases z : r.natAbs = 0
  · rw [z]
    decide
  · exact Nat.lt_of_lt_of_le ((Nat.log2_lt z).mpr (Nat.lt_of_lt_of_le h (by decide : (10 : Nat) ^ 10 ≤ 2 ^ 40))) (by decide)
/-- a value's word -/
def isWo (nm x : Str) : Prop := x = nm ∨ x ∈ (["none", "0", "-7", "1000000000", "-1000000000"] : List Str) ∨ ∃ m : Int, 0 ≤ m ∧ m < 1000000000 ∧ x = (toString m : String)
/-- a number's word -/
def isNu (most : Int) (x : Str) : Prop := ∃ m : Int, 0 ≤ m ∧ m ≤ most ∧ x = (toString m : String)
def homes2 : List Str := ["counted", "traced"]
def calls3 : List Str := ["p", "bye", "abcdefgh"]
def readsOf (wo sp ot th : Str) : List Str := [wo, sp, ("get " : Str) ++ ot, ot ++ (" at " : Str) ++ th]
def madeOf (ho k ot : Str) : List Str := [("record " : Str) ++ ho ++ (" " : Str) ++ k, ("weak " : Str) ++ ho ++ (" " : Str) ++ ot, ("map " : Str) ++ ho]
theorem int_len (m : Int) (h : m.natAbs < 10 ^ 10) : ((toString m : String) : Str).length ≤ 11 := by
  rw [PySem.ofString_length]
  exact int_text_length_le10 (a := m) (k := 10) (by decide) h
theorem name_len {x : Str} (h : x ∈ names7) : x.length ≤ 8 := by
  have all : ∀ y ∈ names7, y.length ≤ 8 := by decide +kernel
  exact all x h
theorem wo_len {nm x : Str} (hn : nm ∈ names7) (h : isWo nm x) : x.length ≤ 11 := by
  rcases h with rfl | h | ⟨m, h0, h1, rfl⟩
  · exact Nat.le_trans (name_len hn) (by decide)
  · have all : ∀ y ∈ (["none", "0", "-7", "1000000000", "-1000000000"] : List Str), y.length ≤ 11 := by decide +kernel
    exact all x h
  · exact int_len m (by omega)
theorem nu_len {x : Str} {most : Int} (hm : most ≤ 10000) (h : isNu most x) : x.length ≤ 11 := by
  obtain ⟨m, h0, h1, rfl⟩ := h
  exact int_len m (by omega)
theorem sz2 {a b : Str} {n m : Nat} (ha : a.length ≤ n) (hb : b.length ≤ m) (h : n + m ≤ 10000 := by decide) : a.length + b.length ≤ sizeLine := by
  rw [sizeLine_eq]
  omega
/-- the place's word -/
def isSp (ot x : Str) : Prop := ∃ m : Int, 0 ≤ m ∧ m < 6 ∧ x = ot ++ ("." : Str) ++ ((toString m : String) : Str)
theorem sp_len {ot x : Str} (ho : ot ∈ names7) (h : isSp ot x) : x.length ≤ 20 := by
  obtain ⟨m, h0, h1, rfl⟩ := h
  have := name_len ho
  have := int_len m (by omega)
  rw [strLen_append, strLen_append]
  show _ + 1 + _ ≤ _
  omega
theorem home_len {x : Str} (h : x ∈ homes2) : x.length ≤ 7 := by
  have all : ∀ y ∈ homes2, y.length ≤ 7 := by decide +kernel
  exact all x h
theorem call_len {x : Str} (h : x ∈ calls3) : x.length ≤ 8 := by
  have all : ∀ y ∈ calls3, y.length ≤ 8 := by decide +kernel
  exact all x h
theorem le_app {a b : Str} {n m : Nat} (ha : a.length ≤ n) (hb : b.length ≤ m) : (a ++ b).length ≤ n + m := by
  rw [strLen_append]
  omega
section
variable {ta tb : TE} {σ : L2.St} {H : Hp} {z w : Str} {n m : Nat}
/-- a text, and how long at most -/
def EvS (te : TE) (σ : L2.St) (H : Hp) (z : Str) (n : Nat) : Prop := Ev te σ H (.str z) ∧ z.length ≤ n
theorem es_cat (a : EvS ta σ H z n) (b : EvS tb σ H w m) (h : n + m ≤ 900 := by decide) : EvS (tOp (fun x y H Q => ∃ i j, x = V.str i ∧ y = V.str j ∧ i.length + j.length ≤ sizeLine ∧ Q (V.str (i ++ j)) H) ta tb) σ H (z ++ w) (n + m) :=
  ⟨ev_cat a.1 b.1 (by have := a.2; omega) (by have := b.2; omega), by rw [strLen_append]; have := a.2; have := b.2; omega⟩
theorem es_c {s : Str} (n : Nat) (h : s.length ≤ n := by decide) : EvS (tC (.str s)) σ H s n := ⟨ev_c, h⟩
theorem es_v {i : Nat} {x : Str} (e : σ[i]? = some (some (.str x))) (h : x.length ≤ n) : EvS (tVar i) σ H x n := ⟨ev_var e, h⟩
theorem EvS.at {te : TE} (a : EvS te σ H z n) {Q : VK} (k : ∀ H1, Ex H H1 → Q (.str z) H1) : te σ H Q := a.1 H (Ex.refl H) Q k
end
theorem el_cat {ta tb : TE} {σ : L2.St} {H : Hp} {a b : Addr} {xs ys : List V} (ha : Ev ta σ H (.ref a)) (hb : Ev tb σ H (.ref b)) (h1 : H a = some (.lst xs)) (h2 : H b = some (.lst ys)) (z : xs.length + ys.length ≤ 10000) : EvL (tOp rCat ta tb) σ H (xs ++ ys) :=
  fun H1 e Q q => op_of (ha H1 e _ fun H2 e2 => hb H2 (e.trans e2) _ fun H3 e3 => ⟨a, b, xs, ys, rfl, rfl, (e.trans (e2.trans e3)) _ _ h1, (e.trans (e2.trans e3)) _ _ h2, by rw [sizeLine_eq]; omega, fun p n => q p _ (fresh_back (e2.trans e3) n) ((e2.trans e3).trans (Ex.new n)) upd_same⟩)
/-- a list whose items are known, joined to another list -/
theorem el_catL {ta tb : TE} {σ : L2.St} {H : Hp} {a : Addr} {xs ys : List V} (ha : Ev ta σ H (.ref a)) (hb : EvL tb σ H ys) (h1 : H a = some (.lst xs)) (z : xs.length + ys.length ≤ 10000) : EvL (tOp rCat ta tb) σ H (xs ++ ys) :=
  fun H1 e Q q => op_of (ha H1 e _ fun H2 e2 => hb H2 (e.trans e2) _ fun b H3 nb e3 h2 => ⟨a, b, xs, ys, rfl, rfl, (e.trans (e2.trans e3)) _ _ h1, h2, by rw [sizeLine_eq]; omega, fun p n => q p _ (fresh_back (e2.trans e3) n) ((e2.trans e3).trans (Ex.new n)) upd_same⟩)
theorem off_mut {d p : Addr} {H H' : Hp} {o : HO} (e : Off d H H') (n : H p = none) : Off d H (upd H' p o) := fun a u ne h => by
  rw [upd_ne (ne_of_none h n)]
  exact e a u ne h
theorem rd_ofV {σ : L2.St} {H : Hp} {Q : VK} {E : XK} {d l : Addr} {n : Int} {i j : Nat} {xs : List V} (hd : σ[i]? = some (some (.ref d))) (hj : σ[j]? = some (some (.ref l))) (hP : Pot H d n) (hn : n ≤ 1000000) (ne : l ≠ d) (hl : H l = some (.lst xs)) (z0 : 0 < xs.length) (z1 : xs.length ≤ 1000)
    (k : ∀ H' x, x ∈ xs → Off d H H' → Pot H' d (n + 1) → Q x H') : tCall spOf [] E (tCons (tVar i) (tCons (tVar j) tNil)) σ H Q :=
  ⟨_, hd, _, hj, d, l, n, xs, rfl, hP, hn, ne, hl, z0, z1, k⟩
/-- what may stand behind let .. = -/
def made4 (ho k ot ca : Str) : List Str := madeOf ho k ot ++ [("record " : Str) ++ ho ++ (" " : Str) ++ k ++ (" then " : Str) ++ ca]
theorem reads_len {wo sp ot th x : Str} (h1 : wo.length ≤ 11) (h2 : sp.length ≤ 20) (h3 : ot.length ≤ 8) (h4 : th.length ≤ 8) (h : x ∈ readsOf wo sp ot th) : x.length ≤ 50 := by
  simp only [readsOf, List.mem_cons, List.not_mem_nil, or_false] at h
  rcases h with rfl | rfl | rfl | rfl
  · omega
  · omega
  · have := le_app (show (("get " : Str)).length ≤ 4 by decide) h3
    omega
  · have := le_app (le_app h3 (show ((" at " : Str)).length ≤ 4 by decide)) h4
    omega
theorem made_len {ho k ot ca x : Str} (h1 : ho.length ≤ 7) (h2 : k.length ≤ 11) (h3 : ot.length ≤ 8) (h4 : ca.length ≤ 8) (h : x ∈ made4 ho k ot ca) : x.length ≤ 50 := by
  have l0 : (("record " : Str) ++ ho ++ (" " : Str) ++ k).length ≤ 7 + 7 + 1 + 11 := le_app (le_app (le_app (by decide) h1) (by decide)) h2
  simp only [made4, madeOf, List.cons_append, List.nil_append, List.mem_cons, List.not_mem_nil, or_false] at h
  rcases h with rfl | rfl | rfl | rfl
  · omega
  · have := le_app (le_app (le_app (show (("weak " : Str)).length ≤ 5 by decide) h1) (show ((" " : Str)).length ≤ 1 by decide)) h3
    omega
  · have := le_app (show (("map " : Str)).length ≤ 4 by decide) h1
    omega
  · have := le_app (le_app l0 (show ((" then " : Str)).length ≤ 6 by decide)) h4
    omega
def rowsA (nm l s : Str) : List Str := [("let " : Str) ++ nm ++ (" = " : Str) ++ l, ("say " : Str) ++ s, ("drop " : Str) ++ nm]
def rowsB (nm sp wo : Str) : List Str := [("hold " : Str) ++ nm, ("release " : Str) ++ nm, ("pin " : Str) ++ nm, ("unpin " : Str) ++ nm, sp ++ (" = " : Str) ++ wo]
def rowsC (ot th wo : Str) : List Str := [ot ++ (" at " : Str) ++ th ++ (" = " : Str) ++ wo, ("if " : Str) ++ wo ++ (" is " : Str) ++ th, "else", "end"]
def rowsD (nu ca : Str) : List Str := [("repeat " : Str) ++ nu, ("proc " : Str) ++ ca, ("proc " : Str) ++ ca ++ (" y z" : Str), ("do " : Str) ++ ca]
def rowsE (nu : Str) : List Str := ["minor", ("rings " : Str) ++ nu, "begin", ("slice " : Str) ++ nu, ("compact " : Str) ++ nu, "finalize", "settle"]
/-- the rows of which one is drawn -/
def rowsOf (nm ot th wo nu ho sp ca l s : Str) : List Str := (rowsA nm l s ++ rowsB nm sp wo ++ rowsC ot th wo ++ rowsD nu ca ++ [("do " : Str) ++ ca ++ (" " : Str) ++ wo]) ++ rowsE nu
/-- a row as this law draws it -/
def RowT (r : Str) : Prop := ∃ nm ot th wo nu ho sp ca k l s : Str, nm ∈ names7 ∧ ot ∈ names7 ∧ th ∈ names7 ∧ isWo nm wo ∧ isNu 10000 nu ∧ ho ∈ homes2 ∧ isSp ot sp ∧ ca ∈ calls3 ∧ isNu 6 k ∧ l ∈ readsOf wo sp ot th ++ made4 ho k ot ca ∧ s ∈ readsOf wo sp ot th ∧ r ∈ rowsOf nm ot th wo nu ho sp ca l s
theorem rows_len (nm ot th wo nu ho sp ca l s : Str) : (rowsOf nm ot th wo nu ho sp ca l s).length = 24 := rfl
theorem mem_cut {xs : List V} {lo hi : Option Int} {x : V} (h : x ∈ cutV xs lo hi) : x ∈ xs := by
  unfold cutV at h
  exact List.mem_of_mem_drop (List.mem_of_mem_take h)
theorem two_len {xs : List V} {n : Nat} (h : xs.length = n) (lo hi : Option Int) : (xs ++ cutV xs lo hi).length ≤ n + n := by
  rw [List.length_append]
  have := cutV_length xs lo hi
  omega
end Qf
/-! short texts of ASCII signs -/
namespace Qf
open PySem PySem.Spec PyProof.Rows L2 Evl Gd Qw
def Sh (n : Nat) (w : Str) : Prop := Asc (TL.tl w) ∧ w.length ≤ n
theorem Sh.up {n m : Nat} {w : Str} (h : Sh n w) (le : n ≤ m) : Sh m w := ⟨h.1, Nat.le_trans h.2 le⟩
theorem Sh.wd {n : Nat} {w : Str} (h : Sh n w) (le : n ≤ 99000) : Wd w := ⟨h.1, Nat.le_trans h.2 le⟩
theorem Sh.cat {n m : Nat} {a b : Str} (x : Sh n a) (y : Sh m b) : Sh (n + m) (a ++ b) := by
  refine ⟨?_, by rw [strLen_append]; have := x.2; have := y.2; omega⟩
  rw [TL.tl_append]
  intro c hc
  rcases List.mem_append.mp hc with h | h
  · exact x.1 c h
  · exact y.1 c h
theorem Sh.cut {n : Nat} {w : Str} (h : Sh n w) (lo hi : Option Int) : Sh n (cutS w lo hi) := by
  refine ⟨?_, Nat.le_trans (cutS_length _ _ _) h.2⟩
  unfold cutS
  rw [TL.tl_mk]
  exact fun c hc => h.1 c (List.mem_of_mem_drop (List.mem_of_mem_take hc))
theorem Sh.digits {k : Nat} {m : Int} (h0 : 0 ≤ m) (h : m.natAbs < 10 ^ k) (hk : k ≤ 10) : Sh 11 ((toString m : String) : Str) := by
  obtain ⟨n, rfl⟩ := Int.eq_ofNat_of_zero_le h0
  refine ⟨?_, ?_⟩
  · rw [TL.tl_num]
    intro c hc
    have := TL.numL_digits n c hc
    omega
  · exact int_len _ (Nat.lt_of_lt_of_le h (Nat.pow_le_pow_right (by decide) hk))
/-- the signs of some words, and one for each -/
def wt (ws : List Str) : Nat := (ws.map fun w => w.length + 1).sum
theorem wt_app (a b : List Str) : wt (a ++ b) = wt a + wt b := by
  unfold wt
  rw [List.map_append, List.sum_append]
theorem wt_take (k : Nat) (ws : List Str) : wt (ws.take k) ≤ wt ws := by
  have := wt_app (ws.take k) (ws.drop k)
  rw [List.take_append_drop] at this
  omega
theorem wt_drop (k : Nat) (ws : List Str) : wt (ws.drop k) ≤ wt ws := by
  have := wt_app (ws.take k) (ws.drop k)
  rw [List.take_append_drop] at this
  omega
theorem spl_sum {c : Nat} : ∀ (l acc : List Nat), ((TL.spl [c] 0 acc l).map fun p => p.length + 1).sum = acc.length + l.length + 1
  | [], acc => by
    rw [TL.spl]
    simp
  | d :: r, acc => by
    rw [TL.spl]
    by_cases h : TL.pre [c] (d :: r) = true
    · rw [if_pos h, show ([c] : List Nat).length - 1 = 0 from rfl, List.map_cons, List.sum_cons, spl_sum r [], List.length_nil, List.length_cons]
      omega
    · rw [if_neg h, spl_sum r (acc ++ [d]), List.length_append, List.length_singleton, List.length_cons]
      omega
theorem split_wt {w b : Str} {c : Nat} (hb : TL.tl b = [c]) (hc : c < 256) : wt (Txt.split w b) = w.length + 1 := by
  rw [split_is hb hc]
  unfold wt
  rw [List.map_map]
  have e : (fun w : Str => w.length + 1) ∘ SX.S = fun p : List Nat => p.length + 1 := funext fun p => by
    show (SX.S p).length + 1 = _
    rw [TL.len_tl, tl_S]
  rw [e, spl_sum, TL.len_tl]
  simp
theorem join_sh {y : Str} {c : Nat} (hy : TL.tl y = [c]) (hc : c < 128) : ∀ {ws : List Str} {n : Nat}, (∀ u ∈ ws, Asc (TL.tl u)) → wt ws ≤ n → Sh n (Txt.join y ws) := by
  intro ws n ha hw
  have key : ∀ ls : List (List Nat), (∀ l ∈ ls, Asc l) → Asc (TL.joinL [c] ls) ∧ (TL.joinL [c] ls).length ≤ (ls.map fun p => p.length + 1).sum := by
    intro ls
    induction ls with
    | nil =>
      intro _
      refine ⟨fun x hx => ?_, Nat.le_refl _⟩
      rw [show TL.joinL [c] [] = [] from rfl] at hx
      cases hx
    | cons a r ih =>
      intro h
      obtain ⟨i1, i2⟩ := ih fun l hl => h l (List.mem_cons_of_mem _ hl)
      have ha := h a List.mem_cons_self
      cases r with
      | nil =>
        rw [show TL.joinL [c] [a] = a from by simp [TL.joinL]]
        exact ⟨ha, by simp⟩
      | cons b q =>
        have e : TL.joinL [c] (a :: b :: q) = a ++ c :: TL.joinL [c] (b :: q) := by
          rw [TL.joinL]
          simp
        rw [e]
        refine ⟨fun x hx => ?_, ?_⟩
        · rcases List.mem_append.mp hx with h | h
          · exact ha x h
          · rcases List.mem_cons.mp h with rfl | h
            · exact hc
            · exact i1 x h
        · rw [List.length_append, List.length_cons, List.map_cons, List.sum_cons]
          omega
  obtain ⟨k1, k2⟩ := key (ws.map TL.tl) fun l hl => by
    obtain ⟨u, hu, rfl⟩ := List.mem_map.mp hl
    exact ha u hu
  have e : TL.tl (Txt.join y ws) = TL.joinL [c] (ws.map TL.tl) := by rw [TL.join_eq, TL.tl_join, hy]
  refine ⟨by rw [e]; exact k1, ?_⟩
  rw [TL.len_tl, e]
  refine Nat.le_trans k2 (Nat.le_trans (Nat.le_of_eq ?_) hw)
  unfold wt
  rw [List.map_map]
  congr 1
theorem lit {s : Str} (h : ((TL.tl s).all fun c => decide (c < 128)) = true) : Sh s.length s := ⟨fun c hc => of_decide_eq_true (List.all_eq_true.mp h c hc), Nat.le_refl _⟩
theorem names_sh : ∀ w ∈ names7, Sh 8 w := by
  have all : ∀ w ∈ names7, ((TL.tl w).all fun c => decide (c < 128)) = true ∧ w.length ≤ 8 := by decide +kernel
  exact fun w h => (lit (all w h).1).up (all w h).2
theorem homes_sh : ∀ w ∈ Qf.homes2, Sh 8 w := by
  have all : ∀ w ∈ Qf.homes2, ((TL.tl w).all fun c => decide (c < 128)) = true ∧ w.length ≤ 8 := by decide +kernel
  exact fun w h => (lit (all w h).1).up (all w h).2
theorem calls_sh : ∀ w ∈ calls3, Sh 8 w := by
  have all : ∀ w ∈ calls3, ((TL.tl w).all fun c => decide (c < 128)) = true ∧ w.length ≤ 8 := by decide +kernel
  exact fun w h => (lit (all w h).1).up (all w h).2
theorem wo_sh {nm x : Str} (hn : nm ∈ names7) (h : isWo nm x) : Sh 11 x := by
  rcases h with rfl | h | ⟨m, h0, h1, rfl⟩
  · exact (names_sh _ hn).up (by decide)
  · have all : ∀ w ∈ (["none", "0", "-7", "1000000000", "-1000000000"] : List Str), ((TL.tl w).all fun c => decide (c < 128)) = true ∧ w.length ≤ 11 := by decide +kernel
    exact (lit (all _ h).1).up (all _ h).2
  · exact Sh.digits (k := 10) h0 (by omega) (by decide)
theorem nu_sh {x : Str} {most : Int} (hm : most ≤ 10000) (h : isNu most x) : Sh 11 x := by
  obtain ⟨m, h0, h1, rfl⟩ := h
  exact Sh.digits (k := 10) h0 (by omega) (by decide)
theorem sp_sh {ot x : Str} (ho : ot ∈ names7) (h : isSp ot x) : Sh 20 x := by
  obtain ⟨m, h0, h1, rfl⟩ := h
  exact ((names_sh _ ho).cat (lit (s := ".") (by decide +kernel))).cat (Sh.digits (k := 10) h0 (by omega) (by decide))
end Qf
/-! _law_is_right of any value -/
namespace Qw
open PySem PySem.Spec PyProof.Rows L2 Evl Gd Sn Ex
abbrev sIs : Stmt := topS 61
abbrev nIs : List Str := ["_law_value", "_law_kept"]
theorem scIs : FnScope nIs ["_law_value"] (defScope sIs) := ⟨rfl, rfl, rfl, by decide +kernel, rfl, by decide +kernel, by decide +kernel⟩
theorem fit_all {α : Type} {f : α → PyData} {g : α → Nat} {k : Nat} : ∀ {l : List α}, (∀ x ∈ l, Fit (f x) k (g x)) → FitAll (l.map f) k ((l.map fun x => g x + 2).sum)
  | [], _ => .nil
  | x :: l, h => FitAll.cons (h x List.mem_cons_self) (fit_all fun y hy => h y (List.mem_cons_of_mem _ hy)) (by rw [List.map_cons, List.sum_cons]; omega)
theorem sum_le {α : Type} {f g : α → Nat} {c : Nat} (h : ∀ x, f x ≤ c * g x) : ∀ l : List α, (l.map f).sum ≤ c * (l.map g).sum
  | [] => Nat.zero_le _
  | x :: l => by
    have a := sum_le h l
    have b := h x
    rw [List.map_cons, List.sum_cons, List.map_cons, List.sum_cons, Nat.mul_add]
    omega
theorem fit_word {u : Str} (h : Wd u) : Fit (.str u) 0 (10 * u.length + 2) := fit_str (by
  rw [PyData.shown_str]
  exact StrLaws.reprText_len u fun c hc => Nat.lt_of_lt_of_le (h.asc c hc) (by decide))
theorem fit_line {u : Str} (h : Wd u) : Fit (dLine u) 1 (12 * (u.length + 1) + 2) := by
  obtain ⟨_, _, s3⟩ := split_wd (w := u) (b := " ") (c := 32) (by decide +kernel) (by decide) h
  have sw := Qf.split_wt (w := u) (b := " ") (c := 32) (by decide +kernel) (by decide)
  have fa := fit_all (k := 0) (f := PyData.str) (g := fun w : Str => 10 * w.length + 2) (l := Txt.split u " ") fun w hw => fit_word (s3 w hw).1
  refine fa.tup.up (by decide) ?_
  have := sum_le (f := fun w : Str => 10 * w.length + 2 + 2) (g := fun w => w.length + 1) (c := 12) (fun w => by omega) (Txt.split u " ")
  have sw : ((Txt.split u " ").map fun w => w.length + 1).sum = u.length + 1 := sw
  rw [sw] at this
  omega
theorem fit_rows {z : Str} (h : Wd z) : Fit (.tuple ((linesOf z).map dLine)) 2 1600100 := by
  unfold linesOf
  by_cases zn : z = ""
  · rw [if_pos zn]
    exact (FitAll.nil (k := 1) (L := 0)).tup.up (by decide) (by decide)
  · rw [if_neg zn]
    obtain ⟨_, _, s3⟩ := split_wd (w := z) (b := "\n") (c := 10) (by decide +kernel) (by decide) h
    have sw := Qf.split_wt (w := z) (b := "\n") (c := 10) (by decide +kernel) (by decide)
    have fa := fit_all (k := 1) (f := dLine) (g := fun u : Str => 12 * (u.length + 1) + 2) (l := Txt.split z "\n") fun u hu => fit_line (s3 u hu).1
    refine fa.tup.up (by decide) ?_
    have := sum_le (f := fun u : Str => 12 * (u.length + 1) + 2 + 2) (g := fun u => u.length + 1) (c := 16) (fun w => by omega) (Txt.split z "\n")
    have sw : ((Txt.split z "\n").map fun w => w.length + 1).sum = z.length + 1 := sw
    rw [sw] at this
    have := h.few
    omega
theorem lines_few {z : Str} (h : Wd z) {i : Nat} {u : Str} (e : (linesOf z)[i]? = some u) : i ≤ 100000 := by
  have il := (List.getElem?_eq_some_iff.mp e).1
  have fz := h.few
  unfold linesOf at il
  by_cases zn : z = ""
  · rw [if_pos zn] at il
    exact absurd il (Nat.not_lt_zero _)
  · rw [if_neg zn] at il
    obtain ⟨_, s2, _⟩ := split_wd (w := z) (b := "\n") (c := 10) (by decide +kernel) (by decide) h
    omega
theorem fit_due {e r : PyData} (h : DueIs e r) (wd : ∀ z, e = .str z → Wd z) : Fit r 3 1600400 := by
  have f1 : Fit (.str "rows") 0 42 := fit_str (by decide +kernel)
  have f2 : Fit (.str "bad") 0 32 := fit_str (by decide +kernel)
  have fi : ∀ i : Nat, i ≤ 100000 → Fit (.tuple [.str "bad", .int i]) 3 1600400 := fun i hi => by
    have f3 : Fit (.int (i : Int)) 0 121 := fit_wide (Nat.lt_of_le_of_lt (show ((i : Int)).natAbs ≤ 100000 by omega) (by decide))
    exact (FitAll.cons f2 (FitAll.cons f3 (FitAll.nil (L := 0)) (Nat.le_refl _)) (Nat.le_refl _)).tup.up (by decide) (by decide)
  rcases h with ⟨_, rfl⟩ | ⟨z, ez, _, rfl⟩ | ⟨z, i, u, ez, h1, _, _, rfl⟩
  · exact fi 0 (by decide)
  · exact (FitAll.cons (f1.up (by decide) (Nat.le_refl _)) (FitAll.cons (fit_rows (wd z ez)) (FitAll.nil (L := 0)) (Nat.le_refl _)) (Nat.le_refl _)).tup.up (by decide) (by decide)
  · exact fi i (lines_few (wd z ez) h1)
def spIs (K : PySem.W.Frag) : Sp := fun vs H Q _ => ∃ (D : Addr → Prop) (x : V) (e : PyData), vs = [x] ∧ Av K D H x e ∧ Shw e ∧ (∀ z, e = .str z → Wd z) ∧ ∀ H', Ex H H' → Q (.bl true) H'
theorem rep_due {K : PySem.W.Frag} {H : Hp} {t : Addr} {e r : PyData} {Q : VK} (td : Td K H (.ref t) r) (h : DueIs e r) (wd : ∀ z, e = .str z → Wd z) (q : Q (.str r.shown) H) : rReprD K [.ref t] H Q := by
  have f := fit_due h wd
  exact ⟨.ref t, r, rfl, td.dp, f.sh, f.nd, Nat.le_trans f.dp (by decide), Nat.le_trans f.ln (by rw [sizeLine_eq]; decide), q⟩
section
variable {P : Program} {w : World} {K : PySem.W.Frag} {mg : Str → Option Value} {base : Heap}
theorem ok_is {f fH fD : Addr} {fd fdH fdD : FuncData} (F : Fun K "_law_is_right" "_law_is_right" sIs f fd) (FH : Fun K "_law_heard" "_law_heard" sHeard fH fdH) (FD : Fun K "_law_due" "_law_due" sDue fD fdD) (bH : Binds K fdH ["_law_value"] []) (bD : Binds K fdD ["_law_value"] []) (gH : mg "_law_heard" = some (.ref fH)) (gD : mg "_law_due" = some (.ref fD)) (mP : mg "repr" = none)
    (GH : FnG P w K mg base CX0 9 fH fdH ["_law_value"] (spDue K)) (GD' : FnOk P w K mg base CX0 6 fD fdD ["_law_value"] (spDue K)) : FnG P w K mg base CX0 10 f fd ["_law_value"] (spIs K) := by
  have GD : FnOk P w K mg base CX0 9 fD fdD ["_law_value"] (spDue K) := GD'.mono (by decide)
  refine fng0_of F scIs (fun vs H Q E h => ?_) (fun cdv A outer s H vs Q E hr gd h => ?_)
  · obtain ⟨D, x, e, rfl, _⟩ := h
    rfl
  · obtain ⟨D, x, e, rfl, av, sh, wd, q⟩ := h
    refine ⟨_, pss_cons (ps_set (i := 1) scIs.nd rfl (.inl rfl) (pe_callB (call_reprA gd hr.units) (by rfl) mP boot_repr (pa_cons (pv 0) pa_nil))) <|
      pss_one (ps_ret (pe_and (pe_cmpR op_eq (pe_callB (call_reprD gd hr.units) (by rfl) mP boot_repr (pa_cons (pe_callG GH hr gd (by rfl) gH FH.kp bH .nil pass0 (pa_cons (pv 0) pa_nil)) pa_nil)) (pe_callB (call_reprD gd hr.units) (by rfl) mP boot_repr (pa_cons (pe_call GD hr (by rfl) gD FD.kp bD .nil pass0 (pa_cons (pv 0) pa_nil)) pa_nil)) (nomark _)) (pe_one (pe_cmpR op_eq (pe_callB (call_reprA gd hr.units) (by rfl) mP boot_repr (pa_cons (pv 0) pa_nil)) (pv 1) (nomark _))))), ?_⟩
    refine seq_of (asg_of (cb_of (c_of (v_of rfl (n_of (repA_of av sh ?_))))))
    dsimp only
    refine ret_of (andv_of (op_of (cb_of (c_of (call_of (c_of (v_of rfl (n_of ⟨D, x, e, rfl, av, wd, fun H1 t r e1 due td => n_of (rep_due td due wd ?_)⟩))))))))
    have av1 := av.keep (H' := H1) fun a o _ h => e1 a o h
    refine cb_of (c_of (call_of (c_of (v_of rfl (n_of ⟨D, x, e, rfl, av1, wd, fun H2 t' r' e2 due' td' => n_of (rep_due td' due' wd ⟨rfl, _, rfl, ?_⟩)⟩)))))
    rw [due_one due due', decide_eq_true rfl, if_pos rfl]
    have av2 := av1.keep (H' := H2) fun a o _ h => e2 a o h
    refine op_of (cb_of (c_of (v_of rfl (n_of (repA_of av2 sh (v_of rfl ⟨rfl, ?_⟩))))))
    rw [decide_eq_true rfl]
    exact q H2 (e1.trans e2)
end
end Qw
/-! the rows by hand -/
namespace Qw
open PySem PySem.Spec PyProof.Rows L2 Evl Gd Sn Ex
abbrev sHand : Stmt := topS 62
abbrev nHand : List Str := ["_law_some"]
theorem scHand : FnScope nHand [] (defScope sHand) := ⟨rfl, rfl, rfl, by decide +kernel, rfl, by decide +kernel, by decide +kernel⟩
def handL : List Str := (["", " ", "let", "let a", "let a =", "let a = 1000000001", "let a = -1000000001", "let a = -0", "let a = b.6"] : List Str) ++ (["let a = record counted 7", "let a = record counted 06", "let a = record counted 2 then", "say"] : List Str) ++ (["let a = record counted 2 then G", "let none = 1", "let get = 1", "let aB = 1", "let abcdefghi = 1"] : List Str) ++ (["say get get", "say a at b", "say at at at", "let counted = map counted", "a.0=1", "a.0 = b.0"] : List Str) ++ (["a. = 1", "say 0"] : List Str) ++ (["repeat 10001", "repeat a", "proc G", "proc p a a", "proc p a b c d", "proc p a b c d e"] : List Str) ++ (["do p p", "do G", "proc end", "drop 1", "hold none", "if a is", "if a is b c", "else if", "end end"] : List Str) ++ (["minor 1", "rings", "slice -1", "compact 1 1", "let a = weak traced 1", "let a = at"] : List Str) ++ (["a at b = none"] : List Str)
theorem hand_wd : ∀ z ∈ handL, Wd z := by
  have all : ∀ z ∈ handL, ((TL.tl z).all fun c => decide (c < 128)) = true ∧ z.length ≤ 99000 := by decide +kernel
  exact fun z h => ((Qf.lit (all z h).1).up (all z h).2).wd (Nat.le_refl _)
def spHand : Sp := fun vs H Q _ => vs = [] ∧ ∀ H' p, Ex H H' → H' p = some (.lst (handL.map V.str)) → Q (.ref p) H'
/-- comes to these texts, written out -/
def VsA (ta : TA) (ws : List Str) : Prop := ∀ (σ : L2.St) (H : Hp) (Q : List V → Hp → Prop), Q (ws.map V.str) H → ta σ H Q
theorem vs_n : VsA tNil [] := fun _ _ _ q => n_of q
theorem vs_c {ta : TA} {z : Str} {ws : List Str} (h : VsA ta ws) : VsA (tCons (tC (.str z)) ta) (z :: ws) := fun σ H Q q => c_of (k_of (h σ H _ q))
theorem lst_new {σ : L2.St} {H : Hp} {ta : TA} {ws : List Str} {Q : VK} (h : VsA ta ws) (few : ws.length ≤ 100) (q : ∀ p, H p = none → Q (.ref p) (upd H p (.lst (ws.map V.str)))) : tLst ta σ H Q :=
  lst_of (h _ _ _ ⟨by rw [List.length_map]; exact Nat.le_trans few (by show 100 ≤ sizeLine; decide), q⟩)
theorem lst_more {σ : L2.St} {H : Hp} {ta : TA} {ws us : List Str} {i : Nat} {l : Addr} {Q : VK} (e : σ[i]? = some (some (.ref l))) (hl : H l = some (.lst (ws.map V.str))) (h : VsA ta us) (few : ws.length + us.length ≤ 100) (q : ∀ H' p, Ex H H' → H' p = some (.lst ((ws ++ us).map V.str)) → Q (.ref p) H') : tOp rCat (tVar i) (tLst ta) σ H Q :=
  op_of (v_of e (lst_new h (by omega) fun p hp => ⟨l, p, _, _, rfl, rfl, (Ex.new hp) _ _ hl, upd_same, by rw [List.length_map, List.length_map]; exact Nat.le_trans few (by show 100 ≤ sizeLine; decide), fun p2 hp2 => q _ p2 ((Ex.new hp).trans (Ex.new hp2)) (by rw [upd_same, List.map_append])⟩))
section
variable {P : Program} {w : World} {K : PySem.W.Frag} {mg : Str → Option Value} {base : Heap}
theorem ok_hand {f : Addr} {fd : FuncData} (F : Fun K "_law_hand_rows" "_law_hand_rows" sHand f fd) : FnOk P w K mg base CX0 1 f fd [] spHand := by
  refine F.ok scHand (fun vs H Q E h => ?_) (fun cdv A outer s H vs Q E hr h => ?_)
  · obtain ⟨rfl, _⟩ := h
    rfl
  · obtain ⟨rfl, q⟩ := h
    refine ⟨_, pss_cons (ps_set (i := 0) scHand.nd rfl (.inl rfl) (pe_lst (pa_cons pe_str <| pa_cons pe_str <| pa_cons pe_str <| pa_cons pe_str <| pa_cons pe_str <| pa_cons pe_str <| pa_cons pe_str <| pa_cons pe_str pa_nil))) <|
      pss_cons (ps_expr (pe_bm PySem.F.plainAttrs_list PySem.F.slot_list_append PySem.F.type_list_append mt_append (pv 0) (pa_cons pe_str pa_nil))) <|
      pss_cons (ps_set (i := 0) scHand.nd rfl (.inl rfl) (pe_op op_cat (pv 0) (pe_lst (pa_cons pe_str <| pa_cons pe_str <| pa_cons pe_str <| pa_cons pe_str pa_nil)))) <|
      pss_cons (ps_set (i := 0) scHand.nd rfl (.inl rfl) (pe_op op_cat (pv 0) (pe_lst (pa_cons pe_str <| pa_cons pe_str <| pa_cons pe_str <| pa_cons pe_str <| pa_cons pe_str pa_nil)))) <|
      pss_cons (ps_set (i := 0) scHand.nd rfl (.inl rfl) (pe_op op_cat (pv 0) (pe_lst (pa_cons pe_str <| pa_cons pe_str <| pa_cons pe_str <| pa_cons pe_str <| pa_cons pe_str <| pa_cons pe_str pa_nil)))) <|
      pss_cons (ps_set (i := 0) scHand.nd rfl (.inl rfl) (pe_op op_cat (pv 0) (pe_lst (pa_cons pe_str <| pa_cons pe_str pa_nil)))) <|
      pss_cons (ps_set (i := 0) scHand.nd rfl (.inl rfl) (pe_op op_cat (pv 0) (pe_lst (pa_cons pe_str <| pa_cons pe_str <| pa_cons pe_str <| pa_cons pe_str <| pa_cons pe_str <| pa_cons pe_str pa_nil)))) <|
      pss_cons (ps_set (i := 0) scHand.nd rfl (.inl rfl) (pe_op op_cat (pv 0) (pe_lst (pa_cons pe_str <| pa_cons pe_str <| pa_cons pe_str <| pa_cons pe_str <| pa_cons pe_str <| pa_cons pe_str <| pa_cons pe_str <| pa_cons pe_str <| pa_cons pe_str pa_nil)))) <|
      pss_cons (ps_set (i := 0) scHand.nd rfl (.inl rfl) (pe_op op_cat (pv 0) (pe_lst (pa_cons pe_str <| pa_cons pe_str <| pa_cons pe_str <| pa_cons pe_str <| pa_cons pe_str <| pa_cons pe_str pa_nil)))) <|
      pss_one (ps_ret (pe_op op_cat (pv 0) (pe_lst (pa_cons pe_str pa_nil)))), ?_⟩
    refine seq_of (asg_of (lst_new (ws := ["", " ", "let", "let a", "let a =", "let a = 1000000001", "let a = -1000000001", "let a = -0"]) (vs_c <| vs_c <| vs_c <| vs_c <| vs_c <| vs_c <| vs_c <| vs_c <| vs_n) (by decide) fun p hp => ?_))
    have h1 : (upd H p (.lst ((["", " ", "let", "let a", "let a =", "let a = 1000000001", "let a = -1000000001", "let a = -0"] : List Str).map V.str))) p = some (.lst ((["", " ", "let", "let a", "let a =", "let a = 1000000001", "let a = -1000000001", "let a = -0"] : List Str).map V.str)) := upd_same
    have x1 : Ex H (upd H p (.lst ((["", " ", "let", "let a", "let a =", "let a = 1000000001", "let a = -1000000001", "let a = -0"] : List Str).map V.str))) := Ex.new hp
    dsimp only
    refine seq_of (drop_of (v_of rfl ⟨.inl ⟨rfl, _, sq_of h1⟩, c_of (k_of (n_of ⟨p, _, .str "let a = b.6", rfl, rfl, h1, sz_lt (by show 8 < 100000; decide), ?_⟩))⟩))
    have h2 : (upd (upd H p (.lst ((["", " ", "let", "let a", "let a =", "let a = 1000000001", "let a = -1000000001", "let a = -0"] : List Str).map V.str))) p (.lst ((["", " ", "let", "let a", "let a =", "let a = 1000000001", "let a = -1000000001", "let a = -0"] : List Str).map V.str ++ [.str "let a = b.6"]))) p = some (.lst ((["", " ", "let", "let a", "let a =", "let a = 1000000001", "let a = -1000000001", "let a = -0", "let a = b.6"] : List Str).map V.str)) := upd_same
    have x2 : Ex H (upd (upd H p (.lst ((["", " ", "let", "let a", "let a =", "let a = 1000000001", "let a = -1000000001", "let a = -0"] : List Str).map V.str))) p (.lst ((["", " ", "let", "let a", "let a =", "let a = 1000000001", "let a = -1000000001", "let a = -0"] : List Str).map V.str ++ [.str "let a = b.6"]))) := Ex.mut x1 hp
    generalize upd (upd H p (.lst ((["", " ", "let", "let a", "let a =", "let a = 1000000001", "let a = -1000000001", "let a = -0"] : List Str).map V.str))) p (.lst ((["", " ", "let", "let a", "let a =", "let a = 1000000001", "let a = -1000000001", "let a = -0"] : List Str).map V.str ++ [.str "let a = b.6"])) = G0 at h2 x2 ⊢
    clear h1 x1 hp
    dsimp only
    refine seq_of (asg_of (lst_more rfl h2 (us := ["let a = record counted 7", "let a = record counted 06", "let a = record counted 2 then", "say"]) (vs_c <| vs_c <| vs_c <| vs_c <| vs_n) (by decide) fun G1 p1 e h3 => ?_))
    have x3 := x2.trans e
    clear e h2 x2
    dsimp only
    refine seq_of (asg_of (lst_more rfl h3 (us := ["let a = record counted 2 then G", "let none = 1", "let get = 1", "let aB = 1", "let abcdefghi = 1"]) (vs_c <| vs_c <| vs_c <| vs_c <| vs_c <| vs_n) (by decide) fun G2 p2 e h4 => ?_))
    have x4 := x3.trans e
    clear e h3 x3
    dsimp only
    refine seq_of (asg_of (lst_more rfl h4 (us := ["say get get", "say a at b", "say at at at", "let counted = map counted", "a.0=1", "a.0 = b.0"]) (vs_c <| vs_c <| vs_c <| vs_c <| vs_c <| vs_c <| vs_n) (by decide) fun G3 p3 e h5 => ?_))
    have x5 := x4.trans e
    clear e h4 x4
    dsimp only
    refine seq_of (asg_of (lst_more rfl h5 (us := ["a. = 1", "say 0"]) (vs_c <| vs_c <| vs_n) (by decide) fun G4 p4 e h6 => ?_))
    have x6 := x5.trans e
    clear e h5 x5
    dsimp only
    refine seq_of (asg_of (lst_more rfl h6 (us := ["repeat 10001", "repeat a", "proc G", "proc p a a", "proc p a b c d", "proc p a b c d e"]) (vs_c <| vs_c <| vs_c <| vs_c <| vs_c <| vs_c <| vs_n) (by decide) fun G5 p5 e h7 => ?_))
    have x7 := x6.trans e
    clear e h6 x6
    dsimp only
    refine seq_of (asg_of (lst_more rfl h7 (us := ["do p p", "do G", "proc end", "drop 1", "hold none", "if a is", "if a is b c", "else if", "end end"]) (vs_c <| vs_c <| vs_c <| vs_c <| vs_c <| vs_c <| vs_c <| vs_c <| vs_c <| vs_n) (by decide) fun G6 p6 e h8 => ?_))
    have x8 := x7.trans e
    clear e h7 x7
    dsimp only
    refine seq_of (asg_of (lst_more rfl h8 (us := ["minor 1", "rings", "slice -1", "compact 1 1", "let a = weak traced 1", "let a = at"]) (vs_c <| vs_c <| vs_c <| vs_c <| vs_c <| vs_c <| vs_n) (by decide) fun G7 p7 e h9 => ?_))
    have x9 := x8.trans e
    clear e h8 x8
    dsimp only
    refine ret_of (lst_more rfl h9 (us := ["a at b = none"]) (vs_c <| vs_n) (by decide) fun G p e h => ?_)
    exact q G p (x9.trans e) h
end
end Qw
namespace Qf
open PySem PySem.Spec PyProof.Rows L2 Evl Gd Qw
abbrev sRow : Stmt := topS 57
abbrev nRow : List Str := ["_law_pot_here", "_law_name", "_law_other", "_law_third", "_law_worth", "_law_number", "_law_home", "_law_spot", "_law_call", "_law_reads", "_law_made", "_law_rows", "_law_turn"]
theorem scRow : FnScope nRow ["_law_pot_here"] (defScope sRow) := ⟨rfl, rfl, rfl, by decide +kernel, rfl, by decide +kernel, by decide +kernel⟩
def spRow : Sp := fun vs H Q _ => ∃ (d : Addr) (n : Int), vs = [.ref d] ∧ Pot H d n ∧ n ≤ 900000 ∧ ∀ H' r, RowT r → Off d H H' → Pot H' d (n + 20) → Q (.str r) H'
section
variable {P : Program} {w : World} {K : PySem.W.Frag} {mg : Str → Option Value} {base : Heap}
theorem ok_row {f fT fO : Addr} {fd fdT fdO : FuncData} (F : Fun K "_law_form_row" "_law_form_row" sRow f fd) (FT : Fun K "_law_take" "_law_take" sTake fT fdT) (FO : Fun K "_law_of" "_law_of" sOf fO fdO) (bT : Binds K fdT ["_law_pot_here", "_law_many"] []) (bO : Binds K fdO ["_law_pot_here", "_law_some"] [])
    (gT : mg "_law_take" = some (.ref fT)) (gO : mg "_law_of" = some (.ref fO)) (mL : mg "len" = none) (mS : mg "str" = none) (mR : mg "range" = none) : FnOk P w K mg base CX0 3 f fd ["_law_pot_here"] spRow := by
  have GT : FnOk P w K mg base CX0 2 fT fdT ["_law_pot_here", "_law_many"] spTake := (ok_take FT).mono (by decide)
  have GO : FnOk P w K mg base CX0 2 fO fdO ["_law_pot_here", "_law_some"] spOf := ok_of FO FT bT gT mL
  refine F.ok scRow (fun vs H Q E h => ?_) (fun cdv A outer s H vs Q E hr h => ?_)
  · obtain ⟨d, n, rfl, _⟩ := h
    rfl
  · obtain ⟨d, n, rfl, hP, hn, q⟩ := h
    refine ⟨_, (pss_cons (ps_asg (pe_lc (own := [("_law_turn", 12)]) (g := gName 12) (tt := tYes) (te := tCall spOf [] E0 (tCons (tVar 0) (tCons (tLst (tCons (tC (.str "a")) (tCons (tC (.str "b")) (tCons (tC (.str "x")) (tCons (tC (.str "G")) (tCons (tC (.str "Hello")) (tCons (tC (.str "abcdefgh")) (tCons (tC (.str "k")) tNil)))))))) tNil))) rfl scRow.nd (pi_range1 (by rfl) mR (pa_cons pe_int pa_nil)) (blkOk_by (N := nRow) (sc := defScope sRow) (by decide +kernel)) (fun _ _ _ _ _ => pg_name (i := 12) scRow.nd rfl (.inl rfl)) (fun _ _ _ _ _ => pts_nil) (fun _ _ _ _ _ => (pe_call GO hr (by rfl) gO FO.kp bO .nil pass0 (pa_cons (pv 0) (pa_cons (pe_lst (pa_cons pe_str (pa_cons pe_str (pa_cons pe_str (pa_cons pe_str (pa_cons pe_str (pa_cons pe_str (pa_cons pe_str pa_nil)))))))) pa_nil))))) (pg_lst (n := 3) rfl (pgs_cons (pg_name (i := 1) scRow.nd rfl (.inl rfl)) (pgs_cons (pg_name (i := 2) scRow.nd rfl (.inl rfl)) (pgs_cons (pg_name (i := 3) scRow.nd rfl (.inl rfl)) pgs_nil)))))
      (pss_cons (ps_set (i := 4) scRow.nd rfl (.inl rfl) (pe_call GO hr (by rfl) gO FO.kp bO .nil pass0 (pa_cons (pv 0) (pa_cons (pe_lst (pa_cons (pv 1) (pa_cons pe_str (pa_cons pe_str (pa_cons pe_str (pa_cons pe_str (pa_cons pe_str (pa_cons (pe_callTy call_str_int (by rfl) mS (by decide +kernel) (pa_cons (pe_call GT hr (by rfl) gT FT.kp bT .nil pass0 (pa_cons (pv 0) (pa_cons (pe_op op_pow pe_int pe_int) pa_nil))) pa_nil)) pa_nil)))))))) pa_nil))))
      (pss_cons (ps_par (i := 5) (j := 6) rfl scRow.nd rfl rfl (by decide) rfl rfl (pa_cons (pe_callTy call_str_int (by rfl) mS (by decide +kernel) (pa_cons (pe_call GO hr (by rfl) gO FO.kp bO .nil pass0 (pa_cons (pv 0) (pa_cons (pe_lst (pa_cons pe_int (pa_cons pe_int (pa_cons pe_int (pa_cons (pe_call GT hr (by rfl) gT FT.kp bT .nil pass0 (pa_cons (pv 0) (pa_cons pe_int pa_nil))) pa_nil))))) pa_nil))) pa_nil)) (pa_cons (pe_call GO hr (by rfl) gO FO.kp bO .nil pass0 (pa_cons (pv 0) (pa_cons (pe_lst (pa_cons pe_str (pa_cons pe_str pa_nil))) pa_nil))) pa_nil)) (by rfl))
      (pss_cons (ps_par (i := 7) (j := 8) rfl scRow.nd rfl rfl (by decide) rfl rfl (pa_cons (pe_op op_add_str (pe_op op_add_str (pv 2) pe_str) (pe_callTy call_str_int (by rfl) mS (by decide +kernel) (pa_cons (pe_call GT hr (by rfl) gT FT.kp bT .nil pass0 (pa_cons (pv 0) (pa_cons pe_int pa_nil))) pa_nil))) (pa_cons (pe_call GO hr (by rfl) gO FO.kp bO .nil pass0 (pa_cons (pv 0) (pa_cons (pe_lst (pa_cons pe_str (pa_cons pe_str (pa_cons pe_str pa_nil)))) pa_nil))) pa_nil)) (by rfl))
      (pss_cons (ps_set (i := 9) scRow.nd rfl (.inl rfl) (pe_lst (pa_cons (pv 4) (pa_cons (pv 7) (pa_cons (pe_op op_add_str pe_str (pv 2)) (pa_cons (pe_op op_add_str (pe_op op_add_str (pv 2) pe_str) (pv 3)) pa_nil))))))
      (pss_cons (ps_set (i := 10) scRow.nd rfl (.inl rfl) (pe_lst (pa_cons (pe_op op_add_str (pe_op op_add_str (pe_op op_add_str pe_str (pv 6)) pe_str) (pe_callTy call_str_int (by rfl) mS (by decide +kernel) (pa_cons (pe_call GT hr (by rfl) gT FT.kp bT .nil pass0 (pa_cons (pv 0) (pa_cons pe_int pa_nil))) pa_nil))) (pa_cons (pe_op op_add_str (pe_op op_add_str (pe_op op_add_str pe_str (pv 6)) pe_str) (pv 2)) (pa_cons (pe_op op_add_str pe_str (pv 6)) pa_nil)))))
      (pss_cons (ps_expr (pe_bm PySem.F.plainAttrs_list PySem.F.slot_list_append PySem.F.type_list_append mt_append (pv 10) (pa_cons (pe_op op_add_str (pe_op op_add_str (pe_ix ix_list (pv 10) pe_int (fun _ _ => rfl)) pe_str) (pv 8)) pa_nil)))
      (pss_cons (ps_set (i := 11) scRow.nd rfl (.inl rfl) (pe_lst (pa_cons (pe_op op_add_str (pe_op op_add_str (pe_op op_add_str pe_str (pv 1)) pe_str) (pe_call GO hr (by rfl) gO FO.kp bO .nil pass0 (pa_cons (pv 0) (pa_cons (pe_op op_cat (pv 9) (pv 10)) pa_nil)))) (pa_cons (pe_op op_add_str pe_str (pe_call GO hr (by rfl) gO FO.kp bO .nil pass0 (pa_cons (pv 0) (pa_cons (pv 9) pa_nil)))) (pa_cons (pe_op op_add_str pe_str (pv 1)) pa_nil)))))
      (pss_cons (ps_set (i := 11) scRow.nd rfl (.inl rfl) (pe_op op_cat (pv 11) (pe_lst (pa_cons (pe_op op_add_str pe_str (pv 1)) (pa_cons (pe_op op_add_str pe_str (pv 1)) (pa_cons (pe_op op_add_str pe_str (pv 1)) (pa_cons (pe_op op_add_str pe_str (pv 1)) (pa_cons (pe_op op_add_str (pe_op op_add_str (pv 7) pe_str) (pv 4)) pa_nil))))))))
      (pss_cons (ps_set (i := 11) scRow.nd rfl (.inl rfl) (pe_op op_cat (pv 11) (pe_lst (pa_cons (pe_op op_add_str (pe_op op_add_str (pe_op op_add_str (pe_op op_add_str (pv 2) pe_str) (pv 3)) pe_str) (pv 4)) (pa_cons (pe_op op_add_str (pe_op op_add_str (pe_op op_add_str pe_str (pv 4)) pe_str) (pv 3)) (pa_cons pe_str (pa_cons pe_str pa_nil)))))))
      (pss_cons (ps_set (i := 11) scRow.nd rfl (.inl rfl) (pe_op op_cat (pv 11) (pe_lst (pa_cons (pe_op op_add_str pe_str (pv 5)) (pa_cons (pe_op op_add_str pe_str (pv 8)) (pa_cons (pe_op op_add_str (pe_op op_add_str pe_str (pv 8)) pe_str) (pa_cons (pe_op op_add_str pe_str (pv 8)) pa_nil)))))))
      (pss_cons (ps_expr (pe_bm PySem.F.plainAttrs_list PySem.F.slot_list_append PySem.F.type_list_append mt_append (pv 11) (pa_cons (pe_op op_add_str (pe_op op_add_str (pe_op op_add_str pe_str (pv 8)) pe_str) (pv 4)) pa_nil)))
      (pss_cons (ps_set (i := 11) scRow.nd rfl (.inl rfl) (pe_op op_cat (pv 11) (pe_lst (pa_cons pe_str (pa_cons (pe_op op_add_str pe_str (pv 5)) (pa_cons pe_str (pa_cons (pe_op op_add_str pe_str (pv 5)) (pa_cons (pe_op op_add_str pe_str (pv 5)) (pa_cons pe_str (pa_cons pe_str pa_nil))))))))))
      (pss_one (ps_ret (pe_call GO hr (by rfl) gO FO.kp bO .nil pass0 (pa_cons (pv 0) (pa_cons (pe_op op_cat (pv 11) (pe_slice sl_list (pv 11) po_none (po_some pe_int))) pa_nil)))))))))))))))))), ?_⟩
    refine seq_of (asgG_of (rd_names (n := n) (d := d) (j := 12) (m := 3) (by decide) hn (fun x => ev_var rfl) (fun x H1 => el_lst (ea_cons ev_c (ea_cons ev_c (ea_cons ev_c (ea_cons ev_c (ea_cons ev_c (ea_cons ev_c (ea_cons ev_c ea_nil))))))) (by show 7 ≤ 100000; decide)) (fun x => rfl) hP (fun x H1 => ev_var rfl) fun p H1 ws o1 p1 h1 l1 mem => ?_))
    obtain ⟨nm, ot, th, rfl⟩ : ∃ a b c, ws = [a, b, c] := by
      match ws, l1 with
      | [a, b, c], _ => exact ⟨a, b, c, rfl⟩
    have mn := mem nm (by simp)
    have mo := mem ot (by simp)
    have mt := mem th (by simp)
    refine ⟨p, _, rfl, sq_of h1, rfl, .str nm, _, rfl, .str ot, _, rfl, .str th, [], rfl, rfl, ?_⟩
    -- the value's word
    refine seq_of (asg_of (call_of (c_of (v_of rfl (c_of (lst_of ?_))))))
    refine c_of (v_of rfl (c_of (k_of ?_)))
    refine c_of (k_of (c_of (k_of (c_of (k_of (c_of (k_of ?_)))))))
    refine c_of (cb_of (c_of (call_of (c_of (v_of rfl (c_of (op_of (k_of (k_of ⟨10, 9, rfl, rfl, ⟨by decide, by decide, by decide⟩, n_of ?_⟩)))))))))
    refine ⟨d, n + 3, _, rfl, p1, by omega, by decide, by decide, fun H2 r2 o2 p2 l2 u2 => n_of ⟨r2, rfl, ?_, n_of ⟨by show 7 ≤ sizeLine; decide, fun q2 m2 => n_of ?_⟩⟩⟩
    · have e9 : (10 : Int) ^ (9 : Int).toNat = 1000000000 := by decide
      rw [e9] at u2
      exact log_small (by omega)
    have off2 := o1.trans o2
    refine ⟨d, q2, n + 3 + 1, _, rfl, p2.ex (Ex.new m2), by omega, p2.ne m2, upd_same, by show 0 < 7; decide, by show 7 ≤ 1000; decide, fun H3 x hx o3 p3 => ?_⟩
    have off3 := off2.trans ((Off.of (Ex.new m2)).trans o3)
    obtain ⟨wo, rfl, hw⟩ : ∃ wo : Str, x = .str wo ∧ isWo nm wo := by
      have e9 : (10 : Int) ^ (9 : Int).toNat = 1000000000 := by decide
      rw [e9] at u2
      simp only [List.mem_cons, List.not_mem_nil, or_false] at hx
      rcases hx with rfl | rfl | rfl | rfl | rfl | rfl | rfl
      · exact ⟨_, rfl, .inl rfl⟩
      · exact ⟨_, rfl, .inr (.inl (by simp))⟩
      · exact ⟨_, rfl, .inr (.inl (by simp))⟩
      · exact ⟨_, rfl, .inr (.inl (by simp))⟩
      · exact ⟨_, rfl, .inr (.inl (by simp))⟩
      · exact ⟨_, rfl, .inr (.inl (by simp))⟩
      · exact ⟨_, rfl, .inr (.inr ⟨r2, l2, u2, rfl⟩)⟩
    -- the number's word, the home
    try dsimp only
    refine seq_of (par_of (c_of (cb_of (c_of (call_of (c_of (v_of rfl (c_of (lst_of ?_)))))))))
    refine c_of (k_of (c_of (k_of (c_of (k_of (c_of (call_of (c_of (v_of rfl (c_of (k_of (n_of ?_))))))))))))
    refine ⟨d, n + 3 + 1 + 1, 10001, rfl, p3, by omega, by decide, by decide, fun H4 r4 o4 p4 l4 u4 => n_of ⟨by show 4 ≤ sizeLine; decide, fun q4 m4 => n_of ?_⟩⟩
    refine ⟨d, q4, n + 3 + 1 + 1 + 1, _, rfl, p4.ex (Ex.new m4), by omega, p4.ne m4, upd_same, by show 0 < 4; decide, by show 4 ≤ 1000; decide, fun H5 x hx o5 p5 => ?_⟩
    have off5 := (off3.trans o4).trans ((Off.of (Ex.new m4)).trans o5)
    obtain ⟨v5, rfl, l5, u5⟩ : ∃ m : Int, x = .int m ∧ 0 ≤ m ∧ m ≤ 10000 := by
      simp only [List.mem_cons, List.not_mem_nil, or_false] at hx
      rcases hx with rfl | rfl | rfl | rfl
      · exact ⟨_, rfl, by decide, by decide⟩
      · exact ⟨_, rfl, by decide, by decide⟩
      · exact ⟨_, rfl, by decide, by decide⟩
      · exact ⟨_, rfl, l4, by omega⟩
    refine n_of ⟨v5, rfl, log_small (by omega), ?_⟩
    refine c_of (rd_of (d := d) (ev_var rfl) p5 (by omega) (el_lst (vs := homes2.map V.str) (ea_cons ev_c (ea_cons ev_c ea_nil)) (by show 2 ≤ 100000; decide)) (by decide) (by decide) fun H6 x hx o6 p6 => n_of ⟨_, _, rfl, ?_⟩)
    obtain ⟨ho, hh, rfl⟩ := List.mem_map.mp hx
    have off6 := off5.trans o6
    have hnu : isNu 10000 (toString v5 : String) := ⟨v5, l5, u5, rfl⟩
    generalize ((toString v5 : String) : Str) = nu at hnu ⊢
    try dsimp only
    -- the place, the call's name
    refine seq_of (par_of (c_of (op_of (op_of (v_of rfl (k_of ⟨_, _, rfl, rfl, sz2 (name_len mo) (show (("." : Str)).length ≤ 1 by decide), ?_⟩))))))
    refine cb_of (c_of (call_of (c_of (v_of rfl (c_of (k_of (n_of ⟨d, _, 6, rfl, p6, by omega, by decide, by decide, fun H7 r7 o7 p7 l7 u7 => ?_⟩)))))))
    have hsp : isSp ot (ot ++ ("." : Str) ++ ((toString r7 : String) : Str)) := ⟨r7, l7, u7, rfl⟩
    refine n_of ⟨r7, rfl, log_small (by omega), _, _, rfl, rfl, sz2 (n := 9) (m := 11) (by rw [strLen_append]; have := name_len mo; show _ + 1 ≤ 9; omega) (int_len r7 (by omega)), ?_⟩
    have off7 := off6.trans o7
    generalize ot ++ ("." : Str) ++ ((toString r7 : String) : Str) = sp at hsp ⊢
    refine c_of (rd_of (d := d) (ev_var rfl) p7 (by omega) (el_lst (vs := calls3.map V.str) (ea_cons ev_c (ea_cons ev_c (ea_cons ev_c ea_nil))) (by show 3 ≤ 100000; decide)) (by decide) (by decide) fun H8 x hx o8 p8 => n_of ⟨_, _, rfl, ?_⟩)
    obtain ⟨ca, hc, rfl⟩ := List.mem_map.mp hx
    have off8 := off7.trans o8
    try dsimp only
    -- what is read
    have lwo := wo_len mn hw
    have lsp := sp_len mo hsp
    have lot := name_len mo
    have lth := name_len mt
    have lnm := name_len mn
    have lho := home_len hh
    have lca := call_len hc
    have lnu := nu_len (by decide) hnu
    refine seq_of (asg_of (el_lst (vs := (readsOf wo sp ot th).map V.str) (ea_cons (ev_var rfl) (ea_cons (ev_var rfl) (ea_cons (es_cat (es_c 4) (es_v rfl lot)).1 (ea_cons (es_cat (es_cat (es_v rfl lot) (es_c 4)) (es_v rfl lth)).1 ea_nil)))) (by show 4 ≤ 100000; decide) H8 (Ex.refl H8) _ fun pr H9 n9 e9 h9 => ?_))
    have off9 := off8.trans (Off.of e9)
    have p9 := p8.ex e9
    try dsimp only
    -- what is made
    refine seq_of (asg_of (lst_of (c_of (op_of ((es_cat (es_cat (es_c 7) (es_v rfl lho)) (es_c 1)).at fun H10 e10 => cb_of (c_of (call_of (c_of (v_of rfl (c_of (k_of (n_of ⟨d, _, 7, rfl, p9.ex e10, by omega, by decide, by decide, fun H11 k11 o11 p11 l11 u11 => ?_⟩))))))))))))
    have lrec : (("record " : Str) ++ ho ++ (" " : Str)).length ≤ 7 + 7 + 1 := le_app (le_app (by decide) lho) (by decide)
    refine n_of ⟨k11, rfl, log_small (by omega), _, _, rfl, rfl, sz2 lrec (int_len k11 (by omega)), ?_⟩
    have hk : isNu 6 (toString k11 : String) := ⟨k11, l11, by omega, rfl⟩
    have lm0 : (("record " : Str) ++ ho ++ (" " : Str) ++ ((toString k11 : String) : Str)).length ≤ 7 + 7 + 1 + 11 := le_app lrec (int_len k11 (by omega))
    generalize ((toString k11 : String) : Str) = kw at hk lm0 ⊢
    have off11 := (off9.trans (Off.of e10)).trans o11
    refine (ea_cons (es_cat (es_cat (es_cat (es_c 5) (es_v rfl lho)) (es_c 1)) (es_v rfl lot)).1 (ea_cons (es_cat (es_c 4) (es_v rfl lho)).1 ea_nil)) H11 (Ex.refl H11) _ fun H12 e12 => ⟨by show 3 ≤ sizeLine; decide, fun pm nm12 => ?_⟩
    have p12 := p11.ex e12
    have dm := p12.ne nm12
    have lkw := nu_len (by decide) hk
    have offm := off11.trans (Off.of e12)
    have hpm : H pm = none := by
      cases z : H pm with
      | none => rfl
      | some o =>
        have dd : pm ≠ d := dm
        rw [offm pm o dd z] at nm12
        cases nm12
    have hr12 : H12 pr = some (.lst ((readsOf wo sp ot th).map V.str)) := e12 _ _ (o11 _ _ (p8.ne n9) (e10 _ _ h9))
    have rm : pr ≠ pm := ne_of_none hr12 nm12
    have hm : (upd H12 pm (.lst ((madeOf ho kw ot).map V.str))) pm = some (.lst ((madeOf ho kw ot).map V.str)) := upd_same
    have hr13 := (Ex.new (o := .lst ((madeOf ho kw ot).map V.str)) nm12) _ _ hr12
    have p13 := p12.ex (Ex.new (o := .lst ((madeOf ho kw ot).map V.str)) nm12)
    have off13 : Off d H (upd H12 pm (.lst ((madeOf ho kw ot).map V.str))) := off_mut offm hpm
    change tSeq _ _ _ _ (upd H12 pm (.lst ((madeOf ho kw ot).map V.str)))
    generalize upd H12 pm (.lst ((madeOf ho kw ot).map V.str)) = G at hm hr13 p13 off13 ⊢
    refine q_app hm (ev_var rfl) (es_cat (es_cat ⟨ev_op (ev_var rfl) ev_c (rv_ixL (sq_of hm) (atI_nat (j := 0) rfl)), lm0⟩ (es_c 6)) (es_v rfl lca)).1 (by show 3 < 100000; decide) fun H14 e14 => ?_
    have hm14 : (upd H14 pm (.lst ((made4 ho kw ot ca).map V.str))) pm = some (.lst ((made4 ho kw ot ca).map V.str)) := upd_same
    have hr14 : (upd H14 pm (.lst ((made4 ho kw ot ca).map V.str))) pr = some (.lst ((readsOf wo sp ot th).map V.str)) := by
      rw [upd_ne rm]
      exact e14 _ _ hr13
    have p14 : Pot (upd H14 pm (.lst ((made4 ho kw ot ca).map V.str))) d (n + 3 + 1 + 1 + 1 + 1 + 1 + 1 + 1 + 1) := by
      obtain ⟨g, b, c, h0, h⟩ := p13
      refine ⟨g, b, c, ?_, h.1, h.2.1, h.2.2.1, h.2.2.2.1, h.2.2.2.2.1, by have := h.2.2.2.2.2; omega⟩
      rw [upd_ne (Ne.symm dm)]
      exact e14 _ _ h0
    have off14 : Off d H (upd H14 pm (.lst ((made4 ho kw ot ca).map V.str))) := off_mut (off13.trans (Off.of e14)) hpm
    change tSeq _ _ _ _ (upd H14 pm (.lst ((made4 ho kw ot ca).map V.str)))
    generalize upd H14 pm (.lst ((made4 ho kw ot ca).map V.str)) = G2 at hm14 hr14 p14 off14 ⊢
    have dr : pr ≠ d := p8.ne n9
    refine seq_of (asg_of (lst_of (c_of (op_of ((es_cat (es_cat (es_c 4) (es_v rfl lnm)) (es_c 3)).at fun H15 e15 => rd_of (d := d) (ev_var rfl) (p14.ex e15) (by omega) (el_cat (ev_var rfl) (ev_var rfl) (e15 _ _ hr14) (e15 _ _ hm14) (by show 4 + 4 ≤ 10000; decide)) (by show 0 < 8; decide) (by show 8 ≤ 1000; decide) fun H16 x hx o16 p16 => ?_)))))
    obtain ⟨l, hl, rfl⟩ : ∃ l, l ∈ readsOf wo sp ot th ++ made4 ho kw ot ca ∧ x = .str l := by
      rcases List.mem_append.mp hx with h | h
      · obtain ⟨y, hy, rfl⟩ := List.mem_map.mp h
        exact ⟨y, List.mem_append_left _ hy, rfl⟩
      · obtain ⟨y, hy, rfl⟩ := List.mem_map.mp h
        exact ⟨y, List.mem_append_right _ hy, rfl⟩
    have ll : l.length ≤ 50 := by
      rcases List.mem_append.mp hl with h | h
      · exact reads_len lwo lsp lot lth h
      · exact made_len lho lkw lot lca h
    refine ⟨_, _, rfl, rfl, sz2 (le_app (le_app (show (("let " : Str)).length ≤ 4 by decide) lnm) (show ((" = " : Str)).length ≤ 3 by decide)) ll, ?_⟩
    have off16 := off14.trans ((Off.of e15).trans o16)
    refine c_of (op_of (k_of (rd_ofV (d := d) rfl rfl p16 (by omega) dr (o16 _ _ dr (e15 _ _ hr14)) (by show 0 < 4; decide) (by show 4 ≤ 1000; decide) fun H17 y hy o17 p17 => ?_)))
    obtain ⟨sx, hs, rfl⟩ := List.mem_map.mp hy
    have ls : sx.length ≤ 50 := reads_len lwo lsp lot lth hs
    refine ⟨_, _, rfl, rfl, sz2 (show (("say " : Str)).length ≤ 4 by decide) ls, ?_⟩
    have off17 := off16.trans o17
    refine (ea_cons (es_cat (es_c 5) (es_v rfl lnm)).1 ea_nil) H17 (Ex.refl H17) _ fun H18 e18 => ⟨by show 3 ≤ sizeLine; decide, fun q18 n18 => ?_⟩
    have p18 := p17.ex e18
    have d18 := p18.ne n18
    have off19 := (off17.trans (Off.of e18)).trans (Off.of (Ex.new (o := .lst ((rowsA nm l sx).map V.str)) n18))
    have p19 := p18.ex (Ex.new (o := .lst ((rowsA nm l sx).map V.str)) n18)
    have h19 : (upd H18 q18 (.lst ((rowsA nm l sx).map V.str))) q18 = some (.lst ((rowsA nm l sx).map V.str)) := upd_same
    try dsimp only
    change tSeq _ _ _ _ (upd H18 q18 (.lst ((rowsA nm l sx).map V.str)))
    generalize upd H18 q18 (.lst ((rowsA nm l sx).map V.str)) = G3 at off19 p19 h19 ⊢
    -- the further rows
    refine seq_of (asg_of (el_catL (ys := (rowsB nm sp wo).map V.str) (ev_var rfl) (el_lst (ea_cons (es_cat (es_c 5) (es_v rfl lnm)).1 (ea_cons (es_cat (es_c 8) (es_v rfl lnm)).1 (ea_cons (es_cat (es_c 4) (es_v rfl lnm)).1 (ea_cons (es_cat (es_c 6) (es_v rfl lnm)).1 (ea_cons (es_cat (es_cat (es_v rfl lsp) (es_c 3)) (es_v rfl lwo)).1 ea_nil))))) (by show 5 ≤ 100000; decide)) h19 (by show 3 + 5 ≤ 10000; decide) G3 (Ex.refl G3) _ fun q20 H20 n20 e20 h20 => ?_))
    try dsimp only
    refine seq_of (asg_of (el_catL (ys := (rowsC ot th wo).map V.str) (ev_var rfl) (el_lst (ea_cons (es_cat (es_cat (es_cat (es_cat (es_v rfl lot) (es_c 4)) (es_v rfl lth)) (es_c 3)) (es_v rfl lwo)).1 (ea_cons (es_cat (es_cat (es_cat (es_c 3) (es_v rfl lwo)) (es_c 4)) (es_v rfl lth)).1 (ea_cons ev_c (ea_cons ev_c ea_nil)))) (by show 4 ≤ 100000; decide)) h20 (by show 8 + 4 ≤ 10000; decide) H20 (Ex.refl H20) _ fun q21 H21 n21 e21 h21 => ?_))
    try dsimp only
    refine seq_of (asg_of (el_catL (ys := (rowsD nu ca).map V.str) (ev_var rfl) (el_lst (ea_cons (es_cat (es_c 7) (es_v rfl lnu)).1 (ea_cons (es_cat (es_c 5) (es_v rfl lca)).1 (ea_cons (es_cat (es_cat (es_c 5) (es_v rfl lca)) (es_c 4)).1 (ea_cons (es_cat (es_c 3) (es_v rfl lca)).1 ea_nil)))) (by show 4 ≤ 100000; decide)) h21 (by show 12 + 4 ≤ 10000; decide) H21 (Ex.refl H21) _ fun q22 H22 n22 e22 h22 => ?_))
    try dsimp only
    have e1922 := (e20.trans e21).trans e22
    have off22 := off19.trans (Off.of e1922)
    have p22 := p19.ex e1922
    have d22 : q22 ≠ d := (p19.ex (e20.trans e21)).ne n22
    have hq22 : H q22 = none := by
      cases z : H q22 with
      | none => rfl
      | some o =>
        rw [(off19.trans (Off.of (e20.trans e21))) q22 o d22 z] at n22
        cases n22
    refine q_app h22 (ev_var rfl) (es_cat (es_cat (es_cat (es_c 3) (es_v rfl lca)) (es_c 1)) (es_v rfl lwo)).1 (by show 16 < 100000; decide) fun H23 e23 => ?_
    have off24 := off_mut (o := .lst ((rowsA nm l sx ++ rowsB nm sp wo ++ rowsC ot th wo ++ rowsD nu ca ++ [("do " : Str) ++ ca ++ (" " : Str) ++ wo]).map V.str)) (off22.trans (Off.of e23)) hq22
    have h24 : (upd H23 q22 (.lst ((rowsA nm l sx ++ rowsB nm sp wo ++ rowsC ot th wo ++ rowsD nu ca ++ [("do " : Str) ++ ca ++ (" " : Str) ++ wo]).map V.str))) q22 = some (.lst ((rowsA nm l sx ++ rowsB nm sp wo ++ rowsC ot th wo ++ rowsD nu ca ++ [("do " : Str) ++ ca ++ (" " : Str) ++ wo]).map V.str)) := upd_same
    have p24 : Pot (upd H23 q22 (.lst ((rowsA nm l sx ++ rowsB nm sp wo ++ rowsC ot th wo ++ rowsD nu ca ++ [("do " : Str) ++ ca ++ (" " : Str) ++ wo]).map V.str))) d (n + 3 + 1 + 1 + 1 + 1 + 1 + 1 + 1 + 1 + 1 + 1) := by
      obtain ⟨g, b, c, h0, h⟩ := p22
      refine ⟨g, b, c, ?_, h.1, h.2.1, h.2.2.1, h.2.2.2.1, h.2.2.2.2.1, by have := h.2.2.2.2.2; omega⟩
      rw [upd_ne (Ne.symm d22)]
      exact e23 _ _ h0
    change tSeq _ _ _ _ (upd H23 q22 (.lst ((rowsA nm l sx ++ rowsB nm sp wo ++ rowsC ot th wo ++ rowsD nu ca ++ [("do " : Str) ++ ca ++ (" " : Str) ++ wo]).map V.str)))
    generalize upd H23 q22 (.lst ((rowsA nm l sx ++ rowsB nm sp wo ++ rowsC ot th wo ++ rowsD nu ca ++ [("do " : Str) ++ ca ++ (" " : Str) ++ wo]).map V.str)) = G4 at off24 h24 p24 ⊢
    refine seq_of (asg_of (el_catL (ys := (rowsE nu).map V.str) (ev_var rfl) (el_lst (ea_cons ev_c (ea_cons (es_cat (es_c 6) (es_v rfl lnu)).1 (ea_cons ev_c (ea_cons (es_cat (es_c 6) (es_v rfl lnu)).1 (ea_cons (es_cat (es_c 8) (es_v rfl lnu)).1 (ea_cons ev_c (ea_cons ev_c ea_nil))))))) (by show 7 ≤ 100000; decide)) h24 (by show 17 + 7 ≤ 10000; decide) G4 (Ex.refl G4) _ fun q25 H25 n25 e25 h25 => ?_))
    try dsimp only
    rw [← List.map_append] at h25
    have off25 := off24.trans (Off.of e25)
    have p25 := p24.ex e25
    refine ret_of (rd_of (d := d) (ev_var rfl) p25 (by omega) (el_catL (ev_var rfl) (el_sl (ev_var rfl) eo_none (eo_some ev_c) (sq_of h25)) h25 ?_) ?_ ?_ fun H26 x hx o26 p26 => ?_)
    · have a := cutV_length ((rowsOf nm ot th wo nu ho sp ca l sx).map V.str) none (some 2)
      have b : ((rowsOf nm ot th wo nu ho sp ca l sx).map V.str).length = 24 := by rw [List.length_map, rows_len]
      show ((rowsOf nm ot th wo nu ho sp ca l sx).map V.str).length + (cutV ((rowsOf nm ot th wo nu ho sp ca l sx).map V.str) none (some 2)).length ≤ 10000
      omega
    · show 0 < (((rowsOf nm ot th wo nu ho sp ca l sx).map V.str) ++ _).length
      rw [List.length_append, List.length_map, rows_len]
      omega
    · exact Nat.le_trans (two_len (xs := (rowsOf nm ot th wo nu ho sp ca l sx).map V.str) (n := 24) (by rw [List.length_map, rows_len]) _ _) (by decide)
    obtain ⟨r, hr, rfl⟩ : ∃ r, r ∈ rowsOf nm ot th wo nu ho sp ca l sx ∧ x = .str r := by
      rcases List.mem_append.mp hx with h | h
      · obtain ⟨y, hy, rfl⟩ := List.mem_map.mp h
        exact ⟨y, hy, rfl⟩
      · obtain ⟨y, hy, rfl⟩ := List.mem_map.mp (mem_cut h)
        exact ⟨y, hy, rfl⟩
    exact q H26 r ⟨nm, ot, th, wo, nu, ho, sp, ca, kw, l, sx, mn, mo, mt, hw, hnu, hh, hsp, hc, hk, hl, hs, hr⟩ (off25.trans o26) (p26.up (by omega))
end
end Qf
/-! the drawn rows are short texts of ASCII signs -/
namespace Qf
open PySem PySem.Spec PyProof.Rows L2 Evl Gd Qw
theorem reads_sh {wo sp ot th x : Str} (h_wo : Sh 11 wo) (h_sp : Sh 20 sp) (h_ot : Sh 8 ot) (h_th : Sh 8 th) (h : x ∈ readsOf wo sp ot th) : Sh 60 x := by
  simp only [readsOf, List.mem_cons, List.not_mem_nil, or_false] at h
  rcases h with rfl | rfl | rfl | rfl
  · exact h_wo.up (by decide +kernel)
  · exact h_sp.up (by decide +kernel)
  · exact ((lit (s := "get ") (by decide +kernel)).cat h_ot).up (by decide +kernel)
  · exact ((h_ot.cat (lit (s := " at ") (by decide +kernel))).cat h_th).up (by decide +kernel)
theorem made_sh {ho k ot ca x : Str} (h_ho : Sh 8 ho) (h_k : Sh 11 k) (h_ot : Sh 8 ot) (h_ca : Sh 8 ca) (h : x ∈ made4 ho k ot ca) : Sh 60 x := by
  simp only [made4, madeOf, List.cons_append, List.nil_append, List.mem_cons, List.not_mem_nil, or_false] at h
  rcases h with rfl | rfl | rfl | rfl
  · exact ((((lit (s := "record ") (by decide +kernel)).cat h_ho).cat (lit (s := " ") (by decide +kernel))).cat h_k).up (by decide +kernel)
  · exact ((((lit (s := "weak ") (by decide +kernel)).cat h_ho).cat (lit (s := " ") (by decide +kernel))).cat h_ot).up (by decide +kernel)
  · exact ((lit (s := "map ") (by decide +kernel)).cat h_ho).up (by decide +kernel)
  · exact ((((((lit (s := "record ") (by decide +kernel)).cat h_ho).cat (lit (s := " ") (by decide +kernel))).cat h_k).cat (lit (s := " then ") (by decide +kernel))).cat h_ca).up (by decide +kernel)
theorem RowT.sh {r : Str} (h : RowT r) : Sh 100 r := by
  obtain ⟨nm, ot, th, wo, nu, ho, sp, ca, k, l, s, a1, a2, a3, a4, a5, a6, a7, a8, a9, hl, hs, hr⟩ := h
  have h_nm := names_sh _ a1
  have h_ot := names_sh _ a2
  have h_th := names_sh _ a3
  have h_wo := wo_sh a1 a4
  have h_nu := nu_sh (by decide) a5
  have h_ho := homes_sh _ a6
  have h_sp := sp_sh a2 a7
  have h_ca := calls_sh _ a8
  have h_k := nu_sh (by decide) a9
  have h_s := reads_sh h_wo h_sp h_ot h_th hs
  have h_l : Sh 60 l := (List.mem_append.mp hl).elim (reads_sh h_wo h_sp h_ot h_th) (made_sh h_ho h_k h_ot h_ca)
  simp only [rowsOf, rowsA, rowsB, rowsC, rowsD, rowsE, List.cons_append, List.nil_append, List.mem_cons, List.not_mem_nil, or_false] at hr
  rcases hr with rfl | rfl | rfl | rfl | rfl | rfl | rfl | rfl | rfl | rfl | rfl | rfl | rfl | rfl | rfl | rfl | rfl | rfl | rfl | rfl | rfl | rfl | rfl | rfl
  · exact ((((lit (s := "let ") (by decide +kernel)).cat h_nm).cat (lit (s := " = ") (by decide +kernel))).cat h_l).up (by decide +kernel)
  · exact ((lit (s := "say ") (by decide +kernel)).cat h_s).up (by decide +kernel)
  · exact ((lit (s := "drop ") (by decide +kernel)).cat h_nm).up (by decide +kernel)
  · exact ((lit (s := "hold ") (by decide +kernel)).cat h_nm).up (by decide +kernel)
  · exact ((lit (s := "release ") (by decide +kernel)).cat h_nm).up (by decide +kernel)
  · exact ((lit (s := "pin ") (by decide +kernel)).cat h_nm).up (by decide +kernel)
  · exact ((lit (s := "unpin ") (by decide +kernel)).cat h_nm).up (by decide +kernel)
  · exact ((h_sp.cat (lit (s := " = ") (by decide +kernel))).cat h_wo).up (by decide +kernel)
  · exact ((((h_ot.cat (lit (s := " at ") (by decide +kernel))).cat h_th).cat (lit (s := " = ") (by decide +kernel))).cat h_wo).up (by decide +kernel)
  · exact ((((lit (s := "if ") (by decide +kernel)).cat h_wo).cat (lit (s := " is ") (by decide +kernel))).cat h_th).up (by decide +kernel)
  · exact (lit (s := "else") (by decide +kernel)).up (by decide +kernel)
  · exact (lit (s := "end") (by decide +kernel)).up (by decide +kernel)
  · exact ((lit (s := "repeat ") (by decide +kernel)).cat h_nu).up (by decide +kernel)
  · exact ((lit (s := "proc ") (by decide +kernel)).cat h_ca).up (by decide +kernel)
  · exact (((lit (s := "proc ") (by decide +kernel)).cat h_ca).cat (lit (s := " y z") (by decide +kernel))).up (by decide +kernel)
  · exact ((lit (s := "do ") (by decide +kernel)).cat h_ca).up (by decide +kernel)
  · exact ((((lit (s := "do ") (by decide +kernel)).cat h_ca).cat (lit (s := " ") (by decide +kernel))).cat h_wo).up (by decide +kernel)
  · exact (lit (s := "minor") (by decide +kernel)).up (by decide +kernel)
  · exact ((lit (s := "rings ") (by decide +kernel)).cat h_nu).up (by decide +kernel)
  · exact (lit (s := "begin") (by decide +kernel)).up (by decide +kernel)
  · exact ((lit (s := "slice ") (by decide +kernel)).cat h_nu).up (by decide +kernel)
  · exact ((lit (s := "compact ") (by decide +kernel)).cat h_nu).up (by decide +kernel)
  · exact (lit (s := "finalize") (by decide +kernel)).up (by decide +kernel)
  · exact (lit (s := "settle") (by decide +kernel)).up (by decide +kernel)
end Qf
/-! texts cut and joined: what stays short and ASCII -/
namespace Qf
open PySem PySem.Spec PyProof.Rows L2 Evl Gd Qw
/-- comes to some short text -/
def Tx (σ : L2.St) (H : Hp) (te : TE) (m : Nat) : Prop := ∀ Q : VK, (∀ z, Sh m z → Q (.str z) H) → te σ H Q
/-- comes to a list of words of so many signs -/
def Gw (K : PySem.W.Frag) (σ : L2.St) (H : Hp) (te : TE) (n : Nat) : Prop := ∀ Q : VK, (∀ H' (p : Addr) (ws : List Str), Ex H H' → H' p = some (.lst (ws.map V.str)) → (∀ u ∈ ws, Asc (TL.tl u)) → wt ws ≤ n → Q (.ref p) H') → te σ H Q
section
variable {K : PySem.W.Frag} {σ : L2.St} {H : Hp} {ta tb : TE} {m n : Nat}
abbrev rCS : R2 := fun x y H Q => ∃ i j, x = V.str i ∧ y = V.str j ∧ i.length + j.length ≤ sizeLine ∧ Q (V.str (i ++ j)) H
theorem tx_var {i : Nat} {z : Str} (e : σ[i]? = some (some (.str z))) (h : Sh m z) : Tx σ H (tVar i) m := fun Q q => Qf.v_of e (q z h)
theorem tx_cat (a : Tx σ H ta m) (b : Tx σ H tb n) (h : m + n ≤ 90000) : Tx σ H (tOp rCS ta tb) (m + n) := fun Q q =>
  Qf.op_of (a _ fun z hz => b _ fun y hy => ⟨z, y, rfl, rfl, by rw [sizeLine_eq]; have := hz.2; have := hy.2; omega, q _ (hz.cat hy)⟩)
theorem tx_cut {lo hi : TO} {i : Nat} {z : Str} (e : σ[i]? = some (some (.str z))) (h : Sh m z) (le : m ≤ 90000) (hlo : ∀ Q : Option Int → Hp → Prop, (∀ o, Q o H) → lo σ H Q) (hhi : ∀ Q : Option Int → Hp → Prop, (∀ o, Q o H) → hi σ H Q) : Tx σ H (L2.tSl rSlS (tVar i) lo hi) m := fun Q q =>
  Qf.v_of e (hlo _ fun o1 => hhi _ fun o2 => ⟨z, rfl, by rw [sizeLine_eq]; have := h.2; omega, q _ (h.cut o1 o2)⟩)
theorem p_no (Q : Option Int → Hp → Prop) (q : ∀ o, Q o H) : tNoPart σ H Q := q none
theorem p_var {i : Nat} {k : Int} (e : σ[i]? = some (some (.int k))) (Q : Option Int → Hp → Prop) (q : ∀ o, Q o H) : tPart (tVar i) σ H Q := Qf.v_of e ⟨k, rfl, q _⟩
theorem p_inc {i : Nat} {k j : Int} (e : σ[i]? = some (some (.int k))) (Q : Option Int → Hp → Prop) (q : ∀ o, Q o H) : tPart (tOp (rI0 fun i j => .int (i + j)) (tVar i) (tC (.int j))) σ H Q :=
  Qf.op_of (Qf.v_of e (Qf.k_of ⟨k, j, rfl, rfl, _, rfl, q _⟩))
theorem cut_words {ws : List Str} {lo hi : Option Int} : ∃ us : List Str, cutV (ws.map V.str) lo hi = us.map V.str ∧ (∀ u ∈ us, u ∈ ws) ∧ wt us ≤ wt ws := by
  unfold cutV
  refine ⟨(ws.drop (HT.sIx (ws.map V.str).length 0 lo)).take (HT.sIx (ws.map V.str).length (ws.map V.str).length hi - HT.sIx (ws.map V.str).length 0 lo), ?_, fun u h => List.mem_of_mem_drop (List.mem_of_mem_take h), Nat.le_trans (wt_take _ _) (wt_drop _ _)⟩
  rw [List.map_take, List.map_drop]
theorem gw_cut {lo hi : TO} {i : Nat} {l : Addr} {ws : List Str} (e : σ[i]? = some (some (.ref l))) (h : H l = some (.lst (ws.map V.str))) (as : ∀ u ∈ ws, Asc (TL.tl u)) (le : wt ws ≤ n) (hlo : ∀ Q : Option Int → Hp → Prop, (∀ o, Q o H) → lo σ H Q) (hhi : ∀ Q : Option Int → Hp → Prop, (∀ o, Q o H) → hi σ H Q) :
    Gw K σ H (L2.tSl (rSlL K) (tVar i) lo hi) n := fun Q q =>
  Qf.v_of e (hlo _ fun o1 => hhi _ fun o2 => ⟨l, _, rfl, sq_of h, fun p hp => by
    obtain ⟨us, e1, e2, e3⟩ := cut_words (ws := ws) (lo := o1) (hi := o2)
    exact q _ p us (Ex.new hp) (by rw [upd_same, e1]) (fun u hu => as u (e2 u hu)) (by omega)⟩)
theorem wt_len (ws : List Str) : ws.length ≤ wt ws := by
  unfold wt
  induction ws with
  | nil => exact Nat.le_refl _
  | cons a r ih =>
    rw [List.map_cons, List.sum_cons, List.length_cons]
    omega
theorem wt_sum (ws : List Str) : (ws.map (·.length)).sum + ws.length = wt ws := by
  unfold wt
  induction ws with
  | nil => rfl
  | cons a r ih =>
    rw [List.map_cons, List.sum_cons, List.map_cons, List.sum_cons, List.length_cons]
    omega
theorem gw_cat (a : Gw K σ H ta m) (b : ∀ H', Ex H H' → Gw K σ H' tb n) (le : m + n ≤ 90000) : Gw K σ H (tOp rCat ta tb) (m + n) := fun Q q =>
  Qf.op_of (a _ fun H1 p ws x1 hp as1 w1 => b H1 x1 _ fun H2 p2 us x2 hp2 as2 w2 => ⟨p, p2, _, _, rfl, rfl, x2 _ _ hp, hp2, by rw [List.length_map, List.length_map, sizeLine_eq]; have := wt_len ws; have := wt_len us; omega, fun p3 hp3 => q _ p3 (ws ++ us) ((x1.trans x2).trans (Ex.new hp3)) (by rw [upd_same, List.map_append]) (fun u hu => (List.mem_append.mp hu).elim (as1 u) (as2 u)) (by rw [wt_app]; omega)⟩)
theorem gw_lst1 {i : Nat} {z : Str} (e : σ[i]? = some (some (.str z))) (h : Sh m z) : Gw K σ H (tLst (tCons (tVar i) tNil)) (m + 1) := fun Q q =>
  Qf.lst_of (Qf.c_of (Qf.v_of e (Qf.n_of ⟨by show 1 ≤ sizeLine; decide, fun p hp => q _ p [z] (Ex.new hp) upd_same (fun u hu => by rw [List.mem_singleton.mp hu]; exact h.1) (by unfold wt; simp; exact h.2)⟩)))
/-- y.join(words) -/
abbrev rJoinW (K : PySem.W.Frag) : V → List V → Hp → VK → Prop := fun x xs H Q => ∃ a p, ∃ ys : List Str, x = .str a ∧ xs = [.ref p] ∧ (SqL K H p (ys.map V.str) ∨ SqT K H p (ys.map V.str)) ∧ (ys.map (·.length)).sum + ys.length * a.length ≤ 16777216 ∧ Q (.str (Txt.join a ys)) H
theorem join_w {y : Str} {c : Nat} {Q : VK} (hy : TL.tl y = [c]) (hc : c < 128) (a : Gw K σ H ta m) (le : m ≤ 90000) (q : ∀ H' z, Ex H H' → Sh m z → Q (.str z) H') : tM1 (rJoinW K) (tC (.str y)) ta σ H Q :=
  Qf.k_of ⟨⟨y, rfl⟩, a _ fun H1 p ws x1 hp as w => ⟨y, p, ws, rfl, rfl, .inl (sq_of hp), by
    have l1 : y.length = 1 := by rw [TL.len_tl, hy]; rfl
    have := wt_sum ws
    rw [l1]
    omega, q H1 _ x1 (join_sh hy hc as w)⟩⟩
end
end Qf
/-! rows with a sign or a word otherwise -/
namespace Qf
open PySem PySem.Spec PyProof.Rows L2 Evl Gd Qw
abbrev sSpoilt : Stmt := topS 58
abbrev nSpoilt : List Str := ["_law_pot_here", "_law_row", "_law_at", "_law_sign", "_law_words", "_law_place", "_law_words_here", "_law_other", "_law_some"]
theorem scSpoilt : FnScope nSpoilt ["_law_pot_here", "_law_row"] (defScope sSpoilt) := ⟨rfl, rfl, rfl, by decide +kernel, rfl, by decide +kernel, by decide +kernel⟩
/-- one of a text's signs -/
def spOfS : Sp := fun vs H Q _ => ∃ (d : Addr) (n : Int) (z : Str), vs = [.ref d, .str z] ∧ Pot H d n ∧ n ≤ 1000000 ∧ 0 < z.length ∧ z.length ≤ 1000 ∧
  ∀ H' c, c ∈ TL.tl z → Off d H H' → Pot H' d (n + 1) → Q (.str ⟨#[c]⟩) H'
def spSpoilt : Sp := fun vs H Q _ => ∃ (d : Addr) (n : Int) (z : Str) (m : Nat), vs = [.ref d, .str z] ∧ Pot H d n ∧ n ≤ 900000 ∧ Sh m z ∧ m ≤ 5000 ∧
  ∀ H' r, Sh (2 * m + 20) r → Off d H H' → Pot H' d (n + 6) → Q (.str r) H'
abbrev wordsHere : List Str := ["none", "is", "at", "=", "7", "10001", "-0", "007", "abcdefghi", "aB", "G", "x.6", "x.0", "end", ""]
theorem here_sh : ∀ w ∈ wordsHere, Sh 9 w := by
  have all : ∀ w ∈ wordsHere, ((TL.tl w).all fun c => decide (c < 128)) = true ∧ w.length ≤ 9 := by decide +kernel
  exact fun w h => (lit (all w h).1).up (all w h).2
theorem signs_sh {c : Nat} (h : c ∈ TL.tl ("a0 .-=GZz1n" : Str)) : Sh 1 (⟨#[c]⟩ : Str) := by
  have all : ∀ c ∈ TL.tl ("a0 .-=GZz1n" : Str), c < 128 := by decide +kernel
  refine ⟨fun x hx => ?_, Nat.le_refl _⟩
  have hx : x ∈ [c] := hx
  rw [List.mem_singleton.mp hx]
  exact all c h
theorem par3_of {i j l : Nat} {ta : TA} {D : Ends} {σ : L2.St} {H : Hp} (h : ta σ H fun vs H1 => ∃ u v w, vs = [u, v, w] ∧ D.nx (((σ.set i (some u)).set j (some v)).set l (some w)) H1) : tPar3 i j l ta D σ H := h
theorem pot_upd {H : Hp} {d l : Addr} {n : Int} {o : HO} (h : Pot H d n) (ne : l ≠ d) : Pot (upd H l o) d n := by
  obtain ⟨g, b, m, h0, r⟩ := h
  exact ⟨g, b, m, by rw [upd_ne (Ne.symm ne)]; exact h0, r⟩
theorem off_none {d l : Addr} {H H' : Hp} (o : Off d H H') (ne : l ≠ d) (n : H' l = none) : H l = none := by
  cases z : H l with
  | none => rfl
  | some u =>
    rw [o l u ne z] at n
    cases n
section
variable {P : Program} {w : World} {K : PySem.W.Frag} {mg : Str → Option Value} {base : Heap}
theorem ok_ofS {f fT : Addr} {fd fdT : FuncData} (F : Fun K "_law_of" "_law_of" sOf f fd) (FT : Fun K "_law_take" "_law_take" sTake fT fdT) (bT : Binds K fdT ["_law_pot_here", "_law_many"] []) (gT : mg "_law_take" = some (.ref fT)) (mL : mg "len" = none) :
    FnOk P w K mg base CX0 2 f fd ["_law_pot_here", "_law_some"] spOfS := by
  have GT : FnOk P w K mg base CX0 1 fT fdT ["_law_pot_here", "_law_many"] spTake := ok_take FT
  refine F.ok scOf (fun vs H Q E h => ?_) (fun cdv A outer s H vs Q E hr h => ?_)
  · obtain ⟨d, n, z, rfl, _⟩ := h
    rfl
  · obtain ⟨d, n, z, rfl, hP, hn, z0, z1, q⟩ := h
    refine ⟨_, pss_one (ps_ret (pe_ix ix_str (pv 1) (pe_call GT hr (by rfl) gT FT.kp bT .nil pass0 (pa_cons (pv 0) (pa_cons (pe_callB call_len_str (by rfl) mL PySem.boot_len (pa_cons (pv 1) pa_nil)) pa_nil))) (fun _ _ => rfl))), ?_⟩
    refine Qf.ret_of (Qf.op_of (Qf.v_of rfl (Qf.call_of (Qf.c_of (Qf.v_of rfl (Qf.c_of (Qf.cb_of (Qf.c_of (Qf.v_of rfl (Qf.n_of ⟨z, rfl, by rw [sizeLine_eq]; omega, Qf.n_of ⟨d, n, _, rfl, hP, hn, by omega, by omega, fun H1 r o p r0 r1 => ?_⟩⟩))))))))))
    obtain ⟨j, rfl⟩ : ∃ j : Nat, r = j := ⟨r.toNat, by omega⟩
    have len := TL.len_tl z
    have jn : j < (TL.tl z).length := by omega
    exact ⟨z, j, (TL.tl z)[j], rfl, rfl, by rw [sizeLine_eq]; omega, atI_nat (List.getElem?_eq_getElem jn), q H1 _ (List.getElem_mem jn) o p⟩
theorem ok_spoilt {f fT fO : Addr} {fd fdT fdO : FuncData} (F : Fun K "_law_spoilt" "_law_spoilt" sSpoilt f fd) (FT : Fun K "_law_take" "_law_take" sTake fT fdT) (FO : Fun K "_law_of" "_law_of" sOf fO fdO) (bT : Binds K fdT ["_law_pot_here", "_law_many"] []) (bO : Binds K fdO ["_law_pot_here", "_law_some"] [])
    (gT : mg "_law_take" = some (.ref fT)) (gO : mg "_law_of" = some (.ref fO)) (mL : mg "len" = none) : FnOk P w K mg base CX0 3 f fd ["_law_pot_here", "_law_row"] spSpoilt := by
  have GT : FnOk P w K mg base CX0 2 fT fdT ["_law_pot_here", "_law_many"] spTake := (ok_take FT).mono (by decide)
  have GO : FnOk P w K mg base CX0 2 fO fdO ["_law_pot_here", "_law_some"] spOf := ok_of FO FT bT gT mL
  have GS : FnOk P w K mg base CX0 2 fO fdO ["_law_pot_here", "_law_some"] spOfS := ok_ofS FO FT bT gT mL
  refine F.ok scSpoilt (fun vs H Q E h => ?_) (fun cdv A outer s H vs Q E hr h => ?_)
  · obtain ⟨d, n, z, m, rfl, _⟩ := h
    rfl
  · obtain ⟨d, n, z, m, rfl, hP, hn, sh, le, q⟩ := h
    refine ⟨_, pss_cons (ps_par3 (i := 2) (j := 3) (l := 4) rfl scSpoilt.nd rfl rfl rfl (by decide) (by decide) (by decide) rfl rfl rfl (pa_cons (pe_call GT hr (by rfl) gT FT.kp bT .nil pass0 (pa_cons (pv 0) <| pa_cons (pe_op op_add (pe_callB call_len_str (by rfl) mL PySem.boot_len (pa_cons (pv 1) pa_nil)) pe_int) pa_nil)) <| pa_cons (pe_call GS hr (by rfl) gO FO.kp bO .nil pass0 (pa_cons (pv 0) <| pa_cons pe_str pa_nil)) <| pa_cons (pe_split (pv 1) pe_str) pa_nil) (by rfl)) <|
      pss_cons (ps_set (i := 5) scSpoilt.nd rfl (.inl rfl) (pe_call GT hr (by rfl) gT FT.kp bT .nil pass0 (pa_cons (pv 0) <| pa_cons (pe_callB call_len_seq (by rfl) mL PySem.boot_len (pa_cons (pv 4) pa_nil)) pa_nil))) <|
      pss_cons (ps_set (i := 6) scSpoilt.nd rfl (.inl rfl) (pe_lst (pa_cons pe_str <| pa_cons pe_str <| pa_cons pe_str <| pa_cons pe_str <| pa_cons pe_str <| pa_cons pe_str <| pa_cons pe_str <| pa_cons pe_str <| pa_cons pe_str <| pa_cons pe_str <| pa_cons pe_str <| pa_cons pe_str <| pa_cons pe_str <| pa_cons pe_str <| pa_cons pe_str pa_nil))) <|
      pss_cons (ps_set (i := 7) scSpoilt.nd rfl (.inl rfl) (pe_call GO hr (by rfl) gO FO.kp bO .nil pass0 (pa_cons (pv 0) <| pa_cons (pv 6) pa_nil))) <|
      pss_cons (ps_set (i := 8) scSpoilt.nd rfl (.inl rfl) (pe_lst (pa_cons (pe_op op_add_str (pe_slice sl_str (pv 1) po_none (po_some (pv 2))) (pe_slice sl_str (pv 1) (po_some (pe_op op_add (pv 2) pe_int)) po_none)) <|
        pa_cons (pe_op op_add_str (pe_op op_add_str (pe_slice sl_str (pv 1) po_none (po_some (pv 2))) (pv 3)) (pe_slice sl_str (pv 1) (po_some (pv 2)) po_none)) <|
        pa_cons (pe_op op_add_str (pe_op op_add_str (pe_slice sl_str (pv 1) po_none (po_some (pv 2))) (pv 3)) (pe_slice sl_str (pv 1) (po_some (pe_op op_add (pv 2) pe_int)) po_none)) pa_nil))) <|
      pss_cons (ps_expr (pe_bm PySem.F.plainAttrs_list PySem.F.slot_list_append PySem.F.type_list_append mt_append (pv 8) (pa_cons (pe_join pe_str (pe_op op_cat (pe_slice sl_list (pv 4) po_none (po_some (pv 5))) (pe_slice sl_list (pv 4) (po_some (pe_op op_add (pv 5) pe_int)) po_none))) pa_nil))) <|
      pss_cons (ps_expr (pe_bm PySem.F.plainAttrs_list PySem.F.slot_list_append PySem.F.type_list_append mt_append (pv 8) (pa_cons (pe_join pe_str (pe_op op_cat (pe_slice sl_list (pv 4) po_none (po_some (pe_op op_add (pv 5) pe_int))) (pe_slice sl_list (pv 4) (po_some (pv 5)) po_none))) pa_nil))) <|
      pss_one (ps_ret (pe_call GO hr (by rfl) gO FO.kp bO .nil pass0 (pa_cons (pv 0) <| pa_cons (pe_op op_cat (pv 8) (pe_lst (pa_cons (pe_join pe_str (pe_op op_cat (pe_op op_cat (pe_slice sl_list (pv 4) po_none (po_some (pv 5))) (pe_lst (pa_cons (pv 7) pa_nil))) (pe_slice sl_list (pv 4) (po_some (pe_op op_add (pv 5) pe_int)) po_none))) pa_nil))) pa_nil))), ?_⟩
    have zl := sh.2
    have zw : Wd z := sh.wd (by omega)
    refine Qf.seq_of (par3_of (Qf.c_of (Qf.call_of (Qf.c_of (Qf.v_of rfl (Qf.c_of (Qf.op_of (Qf.cb_of (Qf.c_of (Qf.v_of rfl (Qf.n_of ⟨z, rfl, by rw [sizeLine_eq]; omega, Qf.k_of ⟨_, _, rfl, rfl, Qf.n_of ⟨d, n, _, rfl, hP, by omega, by omega, by omega, fun H1 at_ o1 p1 a0 a1 => ?_⟩⟩⟩))))))))))) 
    refine Qf.c_of (Qf.call_of (Qf.c_of (Qf.v_of rfl (Qf.c_of (Qf.k_of (Qf.n_of ⟨d, _, _, rfl, p1, by omega, by decide, by decide, fun H2 c hc o2 p2 => ?_⟩))))))
    have sgn := signs_sh hc
    generalize (⟨#[c]⟩ : Str) = sg at sgn ⊢
    refine Qf.c_of (m1_of (Qf.v_of rfl ⟨⟨_, rfl⟩, Qf.k_of ⟨_, _, rfl, rfl, by decide +kernel, by rw [sizeLine_eq]; omega, fun p hp => Qf.n_of ⟨_, _, _, rfl, ?_⟩⟩⟩))
    obtain ⟨s1, s2, s3⟩ := split_wd (w := z) (b := " ") (c := 32) (by decide +kernel) (by decide) zw
    have sw := split_wt (w := z) (b := " ") (c := 32) (by decide +kernel) (by decide)
    have as : ∀ u ∈ Txt.split z " ", Asc (TL.tl u) := fun u hu => (s3 u hu).1.asc
    have pd := p2.ne hp
    have x3 : Ex H2 (upd H2 p (.lst ((Txt.split z " ").map V.str))) := Ex.new hp
    have hw : (upd H2 p (.lst ((Txt.split z " ").map V.str))) p = some (.lst ((Txt.split z " ").map V.str)) := upd_same
    generalize upd H2 p (.lst ((Txt.split z " ").map V.str)) = H3 at x3 hw ⊢
    generalize Txt.split z " " = ws at s1 s2 as sw hw ⊢
    have off3 := (o1.trans o2).trans (Off.of x3)
    have p3 := p2.ex x3
    have wl := List.length_pos_iff.mpr s1
    have jn : wt ws ≤ m + 1 := by omega
    dsimp only
    refine Qf.seq_of (Qf.asg_of (Qf.call_of (Qf.c_of (Qf.v_of rfl (Qf.c_of (Qf.cb_of (Qf.c_of (Qf.v_of rfl (Qf.n_of ⟨p, _, rfl, .inl (sq_of hw), Qf.n_of ⟨d, _, _, rfl, p3, by omega, by rw [List.length_map]; omega, by rw [List.length_map]; omega, fun H4 pl o4 p4 b0 b1 => ?_⟩⟩)))))))))
    have hw4 := o4 _ _ pd hw
    have off4 := off3.trans o4
    dsimp only
    refine Qf.seq_of (Qf.asg_of (el_lst (vs := wordsHere.map V.str) (ea_cons ev_c (ea_cons ev_c (ea_cons ev_c (ea_cons ev_c (ea_cons ev_c (ea_cons ev_c (ea_cons ev_c (ea_cons ev_c (ea_cons ev_c (ea_cons ev_c (ea_cons ev_c (ea_cons ev_c (ea_cons ev_c (ea_cons ev_c (ea_cons ev_c ea_nil))))))))))))))) (by show 15 ≤ 100000; decide) H4 (Ex.refl H4) _ fun l6 H5 n6 x5 h6 => ?_))
    have p5 := p4.ex x5
    have d6 : l6 ≠ d := p4.ne n6
    dsimp only
    refine Qf.seq_of (Qf.asg_of (Qf.call_of (Qf.c_of (Qf.v_of rfl (Qf.c_of (Qf.v_of rfl (Qf.n_of ⟨d, l6, _, _, rfl, p5, by omega, d6, h6, by show 0 < 15; decide, by show 15 ≤ 1000; decide, fun H6 x hx o6 p6 => ?_⟩)))))))
    obtain ⟨ot, hot, rfl⟩ := List.mem_map.mp hx
    have osh := here_sh ot hot
    have off6 := (off4.trans (Off.of x5)).trans o6
    have hw6 := o6 _ _ pd (x5 _ _ hw4)
    dsimp only
    have cA : ∀ {σ : L2.St} {H : Hp}, σ[1]? = some (some (.str z)) → σ[2]? = some (some (.int at_)) → Tx σ H (L2.tSl rSlS (tVar 1) tNoPart (tPart (tVar 2))) m := fun e1 e2 => tx_cut e1 sh (by omega) p_no (p_var e2)
    have cB : ∀ {σ : L2.St} {H : Hp}, σ[1]? = some (some (.str z)) → σ[2]? = some (some (.int at_)) → Tx σ H (L2.tSl rSlS (tVar 1) (tPart (tOp (rI0 fun i j => .int (i + j)) (tVar 2) (tC (.int 1)))) tNoPart) m := fun e1 e2 => tx_cut e1 sh (by omega) (p_inc e2) p_no
    have cC : ∀ {σ : L2.St} {H : Hp}, σ[1]? = some (some (.str z)) → σ[2]? = some (some (.int at_)) → Tx σ H (L2.tSl rSlS (tVar 1) (tPart (tVar 2)) tNoPart) m := fun e1 e2 => tx_cut e1 sh (by omega) (p_var e2) p_no
    refine Qf.seq_of (Qf.asg_of (Qf.lst_of (Qf.c_of (tx_cat (cA rfl rfl) (cB rfl rfl) (by omega) _ fun t1 g1 => Qf.c_of (tx_cat (tx_cat (cA rfl rfl) (tx_var rfl sgn) (by omega)) (cC rfl rfl) (by omega) _ fun t2 g2 => Qf.c_of (tx_cat (tx_cat (cA rfl rfl) (tx_var rfl sgn) (by omega)) (cB rfl rfl) (by omega) _ fun t3 g3 => Qf.n_of ⟨by show 3 ≤ sizeLine; decide, fun l8 n8 => ?_⟩))))))
    have d8 : l8 ≠ d := p6.ne n8
    have p8 : p ≠ l8 := ne_of_none hw6 n8
    have fr8 : H l8 = none := off_none off6 d8 n8
    have h8 : (upd H6 l8 (.lst [.str t1, .str t2, .str t3])) l8 = some (.lst [.str t1, .str t2, .str t3]) := upd_same
    have hw7 : (upd H6 l8 (.lst [.str t1, .str t2, .str t3])) p = some (.lst (ws.map V.str)) := by
      rw [upd_ne p8]
      exact hw6
    have off7 : Off d H (upd H6 l8 (.lst [.str t1, .str t2, .str t3])) := off_mut off6 fr8
    have p7 := pot_upd (o := .lst [.str t1, .str t2, .str t3]) p6 d8
    generalize upd H6 l8 (.lst [.str t1, .str t2, .str t3]) = H7 at h8 hw7 off7 p7 ⊢
    dsimp only
    refine Qf.seq_of (Sn.drop_of (Qf.v_of rfl ⟨.inl ⟨rfl, _, sq_of h8⟩, Qf.c_of (join_w (c := 32) (by decide +kernel) (by decide) (gw_cat (gw_cut rfl hw7 as jn p_no (p_var rfl)) (fun H' e => gw_cut rfl (e _ _ hw7) as jn (p_inc rfl) p_no) (by omega)) (by omega) fun H8 t4 x8 g4 => Qf.n_of ⟨l8, _, .str t4, rfl, rfl, x8 _ _ h8, sz_lt (by show 3 < 100000; decide), ?_⟩)⟩))
    have h9 : (upd H8 l8 (.lst ([.str t1, .str t2, .str t3] ++ [.str t4]))) l8 = some (.lst [.str t1, .str t2, .str t3, .str t4]) := upd_same
    have hw9 : (upd H8 l8 (.lst ([.str t1, .str t2, .str t3] ++ [.str t4]))) p = some (.lst (ws.map V.str)) := by
      rw [upd_ne p8]
      exact x8 _ _ hw7
    have off9 : Off d H (upd H8 l8 (.lst ([.str t1, .str t2, .str t3] ++ [.str t4]))) := off_mut (off7.trans (Off.of x8)) fr8
    have p9 := pot_upd (o := .lst ([.str t1, .str t2, .str t3] ++ [.str t4])) (p7.ex x8) d8
    generalize upd H8 l8 (.lst ([.str t1, .str t2, .str t3] ++ [.str t4])) = H9 at h9 hw9 off9 p9 ⊢
    dsimp only
    refine Qf.seq_of (Sn.drop_of (Qf.v_of rfl ⟨.inl ⟨rfl, _, sq_of h9⟩, Qf.c_of (join_w (c := 32) (by decide +kernel) (by decide) (gw_cat (gw_cut rfl hw9 as jn p_no (p_inc rfl)) (fun H' e => gw_cut rfl (e _ _ hw9) as jn (p_var rfl) p_no) (by omega)) (by omega) fun H10 t5 x10 g5 => Qf.n_of ⟨l8, _, .str t5, rfl, rfl, x10 _ _ h9, sz_lt (by show 4 < 100000; decide), ?_⟩)⟩))
    have h11 : (upd H10 l8 (.lst ([.str t1, .str t2, .str t3, .str t4] ++ [.str t5]))) l8 = some (.lst [.str t1, .str t2, .str t3, .str t4, .str t5]) := upd_same
    have hw11 : (upd H10 l8 (.lst ([.str t1, .str t2, .str t3, .str t4] ++ [.str t5]))) p = some (.lst (ws.map V.str)) := by
      rw [upd_ne p8]
      exact x10 _ _ hw9
    have off11 : Off d H (upd H10 l8 (.lst ([.str t1, .str t2, .str t3, .str t4] ++ [.str t5]))) := off_mut (off9.trans (Off.of x10)) fr8
    have p11 := pot_upd (o := .lst ([.str t1, .str t2, .str t3, .str t4] ++ [.str t5])) (p9.ex x10) d8
    generalize upd H10 l8 (.lst ([.str t1, .str t2, .str t3, .str t4] ++ [.str t5])) = H11 at h11 hw11 off11 p11 ⊢
    dsimp only
    refine Qf.ret_of (Qf.call_of (Qf.c_of (Qf.v_of rfl (Qf.c_of (Qf.op_of (Qf.v_of rfl (Qf.lst_of ?_)))))))
    refine Qf.c_of (join_w (m := m + 1 + (9 + 1) + (m + 1)) (c := 32) (by decide +kernel) (by decide) (gw_cat (gw_cat (gw_cut rfl hw11 as jn p_no (p_var rfl)) (fun H' e => gw_lst1 rfl osh) (by omega)) (fun H' e => gw_cut rfl (e _ _ hw11) as jn (p_inc rfl) p_no) (by omega)) (by omega) fun H12 t6 x12 g6 => ?_)
    refine Qf.n_of ⟨by show 1 ≤ sizeLine; decide, fun l9 n9 => ⟨l8, l9, _, _, rfl, rfl, (Ex.new n9) _ _ (x12 _ _ h11), upd_same, by show 6 ≤ sizeLine; decide, fun l10 n10 => ?_⟩⟩
    refine Qf.n_of ⟨d, l10, _, _, rfl, ((p11.ex x12).ex (Ex.new n9)).ex (Ex.new n10), by omega, ((p11.ex x12).ex (Ex.new n9)).ne n10, upd_same, by show 0 < 6; decide, by show 6 ≤ 1000; decide, fun H13 x hx o13 p13 => ?_⟩
    obtain ⟨r, rs, rfl⟩ : ∃ r, Sh (2 * m + 20) r ∧ x = .str r := by
      simp only [List.cons_append, List.nil_append, List.mem_cons, List.not_mem_nil, or_false] at hx
      rcases hx with rfl | rfl | rfl | rfl | rfl | rfl
      · exact ⟨_, g1.up (by omega), rfl⟩
      · exact ⟨_, g2.up (by omega), rfl⟩
      · exact ⟨_, g3.up (by omega), rfl⟩
      · exact ⟨_, g4.up (by omega), rfl⟩
      · exact ⟨_, g5.up (by omega), rfl⟩
      · exact ⟨_, g6.up (by omega), rfl⟩
    exact q H13 r rs (off11.trans ((Off.of ((x12.trans (Ex.new n9)).trans (Ex.new n10))).trans o13)) (p13.up (by omega))
end
end Qf
/-! t[1::2], t a tuple -/
namespace L2
open PySem PySem.Spec PyProof.Rows
/-- every other item, from the second -/
def odds {α : Type} (xs : List α) : List α := (List.range (Builtin.Slice.slicePlaces (Builtin.Slice.sliceAdjust (some 1) none 2 (xs.length : Int)).1 (Builtin.Slice.sliceAdjust (some 1) none 2 (xs.length : Int)).2 2)).filterMap fun (k : Nat) => xs[((Builtin.Slice.sliceAdjust (some 1) none 2 (xs.length : Int)).1 + (k : Int) * 2).toNat]?
theorem vals_pick (f : Nat → Nat) {xs : List V} {its : List Value} (r : Vals xs its) : ∀ ks : List Nat, Vals (ks.filterMap fun k => xs[f k]?) (ks.filterMap fun k => its[f k]?)
  | [] => .nil
  | k :: ks => by
    have ih := vals_pick f r ks
    have ln := r.length
    cases e : xs[f k]? with
    | none =>
      have e2 : its[f k]? = none := by
        rw [List.getElem?_eq_none_iff] at e ⊢
        omega
      rw [List.filterMap_cons_none (f := fun k => xs[f k]?) e, List.filterMap_cons_none (f := fun k => its[f k]?) e2]
      exact ih
    | some x =>
      obtain ⟨u, hu, ru⟩ := r.get e
      rw [List.filterMap_cons_some (f := fun k => xs[f k]?) e, List.filterMap_cons_some (f := fun k => its[f k]?) hu]
      exact .cons ru ih
theorem vals_odds {xs : List V} {its : List Value} (r : Vals xs its) : Vals (odds xs) (odds its) := by
  unfold odds
  rw [← r.length]
  exact vals_pick _ r _
theorem odds_le {α : Type} (xs : List α) : (odds xs).length ≤ xs.length + 1 := by
  unfold odds
  refine Nat.le_trans (List.length_filterMap_le _ _) ?_
  rw [List.length_range]
  unfold Builtin.Slice.slicePlaces Builtin.Slice.sliceAdjust
  simp only [show ¬ (2 : Int) < 0 from by decide, show (2 : Int) > 0 from by decide, if_true, if_false, show ¬ (1 : Int) < 0 from by decide]
  split <;> omega
section
variable {prog : Program} {w : World} {A : Around} {E : Value → Shared → Prop} {s : Shared}
theorem getItem_odds {t sl : Addr} {items : Array Value} {tu ts : Tok} {Q : Value → Shared → Prop} (ht : IsTup s.heap t items) (hs : s.heap.IsSliceOf sl (.int 1 tu) .none (.int 2 ts))
    (h : Q (.ref s.heap.objs.size) { s with heap := s.heap.push { cls := .type "tuple", data := .seq (odds items.toList).toArray } })
    (hsz : items.size < sizeLine) : wpAny (model prog w) A (getItem (.ref t) (.ref sl)) Q E s := by
  have htake : sizeOk (.seq (odds items.toList).toArray) := by
    show (odds items.toList).toArray.size ≤ sizeLine
    have := odds_le items.toList
    have l2 : items.toList.length = items.size := Array.length_toList
    have l3 : (odds items.toList).toArray.size = (odds items.toList).length := List.size_toArray
    omega
  obtain ⟨os, hos, hcs, hds⟩ := id hs
  have hTs : s.TypeIs (.ref sl) "slice" := ⟨os, hos, hcs⟩
  unfold getItem
  try with_reducible refine wpAny_holding ?_
  first | refine wpAny_bind (wpAny_pure ?_) | skip
  refine wpAny_bind (wpAny_sequenceKey ht.typeIs (by decide) ?_)
  refine wpAny_bind (wpAny_callSpecial?_slot (name := Str.ofString "__getitem__") ht.typeIs PyProof.Rows.slot_tuple_getitem (wpAny_call_entry PyProof.Rows.slot_tuple_getitem ht.typeIs entry_tuple_getitem ?_ (args_tuple_getitem _ _)))
  show wpAny _ _ (Builtin.Tuple.tupleItemsOf (.ref t) >>= fun _ => _) _ _ s
  refine wpAny_bind (tupleItemsOf_ ht ?_)
  refine wpAny_bind (wpAny_typeOf hTs ?_)
  rw [if_pos (by decide)]
  have app : ∀ {Q2 : Int × Int × Nat → Shared → Prop} {E2 : Value → Shared → Prop} {A2 : Around}, Q2 ((Builtin.Slice.sliceAdjust (some 1) none 2 (items.size : Int)).1, 2, Builtin.Slice.slicePlaces (Builtin.Slice.sliceAdjust (some 1) none 2 (items.size : Int)).1 (Builtin.Slice.sliceAdjust (some 1) none 2 (items.size : Int)).2 2) s →
      wpAny (model prog w) A2 (Builtin.Slice.sliceApplied (.ref sl) (pure (items.size : Int))) Q2 E2 s := fun {Q2 E2 A2} q => by
    unfold Builtin.Slice.sliceApplied Builtin.Slice.sliceFields
    refine wpAny_bind (wpAny_bind (wpAny_field hos hds (x := .int 1 tu) rfl (wpAny_bind (wpAny_field hos hds (x := .none) rfl (wpAny_bind (wpAny_field hos hds (x := .int 2 ts) rfl (wpAny_pure ?_)))))))
    refine wpAny_bind (slicePart_int ?_)
    show wpAny _ _ (if ((2 : Int) == 0) = true then _ else _) _ _ s
    rw [if_neg (by decide)]
    refine wpAny_bind (slicePart_int (wpAny_bind (slicePart_none (wpAny_bind (wpAny_pure ?_)))))
    exact wpAny_pure q
  refine wpAny_bind (app ?_)
  have hno : ¬ (((Builtin.Slice.sliceAdjust (some 1) none 2 (items.size : Int)).1 == 0 && (2 : Int) == 1 && Builtin.Slice.slicePlaces (Builtin.Slice.sliceAdjust (some 1) none 2 (items.size : Int)).1 (Builtin.Slice.sliceAdjust (some 1) none 2 (items.size : Int)).2 2 == items.size) = true) := by
    rw [show ((2 : Int) == 1) = false from by decide, Bool.and_false, Bool.false_and]
    exact Bool.false_ne_true
  show wpAny _ _ (if ((Builtin.Slice.sliceAdjust (some 1) none 2 (items.size : Int)).1 == 0 && (2 : Int) == 1 && Builtin.Slice.slicePlaces (Builtin.Slice.sliceAdjust (some 1) none 2 (items.size : Int)).1 (Builtin.Slice.sliceAdjust (some 1) none 2 (items.size : Int)).2 2 == items.size) = true then _ else _) _ _ s
  rw [if_neg hno]
  have e : ((List.range (Builtin.Slice.slicePlaces (Builtin.Slice.sliceAdjust (some 1) none 2 (items.size : Int)).1 (Builtin.Slice.sliceAdjust (some 1) none 2 (items.size : Int)).2 2)).filterMap fun (m : Nat) => items[((Builtin.Slice.sliceAdjust (some 1) none 2 (items.size : Int)).1 + (m : Int) * 2).toNat]?).toArray = (odds items.toList).toArray := by
    unfold odds
    rw [Array.length_toList]
    congr 2
    funext m
    rw [Array.getElem?_toList]
  rw [e]
  first
    | exact wpAny_bind (m := Builtin.Tuple.tupleExact _) (wpAny_newObj_type (wpAny_pure ⟨_, rfl, wpAny_pure h⟩) htake)
    | exact wpAny_bind (m := Builtin.Tuple.tupleExact _) (wpAny_newObj_type (wpAny_bind (wpAny_pure (wpAny_pure ⟨_, rfl, wpAny_pure h⟩))) htake)
    | exact wpAny_bind (wpAny_bind (m := Builtin.Tuple.tupleExact _) (wpAny_newObj_type (wpAny_pure (wpAny_pure ⟨_, rfl, wpAny_pure h⟩)) htake))
    | exact wpAny_bind (wpAny_bind (m := Builtin.Tuple.tupleExact _) (wpAny_newObj_type (wpAny_pure ⟨_, rfl, wpAny_pure h⟩) htake))
end
def rOdds (K : PySem.W.Frag) : V → Hp → VK → Prop := fun x H Q => ∃ a xs, x = .ref a ∧ SqT K H a xs ∧ xs.length ≤ 100000 ∧ ∀ p, H p = none → Q (.ref p) (upd H p (.tup (odds xs)))
def tOdds (K : PySem.W.Frag) (te : TE) : TE := fun σ H Q => te σ H fun x H1 => rOdds K x H1 Q
section
variable {X : Cx} {e : Expr} {te : TE} {p1 p2 p3 pos : Pos} {r1 r2 : Literal}
theorem pe_odds (he : PE X e te) (e1 : PE X l1 (tC (.int 1))) (e2 : PE X l2 (tC (.int 2))) : PE X (.Subscript e (.Slice (some l1) none (some l2) p2) pos) (tOdds X.K te) := by
  refine ⟨fun pins s σ H Q I h => ?_⟩
  refine Subscript_ (thn (he.run pins s σ H _ I h) fun v s1 ⟨x, H1, I1, rx, a, xs, ex, hx, hz, q⟩ => ?_)
  subst ex
  obtain rfl : v = Value.ref a := rx
  refine wpAny_Slice (thn ((po_some e1).run pins s1 σ H1 (fun o H2 => o = some 1 ∧ H2 = H1) I1 ⟨1, rfl, rfl, rfl⟩) fun vl s2 ⟨l, H2, I2, pl, el, eh⟩ => ?_)
  subst el eh
  rw [evalPart_none]
  refine wpAny_pure ?_
  refine thn ((po_some e2).run pins s2 σ H2 (fun o H3 => o = some 2 ∧ H3 = H2) I2 ⟨2, rfl, rfl, rfl⟩) fun vs s3 ⟨st, H3, I3, ps, es, eh⟩ => ?_
  subst es eh
  have I4 : Inv X pins σ H3 { s3 with heap := s3.heap.push { cls := .type "slice", data := .fields #[vl, .none, vs] } } := I3.kept (t' := s3.toks) fun b ob q => Heap.get?_push_of_some _ q
  obtain ⟨its, r, pt, hz2⟩ := I4.tuple hx
  have l63 := line63
  cases pl
  cases ps
  refine tail_any (ops := [.ref a, .ref s3.heap.objs.size]) pt.typeIs PyProof.Rows.slot_tuple_getitem.lookup ?_ (by with_unfolding_all rfl)
  refine getItem_odds pt (Heap.IsSliceOf.new ..) ?_ ?_
  · exact ⟨.ref _, _, I4.laid (t' := s3.toks) (o := .tup (odds xs)) (fun b ob y => Heap.get?_push_of_some _ y) (Nat.le_refl _) ⟨by have := odds_le xs; rw [sizeLine_eq]; omega, _, vals_odds r, IsTup.new _ _⟩, rfl, q _ (I4.hok.fresh (Nat.le_refl _))⟩
  · rw [List.size_toArray, ← r.length, sizeLine_eq]
    omega
end
end L2
/-! t[::-1], t a tuple -/
namespace L2
open PySem PySem.Spec PyProof.Rows
/-- from the last to the first -/
def revs {α : Type} (xs : List α) : List α := (List.range (Builtin.Slice.slicePlaces (Builtin.Slice.sliceAdjust none none (-1) (xs.length : Int)).1 (Builtin.Slice.sliceAdjust none none (-1) (xs.length : Int)).2 (-1))).filterMap fun (k : Nat) => xs[((Builtin.Slice.sliceAdjust none none (-1) (xs.length : Int)).1 + (k : Int) * (-1)).toNat]?
theorem vals_revs {xs : List V} {its : List Value} (r : Vals xs its) : Vals (revs xs) (revs its) := by
  unfold revs
  rw [← r.length]
  exact vals_pick _ r _
theorem filterMap_on {α β : Type} {f g : α → Option β} : ∀ {l : List α}, (∀ x ∈ l, f x = g x) → l.filterMap f = l.filterMap g
  | [], _ => rfl
  | x :: l, h => by
    have ih := filterMap_on (l := l) fun y m => h y (List.mem_cons_of_mem _ m)
    simp only [List.filterMap_cons, h x List.mem_cons_self, ih]
theorem revs_at {α : Type} (xs : List α) : (Builtin.Slice.sliceAdjust none none (-1) (xs.length : Int)) = ((xs.length : Int) - 1, -1) := by
  unfold Builtin.Slice.sliceAdjust
  simp
theorem revs_n {α : Type} (xs : List α) : Builtin.Slice.slicePlaces ((xs.length : Int) - 1) (-1) (-1) = xs.length := by
  unfold Builtin.Slice.slicePlaces
  rw [if_neg (by decide)]
  by_cases c : (xs.length : Int) - 1 > -1
  · rw [if_pos c, show (-(-1) : Int) = 1 from rfl, Int.ediv_one]
    omega
  · rw [if_neg c]
    omega
theorem revs_is {α : Type} (xs : List α) : revs xs = xs.reverse := by
  unfold revs
  rw [revs_at, revs_n]
  have hf : ∀ k ∈ List.range xs.length, xs[((xs.length : Int) - 1 + (k : Int) * (-1)).toNat]? = (xs.reverse)[k]? := fun k hk => by
    have hk := List.mem_range.mp hk
    rw [List.getElem?_reverse hk]
    congr 1
    omega
  have all : ∀ (l : List α), (List.range l.length).filterMap (fun k => l[k]?) = l := fun l => by
    have := PySem.W.krv_all l.toArray
    simpa using this
  dsimp only
  rw [show ((List.range xs.length).filterMap fun (k : Nat) => xs[((xs.length : Int) - 1 + (k : Int) * (-1)).toNat]?) = (List.range xs.length).filterMap (fun k => (xs.reverse)[k]?) from filterMap_on hf]
  have := all xs.reverse
  rw [List.length_reverse] at this
  exact this
theorem revs_le {α : Type} (xs : List α) : (revs xs).length ≤ xs.length + 1 := by
  rw [revs_is, List.length_reverse]
  omega
section
variable {prog : Program} {w : World} {A : Around} {E : Value → Shared → Prop} {s : Shared}
theorem getItem_revs {t sl : Addr} {items : Array Value} {tu ts : Tok} {Q : Value → Shared → Prop} (ht : IsTup s.heap t items) (hs : s.heap.IsSliceOf sl .none .none (.int (-1) ts))
    (h : Q (.ref s.heap.objs.size) { s with heap := s.heap.push { cls := .type "tuple", data := .seq (revs items.toList).toArray } })
    (hsz : items.size < sizeLine) : wpAny (model prog w) A (getItem (.ref t) (.ref sl)) Q E s := by
  have htake : sizeOk (.seq (revs items.toList).toArray) := by
    show (revs items.toList).toArray.size ≤ sizeLine
    have := revs_le items.toList
    have l2 : items.toList.length = items.size := Array.length_toList
    have l3 : (revs items.toList).toArray.size = (revs items.toList).length := List.size_toArray
    omega
  obtain ⟨os, hos, hcs, hds⟩ := id hs
  have hTs : s.TypeIs (.ref sl) "slice" := ⟨os, hos, hcs⟩
  unfold getItem
  try with_reducible refine wpAny_holding ?_
  first | refine wpAny_bind (wpAny_pure ?_) | skip
  refine wpAny_bind (wpAny_sequenceKey ht.typeIs (by decide) ?_)
  refine wpAny_bind (wpAny_callSpecial?_slot (name := Str.ofString "__getitem__") ht.typeIs PyProof.Rows.slot_tuple_getitem (wpAny_call_entry PyProof.Rows.slot_tuple_getitem ht.typeIs entry_tuple_getitem ?_ (args_tuple_getitem _ _)))
  show wpAny _ _ (Builtin.Tuple.tupleItemsOf (.ref t) >>= fun _ => _) _ _ s
  refine wpAny_bind (tupleItemsOf_ ht ?_)
  refine wpAny_bind (wpAny_typeOf hTs ?_)
  rw [if_pos (by decide)]
  have app : ∀ {Q2 : Int × Int × Nat → Shared → Prop} {E2 : Value → Shared → Prop} {A2 : Around}, Q2 ((Builtin.Slice.sliceAdjust none none (-1) (items.size : Int)).1, -1, Builtin.Slice.slicePlaces (Builtin.Slice.sliceAdjust none none (-1) (items.size : Int)).1 (Builtin.Slice.sliceAdjust none none (-1) (items.size : Int)).2 (-1)) s →
      wpAny (model prog w) A2 (Builtin.Slice.sliceApplied (.ref sl) (pure (items.size : Int))) Q2 E2 s := fun {Q2 E2 A2} q => by
    unfold Builtin.Slice.sliceApplied Builtin.Slice.sliceFields
    refine wpAny_bind (wpAny_bind (wpAny_field hos hds (x := .none) rfl (wpAny_bind (wpAny_field hos hds (x := .none) rfl (wpAny_bind (wpAny_field hos hds (x := .int (-1) ts) rfl (wpAny_pure ?_)))))))
    refine wpAny_bind (slicePart_int ?_)
    show wpAny _ _ (if ((-1 : Int) == 0) = true then _ else _) _ _ s
    rw [if_neg (by decide)]
    refine wpAny_bind (slicePart_none (wpAny_bind (slicePart_none (wpAny_bind (wpAny_pure ?_)))))
    exact wpAny_pure q
  refine wpAny_bind (app ?_)
  have hno : ¬ (((Builtin.Slice.sliceAdjust none none (-1) (items.size : Int)).1 == 0 && (-1 : Int) == 1 && Builtin.Slice.slicePlaces (Builtin.Slice.sliceAdjust none none (-1) (items.size : Int)).1 (Builtin.Slice.sliceAdjust none none (-1) (items.size : Int)).2 (-1) == items.size) = true) := by
    rw [show ((-1 : Int) == 1) = false from by decide, Bool.and_false, Bool.false_and]
    exact Bool.false_ne_true
  show wpAny _ _ (if ((Builtin.Slice.sliceAdjust none none (-1) (items.size : Int)).1 == 0 && (-1 : Int) == 1 && Builtin.Slice.slicePlaces (Builtin.Slice.sliceAdjust none none (-1) (items.size : Int)).1 (Builtin.Slice.sliceAdjust none none (-1) (items.size : Int)).2 (-1) == items.size) = true then _ else _) _ _ s
  rw [if_neg hno]
  have e : ((List.range (Builtin.Slice.slicePlaces (Builtin.Slice.sliceAdjust none none (-1) (items.size : Int)).1 (Builtin.Slice.sliceAdjust none none (-1) (items.size : Int)).2 (-1))).filterMap fun (m : Nat) => items[((Builtin.Slice.sliceAdjust none none (-1) (items.size : Int)).1 + (m : Int) * (-1)).toNat]?).toArray = (revs items.toList).toArray := by
    unfold revs
    rw [Array.length_toList]
    congr 2
    funext m
    rw [Array.getElem?_toList]
  rw [e]
  first
    | exact wpAny_bind (m := Builtin.Tuple.tupleExact _) (wpAny_newObj_type (wpAny_pure ⟨_, rfl, wpAny_pure h⟩) htake)
    | exact wpAny_bind (m := Builtin.Tuple.tupleExact _) (wpAny_newObj_type (wpAny_bind (wpAny_pure (wpAny_pure ⟨_, rfl, wpAny_pure h⟩))) htake)
    | exact wpAny_bind (wpAny_bind (m := Builtin.Tuple.tupleExact _) (wpAny_newObj_type (wpAny_pure (wpAny_pure ⟨_, rfl, wpAny_pure h⟩)) htake))
    | exact wpAny_bind (wpAny_bind (m := Builtin.Tuple.tupleExact _) (wpAny_newObj_type (wpAny_pure ⟨_, rfl, wpAny_pure h⟩) htake))
end
def rRevs (K : PySem.W.Frag) : V → Hp → VK → Prop := fun x H Q => ∃ a xs, x = .ref a ∧ SqT K H a xs ∧ xs.length ≤ 100000 ∧ ∀ p, H p = none → Q (.ref p) (upd H p (.tup (revs xs)))
def tRevs (K : PySem.W.Frag) (te : TE) : TE := fun σ H Q => te σ H fun x H1 => rRevs K x H1 Q
section
variable {X : Cx} {e : Expr} {te : TE} {p1 p2 p3 pos : Pos} {k : Nat}
theorem pe_revT (he : PE X e te) : PE X (.Subscript e (.Slice none none (some (.UnaryOp .USub (.Constant (.int 1) k p1) p2)) p3) pos) (tRevs X.K te) := by
  refine ⟨fun pins s σ H Q I h => ?_⟩
  refine Subscript_ (thn (he.run pins s σ H _ I h) fun v s1 ⟨x, H1, I1, rx, a, xs, ex, hx, hz, q⟩ => ?_)
  subst ex
  obtain rfl : v = Value.ref a := rx
  have hst : PO X (some (.UnaryOp .USub (.Constant (.int 1) k p1) p2)) (tPart (tUn (rU fun i => .int (-i)) (tC (.int 1)))) := po_some (pe_un un_neg pe_int)
  refine wpAny_Slice (thn (po_none.run pins s1 σ H1 (fun o H2 => o = none ∧ H2 = H1) I1 ⟨rfl, rfl⟩) fun vl s2 ⟨l, H2, I2, pl, el, eh⟩ => ?_)
  subst el eh
  refine thn (po_none.run pins s2 σ H2 (fun o H3 => o = none ∧ H3 = H2) I2 ⟨rfl, rfl⟩) fun vu s3 ⟨u, H3, I3, pu, eu, eh⟩ => ?_
  subst eu eh
  refine thn (hst.run pins s3 σ H3 (fun o H4 => o = some (-1) ∧ H4 = H3) I3 ⟨1, rfl, -1, rfl, rfl, rfl⟩) fun vs s4 ⟨st, H4, I4, ps, es, eh⟩ => ?_
  subst es eh
  have I5 : Inv X pins σ H4 { s4 with heap := s4.heap.push { cls := .type "slice", data := .fields #[vl, vu, vs] } } := I4.kept (t' := s4.toks) fun b ob q => Heap.get?_push_of_some _ q
  obtain ⟨its, r, pt, hz2⟩ := I5.tuple hx
  have l63 := line63
  cases pl
  cases pu
  cases ps
  refine tail_any (ops := [.ref a, .ref s4.heap.objs.size]) pt.typeIs PyProof.Rows.slot_tuple_getitem.lookup ?_ (by with_unfolding_all rfl)
  refine getItem_revs (tu := 0) pt (Heap.IsSliceOf.new ..) ?_ ?_
  · exact ⟨.ref _, _, I5.laid (t' := s4.toks) (o := .tup (revs xs)) (fun b ob y => Heap.get?_push_of_some _ y) (Nat.le_refl _) ⟨by have := revs_le xs; rw [sizeLine_eq]; omega, _, vals_revs r, IsTup.new _ _⟩, rfl, q _ (I5.hok.fresh (Nat.le_refl _))⟩
  · rw [List.size_toArray, ← r.length, sizeLine_eq]
    omega
end
end L2
/-! new lists that are not sys.modules; ints and bools as numbers -/
namespace Sn
open PySem PySem.Spec PyProof.Rows L2 Gd
section
variable {X : Cx}
def tLstN (t : TA) : TE := fun σ H Q => t σ H fun xs H1 => xs.length ≤ sizeLine ∧ ∀ p, H1 p = none → p ≠ sysModules → Q (.ref p) (upd H1 p (.lst xs))
theorem pe_lstN {es : List Expr} {t : TA} {pos : Pos} (h : PA X es t) : PE X (.List es pos) (tLstN t) := by
  constructor
  intro pins s σ H Q I want
  refine wpAny_List_spliced (thn (h.run pos pins s σ H _ I want) ?_)
  rintro us s1 ⟨xs, H1, I1, r, z, q⟩
  refine ⟨by rw [← r.length]; exact z, ?_⟩
  have n : H1 s1.heap.objs.size = none := I1.hok.fresh (Nat.le_refl _)
  exact ⟨.ref s1.heap.objs.size, _, I1.laid (t' := s1.toks) (a := s1.heap.objs.size) (o := .lst xs) (fun b u e => Heap.get?_push_of_some _ e) (Nat.le_refl _) ⟨z, us, 0, r, Heap.get?_push_size _ rfl⟩, rfl, q _ n (Nat.ne_of_gt I1.big)⟩
def rListN (K : PySem.W.Frag) : List V → Hp → VK → Prop := fun xs H Q => ∃ p ys, xs = [.ref p] ∧ SqT K H p ys ∧ ∀ l, H l = none → l ≠ sysModules → Q (.ref l) (upd H l (.lst ys))
theorem call_listN : CallR X (.type "list") (rListN X.K) := by
  intro pins s σ H xs us Q I r h
  obtain ⟨p, ys, rfl, hq, q⟩ := h
  obtain ⟨u, rfl, rx⟩ := vals1 r
  cases (show u = Value.ref p from rx)
  obtain ⟨its, r', pl, hz⟩ := I.tuple hq
  have hlen := r'.length
  obtain ⟨o, ho, hc, n, hd⟩ := pl
  have fin : ∀ (h' : Heap) (c' : Nat), (∀ b o', s.heap.get? b = some o' → h'.get? b = some o') →
      h'.get? s.heap.objs.size = some { cls := .type "list", dict := none, data := .seq its.toArray c', slots := #[] } → EP X pins σ Q (.ref s.heap.objs.size) { s with heap := h' } := fun h' c' kp e =>
    ⟨.ref s.heap.objs.size, _, I.laid (t' := s.toks) kp (Nat.le_refl _) (show ObjOk X.prog X.w _ h' _ (.lst ys) from ⟨hz, its, c', r', e⟩), rfl, q _ (I.hok.fresh (Nat.le_refl _)) (Nat.ne_of_gt I.big)⟩
  exact call_list_seq p (.inr rfl) ho hc hd (fun h' c' kp e => fin h' c' kp e) (by simp only [List.size_toArray] <;> omega)
/-- an int or a bool, as a number -/
def numV : V → Option Int
  | .int i => some i
  | .bl b => some (if b = true then 1 else 0)
  | _ => none
def rNumI (g : Int → Int → Int) : R2 := fun x y H Q => ∃ i j, numV x = some i ∧ y = .int j ∧ Q (.int (g i j)) H
theorem num_is {x : V} {i : Int} (h : numV x = some i) : x = .int i ∨ ∃ b, x = .bl b ∧ i = if b = true then 1 else 0 := by
  cases x <;> simp only [numV, Option.some.injEq, reduceCtorEq] at h
  · exact .inr ⟨_, rfl, h.symm⟩
  · exact .inl (by rw [h])
theorem op_addB : OpR X (binaryOp .Add) (rNumI (· + ·)) := by
  intro pins s σ H x y v u Q I rx ry h
  obtain ⟨i, j, hx, rfl, q⟩ := h
  obtain ⟨t', rfl⟩ := (show ∃ t', u = Value.int j t' from ry)
  rcases num_is hx with rfl | ⟨b, rfl, rfl⟩
  · obtain ⟨t, rfl⟩ := (show ∃ t, v = Value.int i t from rx)
    exact add_int ⟨.int (i + j), H, I.tok _, ⟨_, rfl⟩, q⟩
  · cases (show v = Value.bool b from rx)
    exact PySem.IntBool.add_bool_int ⟨.int _, H, I.tok _, ⟨_, rfl⟩, q⟩
theorem op_subB : OpR X (binaryOp .Sub) (rNumI (· - ·)) := by
  intro pins s σ H x y v u Q I rx ry h
  obtain ⟨i, j, hx, rfl, q⟩ := h
  obtain ⟨t', rfl⟩ := (show ∃ t', u = Value.int j t' from ry)
  rcases num_is hx with rfl | ⟨b, rfl, rfl⟩
  · obtain ⟨t, rfl⟩ := (show ∃ t, v = Value.int i t from rx)
    exact sub_int ⟨.int (i - j), H, I.tok _, ⟨_, rfl⟩, q⟩
  · cases (show v = Value.bool b from rx)
    exact PySem.IntBool.sub_bool_int ⟨.int _, H, I.tok _, ⟨_, rfl⟩, q⟩
def rEqNum : R2 := fun x y H Q => ∃ i j, numV x = some i ∧ y = .int j ∧ Q (.bl (i == j)) H
theorem op_eqB : OpR X (compareOp .Eq) rEqNum := by
  intro pins s σ H x y v u Q I rx ry h
  obtain ⟨i, j, hx, rfl, q⟩ := h
  obtain ⟨t', rfl⟩ := (show ∃ t', u = Value.int j t' from ry)
  rcases num_is hx with rfl | ⟨b, rfl, rfl⟩
  · obtain ⟨t, rfl⟩ := (show ∃ t, v = Value.int i t from rx)
    exact SeqAt.RcAt.int_int i t j t' X.prog X.w _ _ ⟨.bl _, H, I, rfl, q⟩
  · cases (show v = Value.bool b from rx)
    exact SeqAt.RcAt.bool_int b j t' X.prog X.w _ _ ⟨.bl _, H, I, rfl, q⟩
/-- str of an int or a bool -/
def rStrNum : List V → Hp → VK → Prop := fun xs H Q => (∃ i : Int, xs = [.int i] ∧ i.natAbs.log2 < 1920 ∧ Q (.str (toString i)) H) ∨ ∃ b : Bool, xs = [.bl b] ∧ Q (.str (if b then "True" else "False")) H
theorem call_strNum : CallR X (.type "str") rStrNum := by
  refine call_str_int.or ?_
  rintro pins s σ H xs us Q I r ⟨b, rfl, q⟩
  obtain ⟨u, rfl, rv⟩ := vals1 r
  cases (show u = Value.bool b from rv)
  exact PySem.P.str_of_bool ⟨.str (if b then "True" else "False"), H, I.tok _, ⟨_, rfl⟩, q⟩
end
end Sn
/-! values of data written out: None, ints, texts, tuples, lists, {}, {text: value} -/
namespace Sn
open PySem PySem.Spec PyProof.Rows L2 Evl Gd
mutual
theorem Av.grow {K : PySem.W.Frag} {D D' : Addr → Prop} {H : Hp} (h : ∀ a, D' a → D a ∨ H a = none) : ∀ {v : V} {x : PyData}, Av K D H v x → Av K D' H v x
  | _, _, .non => .non
  | _, _, .bl b => .bl b
  | _, _, .int i => .int i
  | _, _, .str x => .str x
  | _, _, .lst n q e r => .lst n (fun z => (h _ z).elim q fun w => by rw [e] at w; cases w) e (AvAll.grow h r)
  | _, _, .tup q e r => .tup (fun z => (h _ z).elim q fun w => by rw [show _ = _ from e] at w; cases w) e (AvAll.grow h r)
  | _, _, .dnil q e => .dnil (fun z => (h _ z).elim q fun w => by rw [e] at w; cases w) e
  | _, _, .done q e r => .done (fun z => (h _ z).elim q fun w => by rw [e] at w; cases w) e (Av.grow h r)
theorem AvAll.grow {K : PySem.W.Frag} {D D' : Addr → Prop} {H : Hp} (h : ∀ a, D' a → D a ∨ H a = none) : ∀ {vs : List V} {xs : List PyData}, AvAll K D H vs xs → AvAll K D' H vs xs
  | _, _, .nil => .nil
  | _, _, .cons a b => .cons (Av.grow h a) (AvAll.grow h b)
end
/-- what may not be among a value's parts is there already -/
def HeldV (D : Addr → Prop) (H : Hp) : Prop := ∀ a, D a → H a ≠ none
theorem HeldV.ex {D : Addr → Prop} {H H' : Hp} (h : HeldV D H) (e : Ex H H') : HeldV D H' := fun a z n => by
  cases c : H a with
  | none => exact h a z c
  | some o => rw [e a o c] at n; cases n
/-- comes to this value, off what may not be among its parts -/
def Vl (K : PySem.W.Frag) (D0 : Addr → Prop) (σ : L2.St) (H : Hp) (te : TE) (e : PyData) : Prop := ∀ H1 D, Ex H H1 → (∀ a, D a → D0 a ∨ H a = none) → HeldV D H1 → ∀ Q : VK, (∀ H' x, Ex H1 H' → Av K D H' x e → Q x H') → te σ H1 Q
def VlA (K : PySem.W.Frag) (D0 : Addr → Prop) (σ : L2.St) (H : Hp) (ta : TA) (es : List PyData) : Prop := ∀ H1 D, Ex H H1 → (∀ a, D a → D0 a ∨ H a = none) → HeldV D H1 → ∀ Q : List V → Hp → Prop, (∀ H' xs, Ex H1 H' → AvAll K D H' xs es → Q xs H') → ta σ H1 Q
section
variable {K : PySem.W.Frag} {D0 : Addr → Prop} {σ : L2.St} {H : Hp} {te : TE} {ta : TA} {e : PyData} {es : List PyData}
theorem vl_non : Vl K D0 σ H (tC .non) .none := fun H1 _ _ _ _ Q q => k_of (q H1 _ (Ex.refl H1) .non)
theorem vl_bl (b : Bool) : Vl K D0 σ H (tC (.bl b)) (.bool b) := fun H1 _ _ _ _ Q q => k_of (q H1 _ (Ex.refl H1) (.bl b))
theorem vl_int (i : Int) : Vl K D0 σ H (tC (.int i)) (.int i) := fun H1 _ _ _ _ Q q => k_of (q H1 _ (Ex.refl H1) (.int i))
theorem vl_str (z : Str) : Vl K D0 σ H (tC (.str z)) (.str z) := fun H1 _ _ _ _ Q q => k_of (q H1 _ (Ex.refl H1) (.str z))
theorem vl_var {i : Nat} {x : V} (h : σ[i]? = some (some x)) (a : Av K D0 H x e) : Vl K D0 σ H (tVar i) e := fun H1 D x1 hD _ Q q => v_of h (q H1 x (Ex.refl H1) ((a.grow hD).keep (fun a o _ z => x1 a o z)))
theorem vl_nil : VlA K D0 σ H tNil [] := fun H1 _ _ _ _ Q q => n_of (q H1 [] (Ex.refl H1) .nil)
theorem Av.keepE {D : Addr → Prop} {H H' : Hp} {x : V} (a : Av K D H x e) (y : Ex H H') : Av K D H' x e := a.keep (fun a o _ z => y a o z)
theorem AvAll.keepE {D : Addr → Prop} {H H' : Hp} {xs : List V} (a : AvAll K D H xs es) (y : Ex H H') : AvAll K D H' xs es := a.keep (fun a o _ z => y a o z)
theorem vl_cons (h : Vl K D0 σ H te e) (t : VlA K D0 σ H ta es) : VlA K D0 σ H (tCons te ta) (e :: es) := fun H1 D x1 hD hd Q q =>
  c_of (h H1 D x1 hD hd _ fun H2 x x2 a => t H2 D (x1.trans x2) hD (hd.ex x2) _ fun H3 xs x3 b => q H3 _ (x2.trans x3) (.cons (a.keepE x3) b))
theorem vl_tup (h : VlA K D0 σ H ta es) (few : es.length ≤ 100) : Vl K D0 σ H (tTup ta) (.tuple es) := fun H1 D x1 hD hd Q q =>
  tup_of (h H1 D x1 hD hd _ fun H2 xs x2 b => ⟨by rw [b.len]; exact Nat.le_trans few (by show 100 ≤ sizeLine; decide), fun p hp => q _ _ (x2.trans (Ex.new hp)) (.tup (fun z => (hd.ex x2) p z hp) upd_same (b.keepE (Ex.new hp)))⟩)
theorem lstN_of {t : TA} {Q : VK} (h : t σ H fun xs H1 => xs.length ≤ sizeLine ∧ ∀ p, H1 p = none → p ≠ sysModules → Q (.ref p) (upd H1 p (.lst xs))) : tLstN t σ H Q := h
theorem vl_lst (h : VlA K D0 σ H ta es) (few : es.length ≤ 100) : Vl K D0 σ H (tLstN ta) (.list es) := fun H1 D x1 hD hd Q q =>
  lstN_of (h H1 D x1 hD hd _ fun H2 xs x2 b => ⟨by rw [b.len]; exact Nat.le_trans few (by show 100 ≤ sizeLine; decide), fun p hp ns => q _ _ (x2.trans (Ex.new hp)) (.lst ns (fun z => (hd.ex x2) p z hp) upd_same (b.keepE (Ex.new hp)))⟩)
theorem vl_dnew : Vl K D0 σ H tDNewK (.dict []) := fun H1 D x1 hD hd Q q => newK_of fun p hp => q _ _ (Ex.new hp) (.dnil (fun z => hd p z hp) upd_same)
theorem disp_of {trs : List (TE × TE)} {Q : VK} (h : ∀ p, H p = none → tPairs trs σ (upd H p (.dK [])) fun ps H2 => H2 p = some (.dK []) ∧ ∃ kvs : List (Key × V), ps = kvs.map (fun kv => (kV kv.1, kv.2)) ∧ kvs.length ≤ 15 ∧ Q (.ref p) (upd H2 p (.dK (mergeK [] kvs)))) : tDisp trs σ H Q := h
theorem vl_disp {k : Str} (h : Vl K D0 σ H te e) : Vl K D0 σ H (tDisp [(tC (.str k), te)]) (.dict [(.str k, e)]) := fun H1 D x1 hD hd Q q =>
  disp_of fun p hp => k_of (h (upd H1 p (.dK [])) (fun a => D a ∨ a = p) (x1.trans (Ex.new hp)) (fun a z => z.elim (hD a) fun e => .inr (by
    cases c : H a with
    | none => rfl
    | some o =>
      have := x1 a o c
      rw [e, hp] at this
      cases this)) (fun a z => z.elim (fun z => hd.ex (Ex.new hp) a z) fun e => by rw [e, upd_same]; exact fun n => nomatch n) _ fun H2 x x2 a => by
    have hp2 := x2 _ _ (upd_same : upd H1 p (.dK []) p = some (.dK []))
    refine ⟨hp2, [(.inr k, x)], rfl, by show 1 ≤ 15; decide, q _ (.ref p) ?_ (.done (k := k) (x := x) (fun z => hd p z hp) upd_same ?_)⟩
    · intro b o hb
      have n : b ≠ p := ne_of_none hb hp
      rw [upd_ne n]
      exact x2 b o (by rw [upd_ne n]; exact hb)
    · have a2 : Av K (fun a => D a ∨ a = p) (upd H2 p (.dK (mergeK [] [(.inr k, x)]))) x e := a.keep fun b o nb hb => by
        rw [upd_ne fun z => nb (.inr z)]
        exact hb
      exact a2.grow fun a z => .inl (.inl z))
end
end Sn
/-! how large a value may grow that is bent a few times -/
namespace Sn
open PySem PySem.Spec PyProof.Rows L2 Gd
mutual
/-- ints below 10^30 + m, ASCII texts, no dict but {} -/
def fine (m : Nat) : PyData → Bool
  | .none | .bool _ => true
  | .int i => decide (i.natAbs ≤ 10 ^ 30 + m)
  | .str z => z.cps.toList.all (fun c => decide (c < 128))
  | .list xs | .tuple xs => fineAll m xs
  | .dict kvs => kvs.isEmpty
def fineAll (m : Nat) : List PyData → Bool
  | [] => true
  | x :: xs => fine m x && fineAll m xs
end
theorem fineAll_eq (m : Nat) : ∀ xs, fineAll m xs = xs.all (fine m)
  | [] => by rw [fineAll]; rfl
  | x :: xs => by rw [fineAll, fineAll_eq m xs, List.all_cons]
theorem fineAll_iff {m : Nat} {xs : List PyData} : fineAll m xs = true ↔ ∀ x ∈ xs, fine m x = true := by
  rw [fineAll_eq, List.all_eq_true]
mutual
theorem fine_mono {m m' : Nat} (h : m ≤ m') : ∀ e : PyData, fine m e = true → fine m' e = true
  | .none, _ => by rw [fine]
  | .bool _, _ => by rw [fine]
  | .int i, q => by
    rw [fine] at q ⊢
    exact decide_eq_true (Nat.le_trans (of_decide_eq_true q) (by omega))
  | .str z, q => by rw [fine] at q ⊢; exact q
  | .list xs, q => by rw [fine] at q ⊢; exact fineAll_mono h xs q
  | .tuple xs, q => by rw [fine] at q ⊢; exact fineAll_mono h xs q
  | .dict kvs, q => by rw [fine] at q ⊢; exact q
theorem fineAll_mono {m m' : Nat} (h : m ≤ m') : ∀ xs : List PyData, fineAll m xs = true → fineAll m' xs = true
  | [], _ => by rw [fineAll]
  | x :: xs, q => by
    rw [fineAll, Bool.and_eq_true] at q ⊢
    exact ⟨fine_mono h x q.1, fineAll_mono h xs q.2⟩
end
theorem log_small {n : Nat} (h : n ≤ 10 ^ 30 + 1000) : n.log2 < 1920 := by
  by_cases z : n = 0
  · rw [z]
    decide
  · refine (Nat.log2_lt z).mpr (Nat.lt_of_le_of_lt h ?_)
    calc 10 ^ 30 + 1000 < 2 ^ 101 := by decide
      _ ≤ 2 ^ 1920 := Nat.pow_le_pow_right (by decide) (by decide)
mutual
theorem fine_show {m : Nat} (h : m ≤ 1000) : ∀ e : PyData, fine m e = true → e.showable = true
  | .none, _ => by rw [PyData.showable]
  | .bool _, _ => by rw [PyData.showable]
  | .int i, q => by
    rw [fine] at q
    rw [PyData.showable]
    exact decide_eq_true (log_small (Nat.le_trans (of_decide_eq_true q) (by omega)))
  | .str z, q => by rw [PyData.showable]
  | .list xs, q => by
    rw [fine] at q
    rw [PyData.showable]
    exact fineAll_show h xs q
  | .tuple xs, q => by
    rw [fine] at q
    rw [PyData.showable]
    exact fineAll_show h xs q
  | .dict [], q => rfl
  | .dict (_ :: _), q => by
    rw [fine] at q
    cases q
theorem fineAll_show {m : Nat} (h : m ≤ 1000) : ∀ xs : List PyData, fineAll m xs = true → PyData.showableAll xs = true
  | [], _ => by rw [PyData.showableAll]
  | x :: xs, q => by
    rw [fineAll, Bool.and_eq_true] at q
    rw [PyData.showableAll, fine_show h x q.1, fineAll_show h xs q.2]
    rfl
end
/-- what a row of items takes, shown -/
def shsum : List PyData → Nat
  | [] => 0
  | x :: xs => x.shown.length + 2 + shsum xs
theorem shsum_app : ∀ a b : List PyData, shsum (a ++ b) = shsum a + shsum b
  | [], b => by rw [List.nil_append, shsum]; omega
  | x :: a, b => by
    rw [List.cons_append, shsum, shsum, shsum_app a b]
    omega
theorem shsum_take (n : Nat) (a : List PyData) : shsum (a.take n) ≤ shsum a := by
  have := shsum_app (a.take n) (a.drop n)
  rw [List.take_append_drop] at this
  omega
theorem shsum_drop (n : Nat) (a : List PyData) : shsum (a.drop n) ≤ shsum a := by
  have := shsum_app (a.take n) (a.drop n)
  rw [List.take_append_drop] at this
  omega
theorem shsum_rev : ∀ a : List PyData, shsum a.reverse = shsum a
  | [] => rfl
  | x :: a => by
    rw [List.reverse_cons, shsum_app, shsum_rev a, shsum, shsum, shsum]
    omega
theorem shsum_mem : ∀ {a : List PyData} {x : PyData}, x ∈ a → x.shown.length + 2 ≤ shsum a
  | [], _, h => absurd h List.not_mem_nil
  | y :: a, x, h => by
    rw [shsum]
    rcases List.mem_cons.mp h with rfl | h
    · omega
    · have := shsum_mem h
      omega
theorem join_len : ∀ xs : List PyData, xs ≠ [] → (Str.join ", " (PyData.shownAll xs)).length + 2 = shsum xs
  | [], h => absurd rfl h
  | [x], _ => by
    rw [PyData.shownAll_cons, PyData.shownAll_nil, shsum, shsum]
    rfl
  | x :: y :: r, _ => by
    have ih := join_len (y :: r) (by simp)
    rw [PyData.shownAll_cons, shsum, ← ih, PyData.shownAll_cons]
    show (x.shown ++ ", " ++ Str.join ", " (y.shown :: PyData.shownAll r)).length + 2 = _
    rw [Str.length_append, Str.length_append, show (", " : Str).length = 2 from by decide +kernel]
    omega
theorem tup_len (xs : List PyData) : (PyData.tuple xs).shown.length ≤ shsum xs + 2 ∧ shsum xs ≤ (PyData.tuple xs).shown.length := by
  rw [PyData.shown_tuple, Str.length_append, Str.length_append, show ("(" : Str).length = 1 from by decide +kernel]
  have tl : ((if (xs.length == 1) = true then (",)" : String) else ")" : String) : Str).length ≤ 2 ∧ 1 ≤ ((if (xs.length == 1) = true then (",)" : String) else ")" : String) : Str).length := by
    split <;> decide +kernel
  by_cases h : xs = []
  · subst h
    rw [PyData.shownAll_nil, shsum]
    have : (Str.join ", " []).length = 0 := by decide +kernel
    have : ((if (([] : List PyData).length == 1) = true then (",)" : String) else ")" : String) : Str).length = 1 := by
      show (Str.ofString ")").length = 1
      decide +kernel
    omega
  · have := join_len xs h
    omega
theorem lst_len (xs : List PyData) : (PyData.list xs).shown.length ≤ shsum xs + 2 := by
  rw [PyData.shown_list, Str.length_append, Str.length_append, show ("[" : Str).length = 1 from by decide +kernel, show ("]" : Str).length = 1 from by decide +kernel]
  by_cases h : xs = []
  · subst h
    rw [PyData.shownAll_nil, shsum]
    have : (Str.join ", " []).length = 0 := by decide +kernel
    omega
  · have := join_len xs h
    omega
structure Siz (m k L : Nat) (e : PyData) : Prop where
  f : fine m e = true
  d : e.depth ≤ k
  l : e.shown.length ≤ L
structure SizAll (m k : Nat) (xs : List PyData) : Prop where
  f : ∀ x ∈ xs, fine m x = true
  d : ∀ x ∈ xs, x.depth ≤ k
theorem depthAll_le {k : Nat} : ∀ {xs : List PyData}, (∀ x ∈ xs, x.depth ≤ k) → PyData.depthAll xs ≤ k
  | [], _ => by rw [PyData.depthAll]; exact Nat.zero_le _
  | x :: xs, h => by
    rw [PyData.depthAll]
    have := h x List.mem_cons_self
    have := depthAll_le fun y m => h y (List.mem_cons_of_mem _ m)
    omega
theorem Siz.up {m k L m' k' L' : Nat} {e : PyData} (h : Siz m k L e) (a : m ≤ m') (b : k ≤ k') (c : L ≤ L') : Siz m' k' L' e := ⟨fine_mono a e h.f, Nat.le_trans h.d b, Nat.le_trans h.l c⟩
theorem SizAll.tup {m k : Nat} {xs : List PyData} (h : SizAll m k xs) : Siz m (k + 1) (shsum xs + 2) (.tuple xs) := by
  refine ⟨?_, ?_, (tup_len xs).1⟩
  · rw [fine]
    exact fineAll_iff.mpr h.f
  · rw [PyData.depth]
    have := depthAll_le h.d
    omega
theorem SizAll.lst {m k : Nat} {xs : List PyData} (h : SizAll m k xs) : Siz m (k + 1) (shsum xs + 2) (.list xs) := by
  refine ⟨?_, ?_, lst_len xs⟩
  · rw [fine]
    exact fineAll_iff.mpr h.f
  · rw [PyData.depth]
    have := depthAll_le h.d
    omega
theorem depth_mem' : ∀ {ds : List PyData} {x : PyData}, x ∈ ds → x.depth ≤ PyData.depthAll ds
  | [], x, h => absurd h List.not_mem_nil
  | y :: ds, x, h => by
    rw [PyData.depthAll]
    rcases List.mem_cons.mp h with rfl | h
    · omega
    · have := depth_mem' h
      omega
theorem Siz.items {m k L : Nat} {xs : List PyData} (h : Siz m k L (.tuple xs)) : ∃ k', k = k' + 1 ∧ SizAll m k' xs ∧ shsum xs ≤ L := by
  have f := h.f
  rw [fine] at f
  have d := h.d
  rw [PyData.depth] at d
  refine ⟨k - 1, by omega, ⟨fun x hx => fineAll_iff.mp f x hx, fun x hx => ?_⟩, Nat.le_trans (tup_len xs).2 h.l⟩
  have := depth_mem' hx
  omega
theorem SizAll.sub {m k : Nat} {xs ys : List PyData} (h : SizAll m k xs) (s : ∀ y ∈ ys, y ∈ xs) : SizAll m k ys := ⟨fun y hy => h.f y (s y hy), fun y hy => h.d y (s y hy)⟩
theorem SizAll.app {m k : Nat} {xs ys : List PyData} (h : SizAll m k xs) (g : SizAll m k ys) : SizAll m k (xs ++ ys) := ⟨fun y hy => (List.mem_append.mp hy).elim (h.f y) (g.f y), fun y hy => (List.mem_append.mp hy).elim (h.d y) (g.d y)⟩
theorem SizAll.one {m k L : Nat} {x : PyData} (h : Siz m k L x) : SizAll m k [x] := ⟨fun y hy => by rw [List.mem_singleton.mp hy]; exact h.f, fun y hy => by rw [List.mem_singleton.mp hy]; exact h.d⟩
end Sn
/-! any value -/
namespace Qf
open PySem PySem.Spec PyProof.Rows L2 Evl Gd Qw Sn
abbrev sOdd : Stmt := topS 46
abbrev nOdd : List Str := ["_law_pot_here", "_law_some", "_law_found", "_law_turn"]
theorem scOdd : FnScope nOdd ["_law_pot_here"] (defScope sOdd) := ⟨rfl, rfl, rfl, by decide +kernel, rfl, by decide +kernel, by decide +kernel⟩
/-- what is drawn: small -/
structure OddN (k : Nat) (e : PyData) : Prop where
  sh : e.showable = true
  dp : e.depth ≤ 3 + k
  ln : e.shown.length ≤ 60 + 12 * k
  tx : ∀ z, e = .str z → Sh 20 z
abbrev odd1 : List PyData := [.none, .bool true, .bool false, .int 0, .int 1, .int (-1), .int (10 ^ (30 : Int).toNat), .str "", .str "a", .str "end", .str "minor", .tuple [], .list [], .dict [], .tuple [.int 0], .tuple [.str "minor"], .list [.str "minor"]]
abbrev odd2 : List PyData := [.tuple [.tuple [], .tuple []], .tuple [.tuple [.tuple [.str "a", .int 0]], .tuple []], .int 2, .dict [(.str "a", .int 0)], .str "root a 0", .str "\n"]
def txB : PyData → Bool
  | .str z => ((TL.tl z).all fun c => decide (c < 128)) && decide (z.length ≤ 20)
  | _ => true
theorem odd_all : ∀ e ∈ odd1 ++ odd2, e.showable = true ∧ e.depth ≤ 3 ∧ e.shown.length ≤ 60 ∧ txB e = true := by decide +kernel
theorem odd_base {e : PyData} (h : e ∈ odd1 ++ odd2) : OddN 0 e := by
  obtain ⟨h1, h2, h3, h4⟩ := odd_all e h
  refine ⟨h1, h2, h3, fun z ez => ?_⟩
  subst ez
  have h4 : (((TL.tl z).all fun c => decide (c < 128)) && decide (z.length ≤ 20)) = true := h4
  rw [Bool.and_eq_true] at h4
  exact (lit h4.1).up (of_decide_eq_true h4.2)
abbrev oddOf (e : PyData) : List PyData := [.tuple [e], .list [e], .dict [(.str "a", e)], .tuple [e, .int 1], .tuple [.int 1, e]]
theorem dic_len (e : PyData) : (PyData.dict [(.str "a", e)]).shown.length ≤ e.shown.length + 10 := by
  have h : (PyData.dict [(.str "a", e)]).shown = ("{" : Str) ++ ((PyData.str "a").shown ++ ": " ++ e.shown) ++ "}" := rfl
  rw [h, strLen_append, strLen_append, strLen_append, strLen_append, show ("{" : Str).length = 1 from by decide +kernel, show ("}" : Str).length = 1 from by decide +kernel, show (": " : Str).length = 2 from by decide +kernel, show (PyData.str "a").shown.length = 3 from by decide +kernel]
  omega
theorem i1_len : (PyData.int 1).shown.length = 1 := by decide +kernel
theorem odd_step {k : Nat} {e e' : PyData} (h : OddN k e) (m : e' ∈ oddOf e) : OddN (k + 1) e' := by
  have a1 := h.sh
  have a2 := h.dp
  have a3 := h.ln
  have i1 := i1_len
  simp only [oddOf, List.mem_cons, List.not_mem_nil, or_false] at m
  rcases m with rfl | rfl | rfl | rfl | rfl
  · have l := (tup_len [e]).1
    simp only [shsum] at l
    exact ⟨by simp [PyData.showable, PyData.showableAll, a1], by simp only [PyData.depth, PyData.depthAll]; omega, by omega, fun z y => nomatch y⟩
  · have l := lst_len [e]
    simp only [shsum] at l
    exact ⟨by simp [PyData.showable, PyData.showableAll, a1], by simp only [PyData.depth, PyData.depthAll]; omega, by omega, fun z y => nomatch y⟩
  · have l := dic_len e
    exact ⟨by simp [PyData.showable, PyData.showableKv, a1], by simp only [PyData.depth, PyData.depthKv]; omega, by omega, fun z y => nomatch y⟩
  · have l := (tup_len [e, .int 1]).1
    simp only [shsum] at l
    exact ⟨by simp [PyData.showable, PyData.showableAll, a1]; decide, by simp only [PyData.depth, PyData.depthAll]; omega, by omega, fun z y => nomatch y⟩
  · have l := (tup_len [.int 1, e]).1
    simp only [shsum] at l
    exact ⟨by simp [PyData.showable, PyData.showableAll, a1]; decide, by simp only [PyData.depth, PyData.depthAll]; omega, by omega, fun z y => nomatch y⟩
theorem av_mem {K : PySem.W.Frag} {D : Addr → Prop} {H : Hp} {xs : List V} {es : List PyData} {x : V} (a : AvAll K D H xs es) (h : x ∈ xs) : ∃ e, e ∈ es ∧ Av K D H x e := by
  obtain ⟨i, hi⟩ := List.mem_iff_getElem?.mp h
  obtain ⟨e, he, q⟩ := a.get hi
  exact ⟨e, List.mem_of_getElem? he, q⟩
section
variable {K : PySem.W.Frag} {D0 : Addr → Prop} {σ : L2.St} {H : Hp}
theorem vl_neg {i : Int} : Vl K D0 σ H (tUn (rU fun i => .int (-i)) (tC (.int i))) (.int (-i)) := fun H1 _ _ _ _ Q q => Qf.k_of ⟨i, rfl, q H1 _ (Ex.refl H1) (.int _)⟩
theorem vl_pow : Vl K D0 σ H (tOp (rI CPow fun i j => .int (i ^ j.toNat)) (tC (.int 10)) (tC (.int 30))) (.int (10 ^ (30 : Int).toNat)) := fun H1 _ _ _ _ Q q => Qf.op_of (Qf.k_of (Qf.k_of ⟨10, 30, rfl, rfl, ⟨by decide, by decide, by decide⟩, q H1 _ (Ex.refl H1) (.int _)⟩))
end
def spOdd (K : PySem.W.Frag) : Sp := fun vs H Q _ => ∃ (d : Addr) (n : Int), vs = [.ref d] ∧ Pot H d n ∧ n ≤ 900000 ∧
  ∀ H' x e, Off d H H' → Pot H' d (n + 11) → Av K (· = d) H' x e → OddN 9 e → Q x H'
theorem held_pot {H : Hp} {d : Addr} {n : Int} (p : Pot H d n) : HeldV (· = d) H := fun a e z => by
  obtain ⟨g, b, m, h0, _⟩ := p
  rw [show a = d from e, h0] at z
  cases z
theorem OddN.up {k j : Nat} {e : PyData} (h : OddN k e) (le : k ≤ j) : OddN j e := ⟨h.sh, Nat.le_trans h.dp (by omega), Nat.le_trans h.ln (by omega), h.tx⟩
section
variable {P : Program} {w : World} {K : PySem.W.Frag} {mg : Str → Option Value} {base : Heap}
theorem ok_odd {f fT fO : Addr} {fd fdT fdO : FuncData} (F : Fun K "_law_odd" "_law_odd" sOdd f fd) (FT : Fun K "_law_take" "_law_take" sTake fT fdT) (FO : Fun K "_law_of" "_law_of" sOf fO fdO) (bT : Binds K fdT ["_law_pot_here", "_law_many"] []) (bO : Binds K fdO ["_law_pot_here", "_law_some"] [])
    (gT : mg "_law_take" = some (.ref fT)) (gO : mg "_law_of" = some (.ref fO)) (mL : mg "len" = none) (mR : mg "range" = none) : FnOk P w K mg base CX0 3 f fd ["_law_pot_here"] (spOdd K) := by
  have GO : FnOk P w K mg base CX0 2 fO fdO ["_law_pot_here", "_law_some"] spOf := ok_of FO FT bT gT mL
  refine F.ok scOdd (fun vs H Q E h => ?_) (fun cdv A outer s H vs Q E hr h => ?_)
  · obtain ⟨d, n, rfl, _⟩ := h
    rfl
  · obtain ⟨d, n, rfl, hP, hn, q⟩ := h
    refine ⟨_, pss_cons (ps_set (i := 1) scOdd.nd rfl (.inl rfl) (pe_lst (pa_cons pe_non <| pa_cons pe_bl <| pa_cons pe_bl <| pa_cons pe_int <| pa_cons pe_int <| pa_cons (pe_un un_neg pe_int) <| pa_cons (pe_op op_pow pe_int pe_int) <| pa_cons pe_str <| pa_cons pe_str <| pa_cons pe_str <| pa_cons pe_str <| pa_cons (pe_tup pa_nil) <| pa_cons (pe_lstN pa_nil) <| pa_cons pe_dnewK <| pa_cons (pe_tup (pa_cons pe_int pa_nil)) <| pa_cons (pe_tup (pa_cons pe_str pa_nil)) <| pa_cons (pe_lstN (pa_cons pe_str pa_nil)) pa_nil))) <|
      pss_cons (ps_set (i := 2) scOdd.nd rfl (.inl rfl) (pe_call GO hr (by rfl) gO FO.kp bO .nil pass0 (pa_cons (pv 0) <| pa_cons (pe_op op_cat (pv 1) (pe_lst (pa_cons (pe_tup (pa_cons (pe_tup pa_nil) <| pa_cons (pe_tup pa_nil) pa_nil)) <| pa_cons (pe_tup (pa_cons (pe_tup (pa_cons (pe_tup (pa_cons pe_str <| pa_cons pe_int pa_nil)) pa_nil)) <| pa_cons (pe_tup pa_nil) pa_nil)) <| pa_cons pe_int <| pa_cons (pe_disp (pps_cons pe_str pe_int pps_nil) rfl rfl (by simp) (by decide)) <| pa_cons pe_str <| pa_cons pe_str pa_nil))) pa_nil))) <|
      pss_cons (ps_for PassesOwn.never rfl (pi_range1 (by rfl) mR (pa_cons (pe_call GO hr (by rfl) gO FO.kp bO .nil pass0 (pa_cons (pv 0) <| pa_cons (pe_lst (pa_cons pe_int <| pa_cons pe_int <| pa_cons pe_int <| pa_cons pe_int <| pa_cons pe_int <| pa_cons pe_int pa_nil)) pa_nil)) pa_nil)) (pg_name (i := 3) scOdd.nd rfl (.inl rfl))
        (pss_one (ps_set (i := 2) scOdd.nd rfl (.inl rfl) (pe_call GO hr (by rfl) gO FO.kp bO .nil pass0 (pa_cons (pv 0) <| pa_cons (pe_lst (pa_cons (pe_tup (pa_cons (pv 2) pa_nil)) <| pa_cons (pe_lstN (pa_cons (pv 2) pa_nil)) <| pa_cons (pe_disp (pps_cons pe_str (pv 2) pps_nil) rfl rfl (by simp) (by decide)) <| pa_cons (pe_tup (pa_cons (pv 2) <| pa_cons pe_int pa_nil)) <| pa_cons (pe_tup (pa_cons pe_int <| pa_cons (pv 2) pa_nil)) pa_nil)) pa_nil))))) <|
      pss_one (ps_ret (pv 2)), ?_⟩
    have hD := held_pot hP
    have gr : ∀ {H : Hp} (a : Addr), a = d → (fun x => x = d) a ∨ H a = none := fun a e => .inl e
    have v1 : ∀ {σ : L2.St} {H : Hp}, VlA K (· = d) σ H _ odd1 := fun {σ H} => vl_cons vl_non <| vl_cons (vl_bl true) <| vl_cons (vl_bl false) <| vl_cons (vl_int 0) <| vl_cons (vl_int 1) <| vl_cons vl_neg <| vl_cons vl_pow <| vl_cons (vl_str "") <| vl_cons (vl_str "a") <| vl_cons (vl_str "end") <| vl_cons (vl_str "minor") <| vl_cons (vl_tup vl_nil (by decide)) <| vl_cons (vl_lst vl_nil (by decide)) <| vl_cons vl_dnew <| vl_cons (vl_tup (vl_cons (vl_int 0) vl_nil) (by decide)) <| vl_cons (vl_tup (vl_cons (vl_str "minor") vl_nil) (by decide)) <| vl_cons (vl_lst (vl_cons (vl_str "minor") vl_nil) (by decide)) vl_nil
    refine Qf.seq_of (Qf.asg_of (Qf.lst_of (v1 H _ (Ex.refl H) gr hD _ fun H1 xs x1 av => ⟨by rw [av.len]; show 17 ≤ sizeLine; decide, fun p1 hp1 => ?_⟩)))
    have d1 : p1 ≠ d := (hP.ex x1).ne hp1
    have y1 : Ex H (upd H1 p1 (.lst xs)) := x1.trans (Ex.new hp1)
    have h1 : (upd H1 p1 (.lst xs)) p1 = some (.lst xs) := upd_same
    have av1 := av.keepE (Ex.new (o := .lst xs) hp1)
    generalize upd H1 p1 (.lst xs) = H2 at y1 h1 av1 ⊢
    have v2 : ∀ {σ : L2.St} {H : Hp}, VlA K (· = d) σ H _ odd2 := fun {σ H} => vl_cons (vl_tup (vl_cons (vl_tup vl_nil (by decide)) <| vl_cons (vl_tup vl_nil (by decide)) vl_nil) (by decide)) <| vl_cons (vl_tup (vl_cons (vl_tup (vl_cons (vl_tup (vl_cons (vl_str "a") <| vl_cons (vl_int 0) vl_nil) (by decide)) vl_nil) (by decide)) <| vl_cons (vl_tup vl_nil (by decide)) vl_nil) (by decide)) <| vl_cons (vl_int 2) <| vl_cons (vl_disp (vl_int 0)) <| vl_cons (vl_str "root a 0") <| vl_cons (vl_str "\n") vl_nil
    dsimp only
    refine Qf.seq_of (Qf.asg_of (Qf.call_of (Qf.c_of (Qf.v_of rfl (Qf.c_of (Qf.op_of (Qf.v_of rfl (Qf.lst_of (v2 H2 _ (Ex.refl H2) gr (hD.ex y1) _ fun H3 ys x3 av3 => ⟨by rw [av3.len]; show 6 ≤ sizeLine; decide, fun p2 hp2 => ?_⟩)))))))))
    refine ⟨p1, p2, xs, ys, rfl, rfl, (x3.trans (Ex.new hp2)) _ _ h1, upd_same, by rw [av1.len, av3.len]; show 17 + 6 ≤ sizeLine; decide, fun p3 hp3 => ?_⟩
    have y3 : Ex H2 (upd (upd H3 p2 (.lst ys)) p3 (.lst (xs ++ ys))) := (x3.trans (Ex.new hp2)).trans (Ex.new hp3)
    have h3 : (upd (upd H3 p2 (.lst ys)) p3 (.lst (xs ++ ys))) p3 = some (.lst (xs ++ ys)) := upd_same
    have av4 : AvAll K (· = d) (upd (upd H3 p2 (.lst ys)) p3 (.lst (xs ++ ys))) (xs ++ ys) (odd1 ++ odd2) := ((av3.keepE (Ex.new hp2)).keepE (Ex.new hp3)).app (av1.keepE y3)
    have d3 : p3 ≠ d := ((((hP.ex y1).ex x3).ex (Ex.new hp2))).ne hp3
    generalize upd (upd H3 p2 (.lst ys)) p3 (.lst (xs ++ ys)) = H4 at y3 h3 av4 ⊢
    have l4 : (xs ++ ys).length = 23 := av4.len
    refine Qf.n_of ⟨d, p3, n, _, rfl, (hP.ex y1).ex y3, by omega, d3, h3, by omega, by omega, fun H5 x hx o5 p5 => ?_⟩
    obtain ⟨e, he, ax⟩ := av_mem (av4.keep fun a o na ha => o5 a o na ha) hx
    have od := odd_base he
    have off5 : Off d H H5 := (Off.of (y1.trans y3)).trans o5
    dsimp only
    refine Qf.seq_of (for_of (r1_of (Qf.c_of (rd_of (d := d) (ev_var rfl) p5 (by omega) (el_lst (vs := ([0, 0, 0, 1, 2, 9] : List Int).map V.int) (ea_cons ev_c (ea_cons ev_c (ea_cons ev_c (ea_cons ev_c (ea_cons ev_c (ea_cons ev_c ea_nil)))))) (by show 6 ≤ 100000; decide)) (by decide) (by decide) fun H6 k hk o6 p6 => ?_))))
    obtain ⟨m, hm, rfl⟩ : ∃ m : Nat, m ≤ 9 ∧ k = .int (m : Int) := by
      simp only [List.map_cons, List.map_nil, List.mem_cons, List.not_mem_nil, or_false] at hk
      rcases hk with rfl | rfl | rfl | rfl | rfl | rfl
      · exact ⟨0, by decide, rfl⟩
      · exact ⟨0, by decide, rfl⟩
      · exact ⟨0, by decide, rfl⟩
      · exact ⟨1, by decide, rfl⟩
      · exact ⟨2, by decide, rfl⟩
      · exact ⟨9, by decide, rfl⟩
    have ax6 := ax.keep (H' := H6) fun a o na ha => o6 a o na ha
    refine Qf.n_of ⟨(m : Int), rfl, by omega, by omega, ?_⟩
    rw [Int.toNat_natCast]
    refine for_range (lo := 0) (n := m) (fun i σ' G => ∃ x e y3, σ' = [some (.ref d), some (.ref p1), some x, y3] ∧ Off d H G ∧ Pot G d (n + 2 + (i : Int)) ∧ Av K (· = d) G x e ∧ OddN i e) ⟨x, e, none, rfl, off5.trans o6, p6.up (by omega), ax6, od⟩ ?_ ?_
    · rintro i σ' G hi ⟨x, e, y3, rfl, off, pt, a, on⟩
      dsimp only [gName]
      have hdG := held_pot pt
      have v3 : ∀ {y}, VlA K (· = d) [some (.ref d), some (.ref p1), some x, y] G _ (oddOf e) := fun {y} => vl_cons (vl_tup (vl_cons (vl_var (i := 2) rfl a) vl_nil) (by show 1 ≤ 100; decide)) <| vl_cons (vl_lst (vl_cons (vl_var (i := 2) rfl a) vl_nil) (by show 1 ≤ 100; decide)) <| vl_cons (vl_disp (k := "a") (vl_var (i := 2) rfl a)) <| vl_cons (vl_tup (vl_cons (vl_var (i := 2) rfl a) <| vl_cons (vl_int 1) vl_nil) (by show 2 ≤ 100; decide)) <| vl_cons (vl_tup (vl_cons (vl_int 1) <| vl_cons (vl_var (i := 2) rfl a) vl_nil) (by show 2 ≤ 100; decide)) vl_nil
      refine Qf.asg_of (Qf.call_of (Qf.c_of (Qf.v_of rfl (Qf.c_of (Qf.lst_of (v3 G _ (Ex.refl G) gr hdG _ fun G1 zs x1 av1 => ⟨by rw [av1.len]; show 5 ≤ sizeLine; decide, fun p4 hp4 => ?_⟩))))))
      have l5 : zs.length = 5 := av1.len
      refine Qf.n_of ⟨d, p4, _, zs, rfl, (pt.ex x1).ex (Ex.new hp4), by omega, (pt.ex x1).ne hp4, upd_same, by omega, by omega, fun G2 x' hx' o' p' => ?_⟩
      obtain ⟨e', he', ax'⟩ := av_mem ((av1.keepE (Ex.new hp4)).keep fun a o na ha => o' a o na ha) hx'
      exact ⟨x', e', _, rfl, off.trans ((Off.of (x1.trans (Ex.new hp4))).trans o'), p'.up (by omega), ax', odd_step on he'⟩
    · rintro σ' G ⟨x, e, y3, rfl, off, pt, a, on⟩
      dsimp only
      exact Qf.ret_of (Qf.v_of rfl (q G x e off (pt.up (by omega)) a (on.up hm)))
end
end Qf
/-! _law_right -/
namespace Qf
open PySem PySem.Spec PyProof.Rows L2 Evl Gd Qw Sn
abbrev sRight : Stmt := topS 63
abbrev nRight : List Str := ["_law_pot_here", "_law_rows", "_law_turn", "_law_row", "_law_bent", "_law_some", "_law_again"]
theorem scRight : FnScope nRight ["_law_pot_here"] (defScope sRight) := ⟨rfl, rfl, rfl, by decide +kernel, rfl, by decide +kernel, by decide +kernel⟩
def spRight : L2.Sp := fun vs H Q _ => ∃ (d : Addr) (n : Int), vs = [.ref d] ∧ Pot H d n ∧ n ≤ 100000 ∧ ∀ H', Off d H H' → Q (.bl true) H'
theorem shw_text {z : Str} (h : Wd z) : Shw (.str z) := by
  have f := fit_word h
  have := h.few
  exact ⟨f.sh, Nat.le_trans f.dp (by decide), Nat.le_trans f.ln (by omega)⟩
theorem shw_odd {e : PyData} (h : OddN 9 e) : Shw e := ⟨h.sh, Nat.le_trans h.dp (by decide), Nat.le_trans h.ln (by decide)⟩
section
variable {P : Program} {w : World} {K : PySem.W.Frag} {mg : Str → Option Value} {base : Heap}
theorem is_text {z : Str} {H : Hp} {Q : VK} {E : XK} (h : Wd z) (q : ∀ H', Ex H H' → Q (.bl true) H') : spIs K [.str z] H Q E :=
  ⟨fun _ => False, .str z, .str z, rfl, .str z, shw_text h, fun y e => by cases e; exact h, q⟩
theorem ok_right {f fT fO fR fS fI fD : Addr} {fd fdT fdO fdR fdS fdI fdD : FuncData} (F : Fun K "_law_right" "_law_right" sRight f fd) (FT : Fun K "_law_take" "_law_take" sTake fT fdT) (FO : Fun K "_law_of" "_law_of" sOf fO fdO) (FR : Fun K "_law_form_row" "_law_form_row" sRow fR fdR) (FS : Fun K "_law_spoilt" "_law_spoilt" sSpoilt fS fdS) (FI : Fun K "_law_is_right" "_law_is_right" sIs fI fdI) (FD : Fun K "_law_odd" "_law_odd" sOdd fD fdD)
    (bT : Binds K fdT ["_law_pot_here", "_law_many"] []) (bO : Binds K fdO ["_law_pot_here", "_law_some"] []) (bR : Binds K fdR ["_law_pot_here"] []) (bS : Binds K fdS ["_law_pot_here", "_law_row"] []) (bI : Binds K fdI ["_law_value"] []) (bD : Binds K fdD ["_law_pot_here"] [])
    (gT : mg "_law_take" = some (.ref fT)) (gO : mg "_law_of" = some (.ref fO)) (gR : mg "_law_form_row" = some (.ref fR)) (gS : mg "_law_spoilt" = some (.ref fS)) (gI : mg "_law_is_right" = some (.ref fI)) (gD : mg "_law_odd" = some (.ref fD)) (mR : mg "range" = none) (mL : mg "len" = none) (mA : mg "all" = none) (mS : mg "str" = none)
    (GI : FnG P w K mg base CX0 10 fI fdI ["_law_value"] (spIs K)) : FnG P w K mg base CX0 11 f fd ["_law_pot_here"] spRight := by
  have GT : FnOk P w K mg base CX0 10 fT fdT ["_law_pot_here", "_law_many"] spTake := (ok_take FT).mono (by decide)
  have GO : FnOk P w K mg base CX0 10 fO fdO ["_law_pot_here", "_law_some"] spOf := (ok_of FO FT bT gT mL).mono (by decide)
  have GR : FnOk P w K mg base CX0 10 fR fdR ["_law_pot_here"] spRow := (ok_row FR FT FO bT bO gT gO mL mS mR).mono (by decide)
  have GS : FnOk P w K mg base CX0 10 fS fdS ["_law_pot_here", "_law_row"] spSpoilt := (ok_spoilt FS FT FO bT bO gT gO mL).mono (by decide)
  have GD : FnOk P w K mg base CX0 10 fD fdD ["_law_pot_here"] (spOdd K) := (ok_odd FD FT FO bT bO gT gO mL mR).mono (by decide)
  refine fng0_of F scRight (fun vs H Q E h => ?_) (fun cdv A outer s H vs Q E hr gd h => ?_)
  · obtain ⟨d, n, rfl, _⟩ := h
    rfl
  · obtain ⟨d, n, rfl, pot, hn, q⟩ := h
    refine ⟨_, pss_cons (ps_set (i := 1) scRight.nd rfl (.inl rfl) (pe_lst pa_nil)) <|
      pss_cons (ps_for PassesOwn.never rfl (pi_range1 (by rfl) mR (pa_cons pe_int pa_nil)) (pg_name (i := 2) scRight.nd rfl (.inl rfl))
        (pss_cons (ps_set (i := 3) scRight.nd rfl (.inl rfl) (pe_call GR hr (by rfl) gR FR.kp bR .nil pass0 (pa_cons (pv 0) pa_nil))) <|
         pss_cons (ps_set (i := 4) scRight.nd rfl (.inl rfl) (pe_call GS hr (by rfl) gS FS.kp bS .nil pass0 (pa_cons (pv 0) <| pa_cons (pv 3) pa_nil))) <|
         pss_one (ps_set (i := 1) scRight.nd rfl (.inl rfl) (pe_op op_cat (pv 1) (pe_lst (pa_cons (pv 3) <| pa_cons (pv 4) <| pa_cons (pe_call GS hr (by rfl) gS FS.kp bS .nil pass0 (pa_cons (pv 0) <| pa_cons (pv 4) pa_nil)) pa_nil)))))) <|
      pss_cons (ps_if (pt_not (pt_val (pe_callB (cr_all rfl) (by rfl) mA (by decide +kernel) (pa_cons (pe_lc (own := [("_law_row", 3)]) (g := gName 3) (tt := tYes) (te := tCall (spIs K) [] E0 (tCons (tVar 3) tNil)) rfl scRight.nd (pi_list (pv 1)) (blkOk_by (N := nRight) (sc := defScope sRight) (by decide +kernel))
          (fun _ _ _ _ _ => pg_name (i := 3) scRight.nd rfl (.inl rfl)) (fun _ _ _ _ _ => pts_nil) (fun _ _ _ _ _ => pe_callG GI hr gd (by rfl) gI FI.kp bI .nil pass0 (pa_cons (pv 3) pa_nil))) pa_nil)))) (pss_one (ps_ret pe_bl)) pss_nil) <|
      pss_cons (ps_for PassesOwn.never rfl (pi_range1 (by rfl) mR (pa_cons pe_int pa_nil)) (pg_name (i := 2) scRight.nd rfl (.inl rfl))
        (pss_cons (ps_setLc (i := 5) (own := [("_law_again", 6)]) (g := gName 6) (tt := tYes) (te := tCall spRow [] E0 (tCons (tVar 0) tNil)) rfl scRight.nd rfl rfl (sw_true rfl rfl rfl (by decide +kernel)) (pi_range1 (by rfl) mR (pa_cons (pe_call GT hr (by rfl) gT FT.kp bT .nil pass0 (pa_cons (pv 0) <| pa_cons pe_int pa_nil)) pa_nil)) (blkOk_by (N := nRight) (sc := defScope sRight) (by decide +kernel))
            (fun _ _ _ _ _ => pg_name (i := 6) scRight.nd rfl (.inl rfl)) (fun _ _ _ _ _ => pts_nil) (fun _ _ _ _ _ => pe_call GR hr (by rfl) gR FR.kp bR .nil pass0 (pa_cons (pv 0) pa_nil))) <|
         pss_cons (ps_if (pt_cmpR op_eq (pe_call GT hr (by rfl) gT FT.kp bT .nil pass0 (pa_cons (pv 0) <| pa_cons pe_int pa_nil)) pe_int (nomark _)) (pss_one (ps_expr (pe_bm PySem.F.plainAttrs_list PySem.F.slot_list_append PySem.F.type_list_append mt_append (pv 5) (pa_cons (pe_call GO hr (by rfl) gO FO.kp bO .nil pass0 (pa_cons (pv 0) <| pa_cons (pv 1) pa_nil)) pa_nil)))) pss_nil) <|
         pss_one (ps_if (pt_not (pt_val (pe_callG GI hr gd (by rfl) gI FI.kp bI .nil pass0 (pa_cons (pe_join pe_str (pv 5)) pa_nil)))) (pss_one (ps_ret pe_bl)) pss_nil))) <|
      pss_one (ps_ret (pe_callB (cr_all rfl) (by rfl) mA (by decide +kernel) (pa_cons (pe_lc (own := [("_law_turn", 2)]) (g := gName 2) (tt := tYes) (te := tCall (spIs K) [] E0 (tCons (tCall (spOdd K) [] E0 (tCons (tVar 0) tNil)) tNil)) rfl scRight.nd (pi_range1 (by rfl) mR (pa_cons pe_int pa_nil)) (blkOk_by (N := nRight) (sc := defScope sRight) (by decide +kernel))
          (fun _ _ _ _ _ => pg_name (i := 2) scRight.nd rfl (.inl rfl)) (fun _ _ _ _ _ => pts_nil) (fun _ _ _ _ _ => pe_callG GI hr gd (by rfl) gI FI.kp bI .nil pass0 (pa_cons (pe_call GD hr (by rfl) gD FD.kp bD .nil pass0 (pa_cons (pv 0) pa_nil)) pa_nil))) pa_nil))), ?_⟩
    refine Qf.seq_of (Qf.asg_of (Qf.lst_of (Qf.n_of ⟨Nat.zero_le _, fun l0 hl0 => ?_⟩)))
    have nl0 : l0 ≠ d := pot.ne hl0
    have off0 : Off d H (upd H l0 (.lst [])) := Off.of (Ex.new hl0)
    have pot0 := pot.ex (Ex.new (o := .lst []) hl0)
    have h0 : (upd H l0 (.lst [])) l0 = some (.lst (([] : List Str).map V.str)) := upd_same
    generalize upd H l0 (.lst []) = H0 at off0 pot0 h0 ⊢
    dsimp only
    -- the rows
    refine Qf.seq_of (for_of (r1_of (Qf.c_of (Qf.k_of (Qf.n_of ⟨40, rfl, by decide, by decide, for_range (lo := 0) (n := 40) (fun i σ' G => ∃ l ws y2 y3 y4, σ' = [some (.ref d), some (.ref l), y2, y3, y4, none, none] ∧ Off d H G ∧ Pot G d (n + 32 * (i : Int)) ∧ l ≠ d ∧ G l = some (.lst (ws.map V.str)) ∧ ws.length = 3 * i ∧ ∀ u ∈ ws, Sh 460 u) ⟨l0, [], none, none, none, rfl, off0, pot0.up (by omega), nl0, h0, rfl, fun u hu => nomatch hu⟩ ?_ ?_⟩)))))
    · rintro i σ' G hi ⟨l, ws, y2, y3, y4, rfl, off, pt, nl, hl, len, all⟩
      dsimp only [gName]
      refine Qf.seq_of (Qf.asg_of (Qf.call_of (Qf.c_of (Qf.v_of rfl (Qf.n_of ⟨d, _, rfl, pt, by omega, fun G1 r hr1 o1 p1 => ?_⟩)))))
      dsimp only
      refine Qf.seq_of (Qf.asg_of (Qf.call_of (Qf.c_of (Qf.v_of rfl (Qf.c_of (Qf.v_of rfl (Qf.n_of ⟨d, _, r, 100, rfl, p1, by omega, hr1.sh, by decide, fun G2 b hb o2 p2 => ?_⟩)))))))
      dsimp only
      refine Qf.asg_of (Qf.op_of (Qf.v_of rfl (Qf.lst_of (Qf.c_of (Qf.v_of rfl (Qf.c_of (Qf.v_of rfl (Qf.c_of (Qf.call_of (Qf.c_of (Qf.v_of rfl (Qf.c_of (Qf.v_of rfl (Qf.n_of ⟨d, _, b, _, rfl, p2, by omega, hb, by decide, fun G3 c hc o3 p3 => ?_⟩))))))))))))))
      refine Qf.n_of ⟨by show 3 ≤ sizeLine; decide, fun p hp => ⟨l, p, _, _, rfl, rfl, (Ex.new hp) _ _ (o3 _ _ nl (o2 _ _ nl (o1 _ _ nl hl))), upd_same, by rw [List.length_map, len, sizeLine_eq]; show _ + 3 ≤ _; omega, fun p2' hp2 => ?_⟩⟩
      have pt4 := (p3.ex (Ex.new (o := .lst [.str r, .str b, .str c]) hp)).ex (Ex.new (o := .lst (ws.map V.str ++ [.str r, .str b, .str c])) hp2)
      have nl4 : p2' ≠ d := (p3.ex (Ex.new (o := .lst [.str r, .str b, .str c]) hp)).ne hp2
      refine ⟨p2', ws ++ [r, b, c], _, _, _, rfl, (((off.trans o1).trans o2).trans o3).trans (Off.of ((Ex.new hp).trans (Ex.new hp2))), pt4.up (by push_cast; omega), nl4, ?_, ?_, ?_⟩
      · rw [upd_same, List.map_append]
        rfl
      · rw [List.length_append, len]
        show _ + 3 = _
        omega
      · intro u hu
        rcases List.mem_append.mp hu with hu | hu
        · exact all u hu
        · simp only [List.mem_cons, List.not_mem_nil, or_false] at hu
          rcases hu with rfl | rfl | rfl
          · exact hr1.sh.up (by decide)
          · exact hb.up (by decide)
          · exact hc.up (by decide)
    rintro σ' G ⟨l, ws, y2, y3, y4, rfl, off, pt, nl, hl, len, all⟩
    dsimp only
    have hws : Ws G l ws := ⟨hl, fun u hu => (all u hu).wd (by decide), by omega⟩
    refine Qf.seq_of (SaysT.ifS (A := ¬ ∀ u ∈ ws, True) (SaysT.not (Says.val (says_all (G := fun _ => True) (gives_var rfl hws) (fun _ => rfl) fun H' u x' hu wu => var_call rfl fun Q' q' => is_text wu fun H2 e2 => q' H2 true e2 (t_iff trivial)))) (fun G1 x1 a => absurd (fun u hu => trivial) a) fun G1 x1 _ => ?_)
    dsimp only [tNext]
    have off1 := off.trans (Off.of x1)
    have pt1 := pt.ex x1
    have hl1 := x1 _ _ hl
    clear hws hl pt off
    -- the pages
    refine Qf.seq_of (for_of (r1_of (Qf.c_of (Qf.k_of (Qf.n_of ⟨10, rfl, by decide, by decide, for_range (lo := 0) (n := 10) (fun i σ' G' => ∃ y2 y3 y4 y5, σ' = [some (.ref d), some (.ref l), y2, y3, y4, y5, none] ∧ Off d H G' ∧ Pot G' d (n + 1280 + 130 * (i : Int)) ∧ G' l = some (.lst (ws.map V.str))) ⟨y2, y3, y4, none, rfl, off1, pt1.up (by omega), hl1⟩ ?_ ?_⟩)))))
    · rintro i σ' G2 hi ⟨y2, y3, y4, y5, rfl, off, pt, hl⟩
      dsimp only [gName]
      refine Qf.seq_of (Qf.asg_of (lc_of (r1_of (Qf.c_of (Qf.call_of (Qf.c_of (Qf.v_of rfl (Qf.c_of (Qf.k_of (Qf.n_of ⟨d, _, 7, rfl, pt, by omega, by decide, by decide, fun G3 r o3 p3 r0 r1 => ?_⟩)))))))))) 
      obtain ⟨m, rfl⟩ : ∃ m : Nat, r = m := ⟨r.toNat, by omega⟩
      refine Qf.n_of ⟨(m : Int), rfl, by omega, by omega, fun D hD => ?_⟩
      have nD : D ≠ d := p3.ne hD
      rw [Int.toNat_natCast]
      have hl3 := o3 _ _ nl hl
      refine lc_range (lo := 0) (n := m) (fun j G' => Off d G3 G' ∧ Pot G' d (n + 1280 + 130 * (i : Int) + 1 + 20 * (j : Int)) ∧ ∃ us : List Str, G' D = some (.lst (us.map V.str)) ∧ us.length = j ∧ ∀ u ∈ us, Sh 460 u) ⟨Off.of (Ex.new hD), (p3.ex (Ex.new hD)).up (by omega), [], (upd_same : upd G3 D (.lst []) D = some (.lst [])), rfl, fun u h => nomatch h⟩ ?_ ?_
      · rintro j G' hj ⟨o', p', us, hd, lu, au⟩
        refine ⟨rfl, ?_⟩
        dsimp only [tYes]
        rw [if_pos rfl]
        refine Qf.call_of (Qf.c_of (Qf.v_of rfl (Qf.n_of ⟨d, _, rfl, p', by omega, fun G4 r hr4 o4 p4 => ?_⟩)))
        refine ⟨_, o4 _ _ nD hd, sz_lt (by rw [List.length_map]; omega), ?_, pot_upd (p4.up (by push_cast; omega)) nD, us ++ [r], by rw [upd_same, List.map_append]; rfl, by rw [List.length_append, lu]; rfl, fun u hu => ?_⟩
        · exact off_mut (o'.trans o4) hD
        · rcases List.mem_append.mp hu with hu | hu
          · exact au u hu
          · rw [List.mem_singleton.mp hu]
            exact hr4.sh.up (by decide)
      rintro G4 ⟨o4, p4, us, hd, lu, au⟩
      have hl4 := o4 _ _ nl hl3
      have off4 := (off.trans o3).trans o4
      dsimp only
      -- one row more, at times
      have tail : ∀ (G5 : Hp) (vs : List Str), Off d H G5 → Pot G5 d (n + 1280 + 130 * ((i : Int) + 1)) → G5 l = some (.lst (ws.map V.str)) → G5 D = some (.lst (vs.map V.str)) → vs.length ≤ 8 → (∀ u ∈ vs, Sh 460 u) →
          ∀ (En : Ends), (∀ G6, Off d H G6 → Pot G6 d (n + 1280 + 130 * ((i : Int) + 1)) → G6 l = some (.lst (ws.map V.str)) → En.nx [some (.ref d), some (.ref l), some (.int (0 + (i : Int))), y3, y4, some (.ref D), none] G6) →
          tIfS (tNot (tB (tCall (spIs K) [] E0 (tCons (tM1 (rJoinW K) (tC (.str "\n")) (tVar 5)) tNil)))) (tRet (tC (.bl false))) tNext En [some (.ref d), some (.ref l), some (.int (0 + (i : Int))), y3, y4, some (.ref D), none] G5 := by
        intro G5 vs o5 p5 h5 hD5 few av En ok
        have wl : wt vs ≤ 461 * vs.length := by
          clear hD5 few
          unfold wt
          induction vs with
          | nil => exact Nat.zero_le _
          | cons a r ih =>
            have := (av a List.mem_cons_self).2
            have := ih fun u hu => av u (List.mem_cons_of_mem _ hu)
            rw [List.map_cons, List.sum_cons, List.length_cons]
            omega
        have gw : Gw K [some (.ref d), some (.ref l), some (.int (0 + (i : Int))), y3, y4, some (.ref D), none] G5 (tVar 5) 4000 := fun Q' q' => Qf.v_of rfl (q' G5 D vs (Ex.refl G5) hD5 (fun u hu => (av u hu).1) (by omega))
        refine ifS_of (not_of (test_of (Qf.call_of (Qf.c_of (join_w (c := 10) (by decide +kernel) (by decide) gw (by decide) fun G6 z x6 hz => Qf.n_of (is_text (hz.wd (by decide)) fun G7 x7 => ⟨true, rfl, ?_⟩))))))
        rw [if_neg (show ¬ (!true) = true from Bool.false_ne_true)]
        exact ok G7 (o5.trans (Off.of (x6.trans x7))) ((p5.ex x6).ex x7) ((x6.trans x7) _ _ h5)
      have fin : ∀ G6, Off d H G6 → Pot G6 d (n + 1280 + 130 * ((i : Int) + 1)) → G6 l = some (.lst (ws.map V.str)) → ∃ y2 y3' y4' y5, [some (.ref d), some (.ref l), some (.int (0 + (i : Int))), y3, y4, some (.ref D), none] = [some (.ref d), some (.ref l), y2, y3', y4', y5, none] ∧ Off d H G6 ∧ Pot G6 d (n + 1280 + 130 * ((i + 1 : Nat) : Int)) ∧ G6 l = some (.lst (ws.map V.str)) := fun G6 a b c => ⟨_, _, _, _, rfl, a, b, c⟩
      refine Qf.seq_of (ifS_of (test_of (Qf.op_of (Qf.call_of (Qf.c_of (Qf.v_of rfl (Qf.c_of (Qf.k_of (Qf.n_of ⟨d, _, 2, rfl, p4, by omega, by decide, by decide, fun G5 r o5 p5 r0 r1' => Qf.k_of ⟨rfl, _, rfl, ?_⟩⟩))))))))) 
      have hl5 := o5 _ _ nl hl4
      have hd5 := o5 _ _ nD hd
      have off5 := off4.trans o5
      by_cases r00 : r = 0
      · rw [decide_eq_true (by rw [r00]), if_pos rfl]
        refine Sn.drop_of (Qf.v_of rfl ⟨.inl ⟨rfl, _, sq_of hd5⟩, Qf.c_of (Qf.call_of (Qf.c_of (Qf.v_of rfl (Qf.c_of (Qf.v_of rfl (Qf.n_of ⟨d, l, _, _, rfl, p5, by omega, nl, hl5, by rw [List.length_map, len]; decide, by rw [List.length_map, len]; decide, fun G6 x hx o6 p6 => ?_⟩))))))⟩)
        obtain ⟨u, hu, rfl⟩ := List.mem_map.mp hx
        have hd6 := o6 _ _ nD hd5
        have hl6 := o6 _ _ nl hl5
        have lD : l ≠ D := fun e => by
          rw [e, hD] at hl3
          cases hl3
        have frD : H D = none := off_none (off.trans o3) nD hD
        refine Qf.n_of ⟨D, _, .str u, rfl, rfl, hd6, sz_lt (by rw [List.length_map]; omega), ?_⟩
        refine tail (upd G6 D (.lst (us.map V.str ++ [.str u]))) (us ++ [u]) (off_mut (off5.trans o6) frD) (pot_upd (p6.up (by omega)) nD) (by rw [upd_ne lD]; exact hl6) (by rw [upd_same, List.map_append]; rfl) (by rw [List.length_append, lu]; show _ + 1 ≤ 8; omega) (fun v hv => ?_) _ ?_
        rotate_left
        · exact fin
        rcases List.mem_append.mp hv with hv | hv
        · exact au v hv
        · rw [List.mem_singleton.mp hv]
          exact all u hu
      · rw [decide_eq_false (fun e => r00 (V.int.inj e)), if_neg Bool.false_ne_true]
        dsimp only [tNext]
        refine tail G5 us off5 (p5.up (by omega)) hl5 hd5 (by omega) au _ ?_
        exact fin
    rintro σ' G2 ⟨y2, y3, y4, y5, rfl, off, pt, _⟩
    dsimp only
    refine Qf.ret_of (Qf.cb_of (Qf.c_of (lc_of (r1_of (Qf.c_of (Qf.k_of (Qf.n_of ⟨20, rfl, by decide, by decide, fun D hD => ?_⟩)))))))
    have nD : D ≠ d := pt.ne hD
    refine lc_range (lo := 0) (n := 20) (fun j G' => Off d G2 G' ∧ Pot G' d (n + 2580 + 11 * (j : Int)) ∧ G' D = some (.lst ((List.replicate j true).map V.bl))) ⟨Off.of (Ex.new hD), (pt.ex (Ex.new hD)).up (by omega), upd_same⟩ ?_ ?_
    · rintro j G' hj ⟨o', p', hd⟩
      refine ⟨rfl, ?_⟩
      dsimp only [tYes]
      rw [if_pos rfl]
      refine Qf.call_of (Qf.c_of (Qf.call_of (Qf.c_of (Qf.v_of rfl (Qf.n_of ⟨d, _, rfl, p', by omega, fun G3 x e o3 p3 ax od => ?_⟩)))))
      refine Qf.n_of ⟨(· = d), x, e, rfl, ax, shw_odd od, fun z ez => (od.tx z ez).wd (by decide), fun G4 x4 => ?_⟩
      have hd4 := x4 _ _ (o3 _ _ nD hd)
      refine ⟨_, hd4, sz_lt (by rw [List.length_map, List.length_replicate]; omega), off_mut ((o'.trans o3).trans (Off.of x4)) hD, pot_upd ((p3.ex x4).up (by push_cast; omega)) nD, ?_⟩
      rw [upd_same, List.replicate_succ', List.map_append]
      rfl
    · rintro G3 ⟨o3, p3, hd⟩
      refine Qf.n_of ⟨D, _, rfl, sq_of hd, ?_⟩
      rw [show (List.replicate 20 true).all id = true from by decide]
      exact q G3 (off.trans o3)
end
end Qf
/-! law -/
namespace Qf
open PySem PySem.Spec PyProof.Rows L2 Evl Gd Qw Sn
abbrev sLaw : Stmt := topS 64
abbrev nLaw : List Str := ["_law_script", "_law_k", "_law_row"]
theorem scLaw : FnScope nLaw ["_law_script"] (defScope sLaw) := ⟨rfl, rfl, rfl, by decide +kernel, rfl, by decide +kernel, by decide +kernel⟩
def spLaw (K : PySem.W.Frag) : L2.Sp := fun vs H Q _ => ∃ (a : Addr) (ns : List Int), vs = [.ref a] ∧ SqL K H a (ns.map V.int) ∧ ns.length ≤ 63 ∧ ∀ H', Q (.bl true) H'
theorem Off.toEx {d : Addr} {H H' : Hp} (o : Off d H H') (h : H d = none) : Ex H H' := fun a u ha => o a u (ne_of_none ha h) ha
section
variable {P : Program} {w : World} {K : PySem.W.Frag} {mg : Str → Option Value} {base : Heap}
theorem ok_law {f fJ fR fI fH : Addr} {fd fdJ fdR fdI fdH : FuncData} (F : Fun K "law" "law" sLaw f fd) (FJ : Fun K "_law_pot" "_law_pot" sSource fJ fdJ) (FR : Fun K "_law_right" "_law_right" sRight fR fdR) (FI : Fun K "_law_is_right" "_law_is_right" sIs fI fdI) (FH : Fun K "_law_hand_rows" "_law_hand_rows" sHand fH fdH)
    (bJ : Binds K fdJ ["_law_script", "_law_k"] []) (bR : Binds K fdR ["_law_pot_here"] []) (bI : Binds K fdI ["_law_value"] []) (bH : Binds K fdH [] [])
    (gJ : mg "_law_pot" = some (.ref fJ)) (gR : mg "_law_right" = some (.ref fR)) (gI : mg "_law_is_right" = some (.ref fI)) (gH : mg "_law_hand_rows" = some (.ref fH))
    (mL : mg "len" = none) (mR : mg "range" = none) (mX : mg "max" = none) (mN : mg "min" = none) (mB : mg "abs" = none) (mI : mg "int" = none) (mA : mg "all" = none)
    (GR : FnG P w K mg base CX0 11 fR fdR ["_law_pot_here"] spRight) (GI' : FnG P w K mg base CX0 10 fI fdI ["_law_value"] (spIs K)) : FnG P w K mg base CX0 12 f fd ["_law_script"] (spLaw K) := by
  have GJ : FnOk P w K mg base CX0 11 fJ fdJ ["_law_script", "_law_k"] (spSource K) := (ok_source FJ mL mB mI).mono (by decide)
  have GH : FnOk P w K mg base CX0 11 fH fdH [] spHand := (ok_hand FH).mono (by decide)
  refine fng0_of F scLaw (fun vs H Q E h => ?_) (fun cdv A outer s H vs Q E hr gd h => ?_)
  · obtain ⟨a, ns, rfl, _⟩ := h
    rfl
  · obtain ⟨a, ns, rfl, hS, hlen, q⟩ := h
    refine ⟨_, pss_cons (ps_if (pt_not (pt_val (pe_callB (cr_all rfl) (by rfl) mA (by decide +kernel) (pa_cons (pe_lc (own := [("_law_row", 2)]) (g := gName 2) (tt := tYes) (te := tCall (spIs K) [] E0 (tCons (tVar 2) tNil)) rfl scLaw.nd (pi_list (pe_call0 GH hr (by rfl) gH FH.kp bH .nil pass0)) (blkOk_by (N := nLaw) (sc := defScope sLaw) (by decide +kernel))
          (fun _ _ _ _ _ => pg_name (i := 2) scLaw.nd rfl (.inl rfl)) (fun _ _ _ _ _ => pts_nil) (fun _ _ _ _ _ => pe_callG GI' (hr.mono (by decide)) gd (by rfl) gI FI.kp bI .nil pass0 (pa_cons (pv 2) pa_nil))) pa_nil)))) (pss_one (ps_ret pe_bl)) pss_nil) <|
      pss_cons (ps_for PassesOwn.never rfl (pi_range1 (by rfl) mR (pa_cons (pe_callB (call_max2 rfl) (by rfl) mX boot_max (pa_cons pe_int (pa_cons (pe_callB (call_min2 rfl) (by rfl) mN boot_min (pa_cons pe_int (pa_cons (pe_callB call_len_seq (by rfl) mL PySem.boot_len (pa_cons (pv 0) pa_nil)) pa_nil))) pa_nil))) pa_nil)) (pg_name (i := 1) scLaw.nd rfl (.inl rfl))
        (pss_one (ps_if (pt_not (pt_val (pe_callG GR hr gd (by rfl) gR FR.kp bR .nil pass0 (pa_cons (pe_call GJ hr (by rfl) gJ FJ.kp bJ .nil pass0 (pa_cons (pv 0) <| pa_cons (pv 1) pa_nil)) pa_nil)))) (pss_one (ps_ret pe_bl)) pss_nil))) <|
      pss_one (ps_ret pe_bl), ?_⟩
    refine Sn.seq_of (ifS_of (not_of (test_of (Sn.cb_of (Sn.c_of (lc_of (iL_of (Sn.call_of (Sn.n_of ⟨rfl, fun H1 p x1 hp => ⟨p, rfl, ⟨_, sq_of hp⟩, fun D hD => ?_⟩⟩)))))))))
    refine lc_list (xs := handL.map V.str) (fun i H' => Ex H1 H' ∧ H' D = some (.lst ((List.replicate i true).map V.bl))) ⟨Ex.new hD, upd_same⟩ (fun i H' _ h => sq_of (h.1 _ _ hp)) ?_ ?_
    · rintro i x' H' hx ⟨e, hd⟩
      rw [List.getElem?_map] at hx
      obtain ⟨u, hu, rfl⟩ := Option.map_eq_some_iff.mp hx
      have il : i < handL.length := (List.getElem?_eq_some_iff.mp hu).1
      have ih : handL.length = 48 := by decide
      refine ⟨rfl, ?_⟩
      dsimp only [tYes]
      rw [if_pos rfl]
      refine Sn.call_of (Sn.c_of (Sn.v_of rfl (Sn.n_of (is_text (hand_wd u (List.mem_of_getElem? hu)) fun H2 x2 => ?_))))
      refine ⟨_, x2 _ _ hd, sz_lt (by rw [List.length_map, List.length_replicate]; omega), Ex.mut (e.trans x2) hD, ?_⟩
      rw [upd_same, List.replicate_succ', List.map_append]
      rfl
    rintro H2 ⟨x2, hd⟩
    refine Sn.n_of ⟨D, _, rfl, sq_of hd, true, by rw [show (List.replicate (handL.map V.str).length true).all id = true from by simp], ?_⟩
    rw [if_neg (show ¬ (!true) = true from Bool.false_ne_true)]
    dsimp only [tNext]
    have x02 := x1.trans x2
    have hS2 := ex_l x02 hS
    refine Sn.seq_of ?_
    refine ⟨.ref a, rfl, a, _, rfl, .inl hS2, 3, _, rfl, 1, _, rfl, _, rfl, ?_, ?_, ?_⟩
    · split <;> (try split) <;> omega
    · split <;> (try split) <;> omega
    have hn : (if (if ((ns.map V.int).length : Int) < 3 then ((ns.map V.int).length : Int) else 3) > 1 then (if ((ns.map V.int).length : Int) < 3 then ((ns.map V.int).length : Int) else 3) else 1).toNat ≤ 3 := by
      split <;> (try split) <;> omega
    refine for_range (lo := 0) (fun i σ' H' => ∃ y1 y2, σ' = [some (.ref a), y1, y2] ∧ Ex H H') ⟨_, _, rfl, x02⟩ ?_ ?_
    · rintro i σ' H1' hi ⟨y1, y2, rfl, e1'⟩
      dsimp only [gName]
      refine ifS_of (not_of (test_of (Sn.call_of (Sn.c_of (Sn.call_of (Sn.c_of (Sn.v_of rfl (Sn.c_of (Sn.v_of rfl (Sn.n_of ⟨a, ns, 0 + (i : Int), rfl, ex_l e1' hS, hlen, by omega, by omega, fun H2' d e2' hd pot => ?_⟩)))))))))) 
      have hdN : H d = none := fresh_back e1' hd
      refine Sn.n_of ⟨d, _, rfl, pot, by decide, fun H3 o3 => ⟨true, rfl, ?_⟩⟩
      rw [if_neg (show ¬ (!true) = true from Bool.false_ne_true)]
      exact ⟨_, _, rfl, Off.toEx ((Off.of (e1'.trans e2')).trans o3) hdN⟩
    · rintro σ' H' _
      exact q H'
end
end Qf
namespace Qf
open PySem PySem.Spec PyProof.Rows L2 Evl Gd Qw Ex Sn
/-- a def of the top, as the head finds it -/
structure At (K : PySem.W.Frag) (x : Str) (st : Stmt) (f : Addr) : Prop where
  nm : PySem.W.nsIn K mainGlobals x = some (some (.ref f))
  ex : ∃ (oc kV doc pm cdv ct : Value) (od an : Option Addr) (sl : Array (Option Value)), K.lookup f = some ⟨oc, od, .func (PySem.W.fnOf x x (defArgs st) (defBody st) (defScope st) .none kV doc pm an cdv ct), sl⟩ ∧ PySem.W.codeIn K cdv x = true
  kp : PySem.W.keepIn K (.ref f) = true
theorem At.of {K : PySem.W.Frag} {x : Str} {st : Stmt} {f : Addr} {oc kV doc pm cdv ct : Value} {od an : Option Addr} {sl : Array (Option Value)} (n : PySem.W.nsIn K mainGlobals x = some (some (.ref f))) (l : K.lookup f = some ⟨oc, od, .func (PySem.W.fnOf x x (defArgs st) (defBody st) (defScope st) .none kV doc pm an cdv ct), sl⟩)
    (c : PySem.W.codeIn K cdv x = true) (k : PySem.W.keepIn K (.ref f) = true) : At K x st f := ⟨n, ⟨oc, kV, doc, pm, cdv, ct, od, an, sl, l, c⟩, k⟩
theorem At.fn {K : PySem.W.Frag} {x : Str} {st : Stmt} {f : Addr} (a : At K x st f) : ∃ fd, Fun K x x st f fd := by
  obtain ⟨oc, kV, doc, pm, cdv, ct, od, an, sl, l, c⟩ := a.ex
  exact ⟨_, fun_mk l c a.kp⟩
/-- a method -/
structure AtM (K : PySem.W.Frag) (C : Addr) (x qual : Str) (st : Stmt) (f : Addr) : Prop where
  fi : PySem.W.findIn K (.ref C) x = some (some (.ref f))
  isf : PySem.W.isFn K (.ref f) = true
  ex : ∃ (oc kV doc pm cdv ct : Value) (od an : Option Addr) (sl : Array (Option Value)), K.lookup f = some ⟨oc, od, .func (PySem.W.fnOf x qual (defArgs st) (defBody st) (defScope st) .none kV doc pm an cdv ct), sl⟩ ∧ PySem.W.codeIn K cdv qual = true
  kp : PySem.W.keepIn K (.ref f) = true
theorem AtM.of {K : PySem.W.Frag} {C : Addr} {x qual : Str} {st : Stmt} {f : Addr} {oc kV doc pm cdv ct : Value} {od an : Option Addr} {sl : Array (Option Value)} (n : PySem.W.findIn K (.ref C) x = some (some (.ref f))) (i : PySem.W.isFn K (.ref f) = true) (l : K.lookup f = some ⟨oc, od, .func (PySem.W.fnOf x qual (defArgs st) (defBody st) (defScope st) .none kV doc pm an cdv ct), sl⟩)
    (c : PySem.W.codeIn K cdv qual = true) (k : PySem.W.keepIn K (.ref f) = true) : AtM K C x qual st f := ⟨n, i, ⟨oc, kV, doc, pm, cdv, ct, od, an, sl, l, c⟩, k⟩
theorem AtM.fn {K : PySem.W.Frag} {C : Addr} {x qual : Str} {st : Stmt} {f : Addr} (a : AtM K C x qual st f) : ∃ fd, Fun K x qual st f fd := by
  obtain ⟨oc, kV, doc, pm, cdv, ct, od, an, sl, l, c⟩ := a.ex
  exact ⟨_, fun_mk l c a.kp⟩
/-- the words about a class -/
structure ClsA (K : PySem.W.Frag) (x : Str) (C : Addr) : Prop where
  nm : PySem.W.nsIn K mainGlobals x = some (some (.ref C))
  pg : PySem.W.plainGet K C Str.empty = true
  hd : PySem.W.hasDictIn K C = true
  po : PySem.W.plainOver K C = true
  sa : PySem.W.findIn K (.ref C) "__setattr__" = some (some (.builtin "object.__setattr__"))
  mks : PySem.W.makesIn K C = true
  kc : PySem.W.keepIn K (.ref C) = true
theorem ClsA.cl {K : PySem.W.Frag} {x : Str} {C : Addr} (c : ClsA K x C) : Cls K C := ⟨c.pg, c.hd, c.po, c.sa⟩
theorem look_mem {z : Str} {G : List Str → Prop} : ∀ T : List (Str × (List Str → Prop)), T.lookup z = some G → (z, G) ∈ T
  | [], h => by cases h
  | (a, F) :: T, h => by
    rw [List.lookup_cons] at h
    by_cases e : z = a
    · subst e
      rw [show (z == z) = true from beq_self_eq_true z] at h
      cases h
      exact List.mem_cons_self
    · rw [show (z == a) = false from by simp [e]] at h
      exact List.mem_cons_of_mem _ (look_mem T h)
theorem look_not {z : Str} : ∀ T : List (Str × (List Str → Prop)), T.lookup z = none → z ∉ T.map (·.1)
  | [], _, m => by cases m
  | (a, F) :: T, h, m => by
    rw [List.lookup_cons] at h
    by_cases e : z = a
    · subst e
      rw [show (z == z) = true from beq_self_eq_true z] at h
      cases h
    · rw [show (z == a) = false from by simp [e]] at h
      rw [List.map_cons, List.mem_cons] at m
      exact look_not T h (m.resolve_left e)
/-- the words about a class that the instances' rules ask -/
structure BaseE (K : PySem.W.Frag) (C : Addr) : Prop where
  ga : PySem.W.findIn K (.ref C) "__getattribute__" = some (some (.builtin "BaseException.__getattribute__"))
  gg : PySem.W.findIn K (.ref C) "__getattr__" = some none
  sb : PySem.W.subIn K (.ref C) (.type "BaseException") = some true
  hd : PySem.W.hasDictIn K C = true
  ha : PySem.W.findIn K (.ref C) "__class__" = some (some (.builtin "object.__class__"))
  hn : PySem.W.specialIn K (.builtin "object.__class__") "__get__" = some (some (.builtin "getset_descriptor.__get__"))
  ht : PySem.W.takesIn K (.builtin "object.__class__") = some true
  hm : PySem.W.mroIn K C (.type "object") = some true
  kC : PySem.W.keepIn K (.ref C) = true
  val : PySem.W.kitOne K (.ref C) (.type "ValueError") = some true
theorem BaseE.exc {K : PySem.W.Frag} {C : Addr} (b : BaseE K C) : ExcC K C := ⟨b.ga, b.gg, b.sb, b.hd, b.ha, b.hn, b.ht, b.hm⟩
theorem BaseE.xf {K : PySem.W.Frag} {C : Addr} (b : BaseE K C) : XfC K C := ⟨b.ga, b.gg, b.sb, b.hd⟩
/-- one of the classes with its __init__, as the head finds it -/
structure Cf (P : Program) (K : PySem.W.Frag) (hE : Addr) (x qual : Str) (st : Stmt) (C f : Addr) : Prop where
  nm : PySem.W.nsIn K mainGlobals x = some (some (.ref C))
  base : BaseE K C
  own : Ex.Own K C f
  fc : ∃ fd, FunC P K "__init__" qual st C f fd
  sup : ∀ mg : Str → Option Value, mg "super" = none → SupVE P K mg C C
  heap : PySem.W.kitOne K (.ref C) (.ref hE) = some true
theorem Cf.of {P : Program} {K : PySem.W.Frag} {hE : Addr} {x qual : Str} {st : Stmt} {C f cda cc : Addr} {nm q : Str} {N : Addr} {bs bm : List Value} {sn : List Str} {sub : List Value} {ab : Bool} {col : Option Bool} {dd : Option Addr} {k0 k1 k2 k3 k5 : Option Value}
    {oc kV doc pm ct ccl cl : Value} {od an cdd cld : Option Addr} {osl ccs csl : Array (Option Value)} {vs : Array Value} {file : Str} {tf : Tok} {cd : ClassData}
    (n : PySem.W.nsIn K mainGlobals x = some (some (.ref C))) (base : BaseE K C) (l : K.lookup C = some (excClassObj nm q C N bs bm true sn sub ab col dd k0 k1 k2 k3 k5 "ValueError.__new__")) (r : PySem.HandSPX.refsVE bm = true) (sa : PySem.W.findIn K (.ref C) "__setattr__" = some (some (.builtin "object.__setattr__"))) (ty : PySem.W.typeIn K (.ref C) = some (.type "type"))
    (ini : PySem.W.findIn K (.ref C) "__init__" = some (some (.ref f))) (fn : PySem.W.typeIn K (.ref f) = some (.type "function")) (lf : K.lookup f = some ⟨oc, od, .func (PySem.W.fnX "__init__" qual (defArgs st) (defBody st) (defScope st) [("__class__", cc)] .none kV doc pm an (.ref cda) ct), osl⟩) (code : PySem.W.codeIn K (.ref cda) qual = true)
    (lc : K.lookup cc = some ⟨cl, cld, .cell (some (.ref C)), csl⟩) (ld : K.lookup cda = some ⟨ccl, cdd, .fields vs, ccs⟩) (v2 : vs[2]? = some (.str file tf)) (fl : ((P.main.file : Str) == file) = true)
    (c : PySem.W.clsIn K C = some cd) (m : PySem.W.mroIn K C (.ref C) = some true) (s : PySem.W.ks_superIn K C C "__init__" = some (some (.builtin "ValueError.__init__"))) (sv : PySem.W.subIn K (.ref C) (.type "ValueError") = some true) (op : PySem.W.nsIn K cStatics "thirdparty.any" = some none)
    (mn : (P.main.scope.names.lookup ("super" : Str)).isSome = false) (heap : PySem.W.kitOne K (.ref C) (.ref hE) = some true) : Cf P K hE x qual st C f :=
  ⟨n, base, ⟨⟨⟨nm, q, N, bs, bm, sn, sub, ab, col, dd, k0, k1, k2, k3, k5, l, r⟩, sa, base.sb, ty, base.kC⟩, ini, fn⟩,
    ⟨_, ⟨oc, kV, doc, pm, ct, ccl, cl, od, an, cdd, cld, cda, cc, osl, ccs, csl, vs, file, tf, rfl, lf, code, lc, ld, v2, fl⟩⟩, fun mg g => ⟨⟨cd, c⟩, m, s, sv, op, g, mn⟩, heap⟩
theorem errD_of {P : Program} {w : World} {K : PySem.W.Frag} {mg : Str → Option Value} {base : Heap} {hE C f : Addr} (c : Cf P K hE "BadRow" "BadRow.__init__" sBadRow C f) (g : mg "BadRow" = some (.ref C)) (gs : mg "super" = none) (no : PySem.W.findIn K (.ref C) "row" = some none) : ∃ fd, ErrR P w K mg base C f fd := by
  obtain ⟨fd, F⟩ := c.fc
  refine ⟨fd, c.own, c.base.kC, g, ok_BadRow F c.own.oex (c.sup mg gs) no, fun s self us h _ => ?_⟩
  obtain ⟨oc, kV, doc, pm, ct, ccl, cl, od, an, cdd, cld, cda, cc, osl, ccs, csl, vs, file, tf, rfl, _⟩ := F.ex
  match us, h with
  | [u], _ => exact .of_eq rfl
theorem top_ok {l : PySem.W.OpenLaw} {w : World} {K : PySem.W.Frag} {h : Heap} {mg : Str → Option Value} {fa C_BadRow f_BadRow___init__ C_HeapError C_BadBlock C_Twice C_NoProcedure f_law f__law_pot f__law_take f__law_of f__law_odd f__law_reserved f__law_is_name f__law_is_small f__law_is_number f__law_is_value f__law_is_spot f__law_is_worth f__law_is_made f__law_is_block f__law_is_row f__law_form_row f__law_spoilt f__law_due f__law_heard f__law_is_right f__law_hand_rows f__law_right f_is_name f_is_local f_whole_of f_number_of f_value_of f_slot_of f_word_form f_asked_form f_record_form f_weak_form f_map_form f_let_form f_say_form f_name_form f_number_form f_bare_form f_if_form f_proc_form f_do_form f_store_form f_statement_of f_statements_of f_read_script  : Addr} {dT dS dH dZ dM dF u1 u2 nn t8 t10 tmv tmn tmp s0 s1 s2 s3 s4 s5 z0 z1 z2 z3 z4 z5 z6 : Nat} (X : K.In h) (G : h.Ns mainGlobals mg) (hfa : mg "law" = some (.ref fa))
    (a_law : At K "law" sLaw f_law)
    (a__law_pot : At K "_law_pot" sSource f__law_pot)
    (a__law_take : At K "_law_take" sTake f__law_take)
    (a__law_of : At K "_law_of" sOf f__law_of)
    (a__law_odd : At K "_law_odd" sOdd f__law_odd)
    (a__law_reserved : At K "_law_reserved" sRes f__law_reserved)
    (a__law_is_name : At K "_law_is_name" sLName f__law_is_name)
    (a__law_is_small : At K "_law_is_small" sLSmall f__law_is_small)
    (a__law_is_number : At K "_law_is_number" sLNum f__law_is_number)
    (a__law_is_value : At K "_law_is_value" sLVal f__law_is_value)
    (a__law_is_spot : At K "_law_is_spot" sLSpot f__law_is_spot)
    (a__law_is_worth : At K "_law_is_worth" sLWorth f__law_is_worth)
    (a__law_is_made : At K "_law_is_made" sLMade f__law_is_made)
    (a__law_is_block : At K "_law_is_block" sLBlock f__law_is_block)
    (a__law_is_row : At K "_law_is_row" sLRow f__law_is_row)
    (a__law_form_row : At K "_law_form_row" sRow f__law_form_row)
    (a__law_spoilt : At K "_law_spoilt" sSpoilt f__law_spoilt)
    (a__law_due : At K "_law_due" sDue f__law_due)
    (a__law_heard : At K "_law_heard" sHeard f__law_heard)
    (a__law_is_right : At K "_law_is_right" sIs f__law_is_right)
    (a__law_hand_rows : At K "_law_hand_rows" sHand f__law_hand_rows)
    (a__law_right : At K "_law_right" sRight f__law_right)
    (a_is_name : At K "is_name" sIsName f_is_name)
    (a_is_local : At K "is_local" sIsLocal f_is_local)
    (a_whole_of : At K "whole_of" sWhole f_whole_of)
    (a_number_of : At K "number_of" sNumber f_number_of)
    (a_value_of : At K "value_of" sValue f_value_of)
    (a_slot_of : At K "slot_of" sSlot f_slot_of)
    (a_word_form : At K "word_form" sWord f_word_form)
    (a_asked_form : At K "asked_form" sAsked f_asked_form)
    (a_record_form : At K "record_form" sRec f_record_form)
    (a_weak_form : At K "weak_form" sWeak f_weak_form)
    (a_map_form : At K "map_form" sMap f_map_form)
    (a_let_form : At K "let_form" sLet f_let_form)
    (a_say_form : At K "say_form" sSay f_say_form)
    (a_name_form : At K "name_form" sName f_name_form)
    (a_number_form : At K "number_form" sNumF f_number_form)
    (a_bare_form : At K "bare_form" sBare f_bare_form)
    (a_if_form : At K "if_form" sIf f_if_form)
    (a_proc_form : At K "proc_form" sProc f_proc_form)
    (a_do_form : At K "do_form" sDo f_do_form)
    (a_store_form : At K "store_form" sStore f_store_form)
    (a_statement_of : At K "statement_of" sStat f_statement_of)
    (a_statements_of : At K "statements_of" sStats f_statements_of)
    (a_read_script : At K "read_script" sRead f_read_script)
    (d_BadRow : Cf l.prog K C_HeapError "BadRow" "BadRow.__init__" sBadRow C_BadRow f_BadRow___init__)
    (n_BadRow_row : PySem.W.findIn K (.ref C_BadRow) "row" = some none)
    (z_len : PySem.W.nsIn K mainGlobals "len" = some none)
    (z_abs : PySem.W.nsIn K mainGlobals "abs" = some none)
    (z_int : PySem.W.nsIn K mainGlobals "int" = some none)
    (z_range : PySem.W.nsIn K mainGlobals "range" = some none)
    (z_max : PySem.W.nsIn K mainGlobals "max" = some none)
    (z_min : PySem.W.nsIn K mainGlobals "min" = some none)
    (z_repr : PySem.W.nsIn K mainGlobals "repr" = some none)
    (z_tuple : PySem.W.nsIn K mainGlobals "tuple" = some none)
    (z_str : PySem.W.nsIn K mainGlobals "str" = some none)
    (z_all : PySem.W.nsIn K mainGlobals "all" = some none)
    (z_any : PySem.W.nsIn K mainGlobals "any" = some none)
    (z_isinstance : PySem.W.nsIn K mainGlobals "isinstance" = some none)
    (z_enumerate : PySem.W.nsIn K mainGlobals "enumerate" = some none)
    (z_set : PySem.W.nsIn K mainGlobals "set" = some none)
    (z_super : PySem.W.nsIn K mainGlobals "super" = some none)
    (z_ValueError : PySem.W.nsIn K mainGlobals "ValueError" = some none)
    (gl_l : PySem.W.nsIn K mainGlobals "MOST_LETTERS" = some (some (.int 8 t8)))
    (gl_d : PySem.W.nsIn K mainGlobals "MOST_DIGITS" = some (some (.int 10 t10)))
    (gl_v : PySem.W.nsIn K mainGlobals "MOST_VALUE" = some (some (.int 1000000000 tmv)))
    (gl_n : PySem.W.nsIn K mainGlobals "MOST_NUMBER" = some (some (.int 10000 tmn)))
    (gl_p : PySem.W.nsIn K mainGlobals "MOST_PARAMETERS" = some (some (.int 4 tmp)))
    (gl_dT : PySem.W.nsIn K mainGlobals "TAKEN" = some (some (.ref dT)))
    (gl_dS : PySem.W.nsIn K mainGlobals "SLOTS" = some (some (.ref dS)))
    (gl_dH : PySem.W.nsIn K mainGlobals "HOMES" = some (some (.ref dH)))
    (gl_dZ : PySem.W.nsIn K mainGlobals "SIZES" = some (some (.ref dZ)))
    (gl_dM : PySem.W.nsIn K mainGlobals "MADE_FORMS" = some (some (.ref dM)))
    (gl_dF : PySem.W.nsIn K mainGlobals "FORMS" = some (some (.ref dF)))
    (dc_dT : He.dicW K dT = some (He.keysIn w.params ["none", "get", "at", "is", "then", "record", "weak", "map", "counted", "traced", "let", "drop", "hold", "release", "pin", "unpin", "say", "if", "else", "end", "repeat", "proc", "do", "minor", "rings", "begin", "slice", "compact", "finalize", "settle"]))
    (dc_dS : He.dicW K dS = some (He.keysIn w.params ["0", "1", "2", "3", "4", "5"]))
    (dc_dZ : He.dicW K dZ = some (He.keysIn w.params ["0", "1", "2", "3", "4", "5", "6"]))
    (dc_dM : He.dicW K dM = some (He.keysIn w.params ["record", "weak", "map"]))
    (dc_dF : He.dicW K dF = some (He.keysIn w.params ["let", "say", "drop", "hold", "release", "pin", "unpin", "if", "else", "end", "repeat", "proc", "do", "minor", "rings", "begin", "slice", "compact", "finalize", "settle"]))
    (tu_h : List.lookup dH K = some { cls := .type "tuple", data := .seq #[.str "counted" u1, .str "traced" u2] nn })
    (ns0 : PySem.W.nsIn K dS "0" = some (some (.int 0 s0)))
    (ns1 : PySem.W.nsIn K dS "1" = some (some (.int 1 s1)))
    (ns2 : PySem.W.nsIn K dS "2" = some (some (.int 2 s2)))
    (ns3 : PySem.W.nsIn K dS "3" = some (some (.int 3 s3)))
    (ns4 : PySem.W.nsIn K dS "4" = some (some (.int 4 s4)))
    (ns5 : PySem.W.nsIn K dS "5" = some (some (.int 5 s5)))
    (nz0 : PySem.W.nsIn K dZ "0" = some (some (.int 0 z0)))
    (nz1 : PySem.W.nsIn K dZ "1" = some (some (.int 1 z1)))
    (nz2 : PySem.W.nsIn K dZ "2" = some (some (.int 2 z2)))
    (nz3 : PySem.W.nsIn K dZ "3" = some (some (.int 3 z3)))
    (nz4 : PySem.W.nsIn K dZ "4" = some (some (.int 4 z4)))
    (nz5 : PySem.W.nsIn K dZ "5" = some (some (.int 5 z5)))
    (nz6 : PySem.W.nsIn K dZ "6" = some (some (.int 6 z6)))
    (nm0 : PySem.W.nsIn K dM "record" = some (some (.ref f_record_form)))
    (nm1 : PySem.W.nsIn K dM "weak" = some (some (.ref f_weak_form)))
    (nm2 : PySem.W.nsIn K dM "map" = some (some (.ref f_map_form)))
    (nf0 : PySem.W.nsIn K dF "let" = some (some (.ref f_let_form)))
    (nf1 : PySem.W.nsIn K dF "say" = some (some (.ref f_say_form)))
    (nf2 : PySem.W.nsIn K dF "drop" = some (some (.ref f_name_form)))
    (nf3 : PySem.W.nsIn K dF "hold" = some (some (.ref f_name_form)))
    (nf4 : PySem.W.nsIn K dF "release" = some (some (.ref f_name_form)))
    (nf5 : PySem.W.nsIn K dF "pin" = some (some (.ref f_name_form)))
    (nf6 : PySem.W.nsIn K dF "unpin" = some (some (.ref f_name_form)))
    (nf7 : PySem.W.nsIn K dF "if" = some (some (.ref f_if_form)))
    (nf8 : PySem.W.nsIn K dF "else" = some (some (.ref f_bare_form)))
    (nf9 : PySem.W.nsIn K dF "end" = some (some (.ref f_bare_form)))
    (nf10 : PySem.W.nsIn K dF "repeat" = some (some (.ref f_number_form)))
    (nf11 : PySem.W.nsIn K dF "proc" = some (some (.ref f_proc_form)))
    (nf12 : PySem.W.nsIn K dF "do" = some (some (.ref f_do_form)))
    (nf13 : PySem.W.nsIn K dF "minor" = some (some (.ref f_bare_form)))
    (nf14 : PySem.W.nsIn K dF "rings" = some (some (.ref f_number_form)))
    (nf15 : PySem.W.nsIn K dF "begin" = some (some (.ref f_bare_form)))
    (nf16 : PySem.W.nsIn K dF "slice" = some (some (.ref f_number_form)))
    (nf17 : PySem.W.nsIn K dF "compact" = some (some (.ref f_number_form)))
    (nf18 : PySem.W.nsIn K dF "finalize" = some (some (.ref f_bare_form)))
    (nf19 : PySem.W.nsIn K dF "settle" = some (some (.ref f_bare_form)))
    (nm_HeapError : PySem.W.nsIn K mainGlobals "HeapError" = some (some (.ref C_HeapError)))
    (nm_BadBlock : PySem.W.nsIn K mainGlobals "BadBlock" = some (some (.ref C_BadBlock)))
    (nm_Twice : PySem.W.nsIn K mainGlobals "Twice" = some (some (.ref C_Twice)))
    (nm_NoProcedure : PySem.W.nsIn K mainGlobals "NoProcedure" = some (some (.ref C_NoProcedure)))
    (e_1 : PySem.W.subIn K (.ref C_HeapError) (.type "BaseException") = some true)
    (e_2 : PySem.W.hasDictIn K C_HeapError = true)
    (e_3 : PySem.W.typeIn K (.ref C_HeapError) = some (.type "type"))
    (e_4 : PySem.W.subIn K (.ref C_BadRow) (.ref C_HeapError) = some true)
    (e_row : PySem.W.kitOne K (.ref C_BadRow) (.ref C_BadRow) = some true)
    (e_oth : PySem.W.kitAny K (.ref C_BadRow) [.ref C_BadBlock, .ref C_Twice, .ref C_NoProcedure] = some false)
    (e_ve : PySem.W.kitOne K (.ref C_BadRow) (.type "ValueError") = some true) :
    ∃ fd : FuncData, (∀ (s : Shared) (v : Value), BindsTo s fd ⟨[v], []⟩ [("_law_script", v)]) ∧ ∀ base : Heap, K.In base → base.Ns mainGlobals mg → FnG l.prog w K mg base CX0 12 fa fd ["_law_script"] (spLaw K) := by
  have e := hfa.symm.trans (PySem.W.mg_of X G a_law.nm)
  cases e
  obtain ⟨fd_law, F_law⟩ := a_law.fn
  have g_law := PySem.W.mg_of X G a_law.nm
  obtain ⟨fd__law_pot, F__law_pot⟩ := a__law_pot.fn
  have g__law_pot := PySem.W.mg_of X G a__law_pot.nm
  have b__law_pot := F__law_pot.binds (ps := ["_law_script", "_law_k"]) fun _ _ _ _ _ _ us hl => match us, hl with | [_, _], _ => rfl
  obtain ⟨fd__law_take, F__law_take⟩ := a__law_take.fn
  have g__law_take := PySem.W.mg_of X G a__law_take.nm
  have b__law_take := F__law_take.binds (ps := ["_law_pot_here", "_law_many"]) fun _ _ _ _ _ _ us hl => match us, hl with | [_, _], _ => rfl
  obtain ⟨fd__law_of, F__law_of⟩ := a__law_of.fn
  have g__law_of := PySem.W.mg_of X G a__law_of.nm
  have b__law_of := F__law_of.binds (ps := ["_law_pot_here", "_law_some"]) fun _ _ _ _ _ _ us hl => match us, hl with | [_, _], _ => rfl
  obtain ⟨fd__law_odd, F__law_odd⟩ := a__law_odd.fn
  have g__law_odd := PySem.W.mg_of X G a__law_odd.nm
  have b__law_odd := F__law_odd.binds (ps := ["_law_pot_here"]) fun _ _ _ _ _ _ us hl => match us, hl with | [_], _ => rfl
  obtain ⟨fd__law_reserved, F__law_reserved⟩ := a__law_reserved.fn
  have g__law_reserved := PySem.W.mg_of X G a__law_reserved.nm
  have b__law_reserved := F__law_reserved.binds (ps := []) fun _ _ _ _ _ _ us hl => match us, hl with | [], _ => rfl
  obtain ⟨fd__law_is_name, F__law_is_name⟩ := a__law_is_name.fn
  have g__law_is_name := PySem.W.mg_of X G a__law_is_name.nm
  have b__law_is_name := F__law_is_name.binds (ps := ["_law_word"]) fun _ _ _ _ _ _ us hl => match us, hl with | [_], _ => rfl
  obtain ⟨fd__law_is_small, F__law_is_small⟩ := a__law_is_small.fn
  have g__law_is_small := PySem.W.mg_of X G a__law_is_small.nm
  have b__law_is_small := F__law_is_small.binds (ps := ["_law_word"]) fun _ _ _ _ _ _ us hl => match us, hl with | [_], _ => rfl
  obtain ⟨fd__law_is_number, F__law_is_number⟩ := a__law_is_number.fn
  have g__law_is_number := PySem.W.mg_of X G a__law_is_number.nm
  have b__law_is_number := F__law_is_number.binds (ps := ["_law_word", "_law_most"]) fun _ _ _ _ _ _ us hl => match us, hl with | [_, _], _ => rfl
  obtain ⟨fd__law_is_value, F__law_is_value⟩ := a__law_is_value.fn
  have g__law_is_value := PySem.W.mg_of X G a__law_is_value.nm
  have b__law_is_value := F__law_is_value.binds (ps := ["_law_word"]) fun _ _ _ _ _ _ us hl => match us, hl with | [_], _ => rfl
  obtain ⟨fd__law_is_spot, F__law_is_spot⟩ := a__law_is_spot.fn
  have g__law_is_spot := PySem.W.mg_of X G a__law_is_spot.nm
  have b__law_is_spot := F__law_is_spot.binds (ps := ["_law_word"]) fun _ _ _ _ _ _ us hl => match us, hl with | [_], _ => rfl
  obtain ⟨fd__law_is_worth, F__law_is_worth⟩ := a__law_is_worth.fn
  have g__law_is_worth := PySem.W.mg_of X G a__law_is_worth.nm
  have b__law_is_worth := F__law_is_worth.binds (ps := ["_law_words"]) fun _ _ _ _ _ _ us hl => match us, hl with | [_], _ => rfl
  obtain ⟨fd__law_is_made, F__law_is_made⟩ := a__law_is_made.fn
  have g__law_is_made := PySem.W.mg_of X G a__law_is_made.nm
  have b__law_is_made := F__law_is_made.binds (ps := ["_law_words"]) fun _ _ _ _ _ _ us hl => match us, hl with | [_], _ => rfl
  obtain ⟨fd__law_is_block, F__law_is_block⟩ := a__law_is_block.fn
  have g__law_is_block := PySem.W.mg_of X G a__law_is_block.nm
  have b__law_is_block := F__law_is_block.binds (ps := ["_law_words"]) fun _ _ _ _ _ _ us hl => match us, hl with | [_], _ => rfl
  obtain ⟨fd__law_is_row, F__law_is_row⟩ := a__law_is_row.fn
  have g__law_is_row := PySem.W.mg_of X G a__law_is_row.nm
  have b__law_is_row := F__law_is_row.binds (ps := ["_law_row"]) fun _ _ _ _ _ _ us hl => match us, hl with | [_], _ => rfl
  obtain ⟨fd__law_form_row, F__law_form_row⟩ := a__law_form_row.fn
  have g__law_form_row := PySem.W.mg_of X G a__law_form_row.nm
  have b__law_form_row := F__law_form_row.binds (ps := ["_law_pot_here"]) fun _ _ _ _ _ _ us hl => match us, hl with | [_], _ => rfl
  obtain ⟨fd__law_spoilt, F__law_spoilt⟩ := a__law_spoilt.fn
  have g__law_spoilt := PySem.W.mg_of X G a__law_spoilt.nm
  have b__law_spoilt := F__law_spoilt.binds (ps := ["_law_pot_here", "_law_row"]) fun _ _ _ _ _ _ us hl => match us, hl with | [_, _], _ => rfl
  obtain ⟨fd__law_due, F__law_due⟩ := a__law_due.fn
  have g__law_due := PySem.W.mg_of X G a__law_due.nm
  have b__law_due := F__law_due.binds (ps := ["_law_value"]) fun _ _ _ _ _ _ us hl => match us, hl with | [_], _ => rfl
  obtain ⟨fd__law_heard, F__law_heard⟩ := a__law_heard.fn
  have g__law_heard := PySem.W.mg_of X G a__law_heard.nm
  have b__law_heard := F__law_heard.binds (ps := ["_law_value"]) fun _ _ _ _ _ _ us hl => match us, hl with | [_], _ => rfl
  obtain ⟨fd__law_is_right, F__law_is_right⟩ := a__law_is_right.fn
  have g__law_is_right := PySem.W.mg_of X G a__law_is_right.nm
  have b__law_is_right := F__law_is_right.binds (ps := ["_law_value"]) fun _ _ _ _ _ _ us hl => match us, hl with | [_], _ => rfl
  obtain ⟨fd__law_hand_rows, F__law_hand_rows⟩ := a__law_hand_rows.fn
  have g__law_hand_rows := PySem.W.mg_of X G a__law_hand_rows.nm
  have b__law_hand_rows := F__law_hand_rows.binds (ps := []) fun _ _ _ _ _ _ us hl => match us, hl with | [], _ => rfl
  obtain ⟨fd__law_right, F__law_right⟩ := a__law_right.fn
  have g__law_right := PySem.W.mg_of X G a__law_right.nm
  have b__law_right := F__law_right.binds (ps := ["_law_pot_here"]) fun _ _ _ _ _ _ us hl => match us, hl with | [_], _ => rfl
  obtain ⟨fd_is_name, F_is_name⟩ := a_is_name.fn
  have g_is_name := PySem.W.mg_of X G a_is_name.nm
  have b_is_name := F_is_name.binds (ps := ["word"]) fun _ _ _ _ _ _ us hl => match us, hl with | [_], _ => rfl
  obtain ⟨fd_is_local, F_is_local⟩ := a_is_local.fn
  have g_is_local := PySem.W.mg_of X G a_is_local.nm
  have b_is_local := F_is_local.binds (ps := ["word"]) fun _ _ _ _ _ _ us hl => match us, hl with | [_], _ => rfl
  obtain ⟨fd_whole_of, F_whole_of⟩ := a_whole_of.fn
  have g_whole_of := PySem.W.mg_of X G a_whole_of.nm
  have b_whole_of := F_whole_of.binds (ps := ["word", "digits"]) fun _ _ _ _ _ _ us hl => match us, hl with | [_, _], _ => rfl
  obtain ⟨fd_number_of, F_number_of⟩ := a_number_of.fn
  have g_number_of := PySem.W.mg_of X G a_number_of.nm
  have b_number_of := F_number_of.binds (ps := ["word", "most"]) fun _ _ _ _ _ _ us hl => match us, hl with | [_, _], _ => rfl
  obtain ⟨fd_value_of, F_value_of⟩ := a_value_of.fn
  have g_value_of := PySem.W.mg_of X G a_value_of.nm
  have b_value_of := F_value_of.binds (ps := ["word"]) fun _ _ _ _ _ _ us hl => match us, hl with | [_], _ => rfl
  obtain ⟨fd_slot_of, F_slot_of⟩ := a_slot_of.fn
  have g_slot_of := PySem.W.mg_of X G a_slot_of.nm
  have b_slot_of := F_slot_of.binds (ps := ["word"]) fun _ _ _ _ _ _ us hl => match us, hl with | [_], _ => rfl
  obtain ⟨fd_word_form, F_word_form⟩ := a_word_form.fn
  have g_word_form := PySem.W.mg_of X G a_word_form.nm
  have b_word_form := F_word_form.binds (ps := ["verb", "name", "word"]) fun _ _ _ _ _ _ us hl => match us, hl with | [_, _, _], _ => rfl
  obtain ⟨fd_asked_form, F_asked_form⟩ := a_asked_form.fn
  have g_asked_form := PySem.W.mg_of X G a_asked_form.nm
  have b_asked_form := F_asked_form.binds (ps := ["verb", "name", "words"]) fun _ _ _ _ _ _ us hl => match us, hl with | [_, _, _], _ => rfl
  obtain ⟨fd_record_form, F_record_form⟩ := a_record_form.fn
  have g_record_form := PySem.W.mg_of X G a_record_form.nm
  have b_record_form := F_record_form.binds (ps := ["words"]) fun _ _ _ _ _ _ us hl => match us, hl with | [_], _ => rfl
  obtain ⟨fd_weak_form, F_weak_form⟩ := a_weak_form.fn
  have g_weak_form := PySem.W.mg_of X G a_weak_form.nm
  have b_weak_form := F_weak_form.binds (ps := ["words"]) fun _ _ _ _ _ _ us hl => match us, hl with | [_], _ => rfl
  obtain ⟨fd_map_form, F_map_form⟩ := a_map_form.fn
  have g_map_form := PySem.W.mg_of X G a_map_form.nm
  have b_map_form := F_map_form.binds (ps := ["words"]) fun _ _ _ _ _ _ us hl => match us, hl with | [_], _ => rfl
  obtain ⟨fd_let_form, F_let_form⟩ := a_let_form.fn
  have g_let_form := PySem.W.mg_of X G a_let_form.nm
  have b_let_form := F_let_form.binds (ps := ["words"]) fun _ _ _ _ _ _ us hl => match us, hl with | [_], _ => rfl
  obtain ⟨fd_say_form, F_say_form⟩ := a_say_form.fn
  have g_say_form := PySem.W.mg_of X G a_say_form.nm
  have b_say_form := F_say_form.binds (ps := ["words"]) fun _ _ _ _ _ _ us hl => match us, hl with | [_], _ => rfl
  obtain ⟨fd_name_form, F_name_form⟩ := a_name_form.fn
  have g_name_form := PySem.W.mg_of X G a_name_form.nm
  have b_name_form := F_name_form.binds (ps := ["words"]) fun _ _ _ _ _ _ us hl => match us, hl with | [_], _ => rfl
  obtain ⟨fd_number_form, F_number_form⟩ := a_number_form.fn
  have g_number_form := PySem.W.mg_of X G a_number_form.nm
  have b_number_form := F_number_form.binds (ps := ["words"]) fun _ _ _ _ _ _ us hl => match us, hl with | [_], _ => rfl
  obtain ⟨fd_bare_form, F_bare_form⟩ := a_bare_form.fn
  have g_bare_form := PySem.W.mg_of X G a_bare_form.nm
  have b_bare_form := F_bare_form.binds (ps := ["words"]) fun _ _ _ _ _ _ us hl => match us, hl with | [_], _ => rfl
  obtain ⟨fd_if_form, F_if_form⟩ := a_if_form.fn
  have g_if_form := PySem.W.mg_of X G a_if_form.nm
  have b_if_form := F_if_form.binds (ps := ["words"]) fun _ _ _ _ _ _ us hl => match us, hl with | [_], _ => rfl
  obtain ⟨fd_proc_form, F_proc_form⟩ := a_proc_form.fn
  have g_proc_form := PySem.W.mg_of X G a_proc_form.nm
  have b_proc_form := F_proc_form.binds (ps := ["words"]) fun _ _ _ _ _ _ us hl => match us, hl with | [_], _ => rfl
  obtain ⟨fd_do_form, F_do_form⟩ := a_do_form.fn
  have g_do_form := PySem.W.mg_of X G a_do_form.nm
  have b_do_form := F_do_form.binds (ps := ["words"]) fun _ _ _ _ _ _ us hl => match us, hl with | [_], _ => rfl
  obtain ⟨fd_store_form, F_store_form⟩ := a_store_form.fn
  have g_store_form := PySem.W.mg_of X G a_store_form.nm
  have b_store_form := F_store_form.binds (ps := ["words"]) fun _ _ _ _ _ _ us hl => match us, hl with | [_], _ => rfl
  obtain ⟨fd_statement_of, F_statement_of⟩ := a_statement_of.fn
  have g_statement_of := PySem.W.mg_of X G a_statement_of.nm
  have b_statement_of := F_statement_of.binds (ps := ["words"]) fun _ _ _ _ _ _ us hl => match us, hl with | [_], _ => rfl
  obtain ⟨fd_statements_of, F_statements_of⟩ := a_statements_of.fn
  have g_statements_of := PySem.W.mg_of X G a_statements_of.nm
  have b_statements_of := F_statements_of.binds (ps := ["text"]) fun _ _ _ _ _ _ us hl => match us, hl with | [_], _ => rfl
  obtain ⟨fd_read_script, F_read_script⟩ := a_read_script.fn
  have g_read_script := PySem.W.mg_of X G a_read_script.nm
  have b_read_script := F_read_script.binds (ps := ["text"]) fun _ _ _ _ _ _ us hl => match us, hl with | [_], _ => rfl
  have m_len := PySem.W.mg_none_of X G z_len
  have m_abs := PySem.W.mg_none_of X G z_abs
  have m_int := PySem.W.mg_none_of X G z_int
  have m_range := PySem.W.mg_none_of X G z_range
  have m_max := PySem.W.mg_none_of X G z_max
  have m_min := PySem.W.mg_none_of X G z_min
  have m_repr := PySem.W.mg_none_of X G z_repr
  have m_tuple := PySem.W.mg_none_of X G z_tuple
  have m_str := PySem.W.mg_none_of X G z_str
  have m_all := PySem.W.mg_none_of X G z_all
  have m_any := PySem.W.mg_none_of X G z_any
  have m_isinstance := PySem.W.mg_none_of X G z_isinstance
  have m_enumerate := PySem.W.mg_none_of X G z_enumerate
  have m_set := PySem.W.mg_none_of X G z_set
  have m_super := PySem.W.mg_none_of X G z_super
  have m_ValueError := PySem.W.mg_none_of X G z_ValueError
  have g_HeapError := PySem.W.mg_of X G nm_HeapError
  have g_BadBlock := PySem.W.mg_of X G nm_BadBlock
  have g_Twice := PySem.W.mg_of X G nm_Twice
  have g_NoProcedure := PySem.W.mg_of X G nm_NoProcedure
  have g_BadRow := PySem.W.mg_of X G d_BadRow.nm
  refine ⟨fd_law, fun s v => ?_, fun base _ _ => ?_⟩
  · obtain ⟨oc, od, kV, doc, pm, an, cdv, ct, osl, rfl, _⟩ := F_law.ex
    exact .of_eq rfl
  · have kdOf : ∀ {d : Addr} {ks : List Str}, He.dicW K d = some (He.keysIn w.params ks) → ∃ es n, KDict K w d es n := fun h => by
      obtain ⟨es, n, D⟩ := He.dicW_ok h
      exact ⟨es, n, D⟩
    have T : Tb K w mg dT dS := ⟨⟨_, PySem.W.mg_of X G gl_l⟩, ⟨_, PySem.W.mg_of X G gl_d⟩, ⟨_, PySem.W.mg_of X G gl_v⟩, PySem.W.mg_of X G gl_dT, kdOf dc_dT, Gd.dic_ns dc_dT, PySem.W.mg_of X G gl_dS, kdOf dc_dS, (fun m => by
      match m with
      | ⟨0, _⟩ => exact ⟨s0, by show PySem.W.nsIn K dS (Str.ofString (toString ((0 : Nat) : Int))) = some (some (.int ((0 : Nat) : Int) s0)); rw [show Str.ofString (toString ((0 : Nat) : Int)) = "0" from by decide +kernel]; exact ns0⟩
      | ⟨1, _⟩ => exact ⟨s1, by show PySem.W.nsIn K dS (Str.ofString (toString ((1 : Nat) : Int))) = some (some (.int ((1 : Nat) : Int) s1)); rw [show Str.ofString (toString ((1 : Nat) : Int)) = "1" from by decide +kernel]; exact ns1⟩
      | ⟨2, _⟩ => exact ⟨s2, by show PySem.W.nsIn K dS (Str.ofString (toString ((2 : Nat) : Int))) = some (some (.int ((2 : Nat) : Int) s2)); rw [show Str.ofString (toString ((2 : Nat) : Int)) = "2" from by decide +kernel]; exact ns2⟩
      | ⟨3, _⟩ => exact ⟨s3, by show PySem.W.nsIn K dS (Str.ofString (toString ((3 : Nat) : Int))) = some (some (.int ((3 : Nat) : Int) s3)); rw [show Str.ofString (toString ((3 : Nat) : Int)) = "3" from by decide +kernel]; exact ns3⟩
      | ⟨4, _⟩ => exact ⟨s4, by show PySem.W.nsIn K dS (Str.ofString (toString ((4 : Nat) : Int))) = some (some (.int ((4 : Nat) : Int) s4)); rw [show Str.ofString (toString ((4 : Nat) : Int)) = "4" from by decide +kernel]; exact ns4⟩
      | ⟨5, _⟩ => exact ⟨s5, by show PySem.W.nsIn K dS (Str.ofString (toString ((5 : Nat) : Int))) = some (some (.int ((5 : Nat) : Int) s5)); rw [show Str.ofString (toString ((5 : Nat) : Int)) = "5" from by decide +kernel]; exact ns5⟩), Gd.dic_ns dc_dS⟩
    have T2 : Tb2 K w mg dH dZ := ⟨PySem.W.mg_of X G gl_dH, fun H => .inr ⟨_, _, _, tu_h, rfl, rfl, by show 2 ≤ sizeLine; decide, .cons ⟨_, rfl⟩ (.cons ⟨_, rfl⟩ .nil)⟩, PySem.W.mg_of X G gl_dZ, kdOf dc_dZ, (fun m => by
      match m with
      | ⟨0, _⟩ => exact ⟨z0, by show PySem.W.nsIn K dZ (Str.ofString (toString ((0 : Nat) : Int))) = some (some (.int ((0 : Nat) : Int) z0)); rw [show Str.ofString (toString ((0 : Nat) : Int)) = "0" from by decide +kernel]; exact nz0⟩
      | ⟨1, _⟩ => exact ⟨z1, by show PySem.W.nsIn K dZ (Str.ofString (toString ((1 : Nat) : Int))) = some (some (.int ((1 : Nat) : Int) z1)); rw [show Str.ofString (toString ((1 : Nat) : Int)) = "1" from by decide +kernel]; exact nz1⟩
      | ⟨2, _⟩ => exact ⟨z2, by show PySem.W.nsIn K dZ (Str.ofString (toString ((2 : Nat) : Int))) = some (some (.int ((2 : Nat) : Int) z2)); rw [show Str.ofString (toString ((2 : Nat) : Int)) = "2" from by decide +kernel]; exact nz2⟩
      | ⟨3, _⟩ => exact ⟨z3, by show PySem.W.nsIn K dZ (Str.ofString (toString ((3 : Nat) : Int))) = some (some (.int ((3 : Nat) : Int) z3)); rw [show Str.ofString (toString ((3 : Nat) : Int)) = "3" from by decide +kernel]; exact nz3⟩
      | ⟨4, _⟩ => exact ⟨z4, by show PySem.W.nsIn K dZ (Str.ofString (toString ((4 : Nat) : Int))) = some (some (.int ((4 : Nat) : Int) z4)); rw [show Str.ofString (toString ((4 : Nat) : Int)) = "4" from by decide +kernel]; exact nz4⟩
      | ⟨5, _⟩ => exact ⟨z5, by show PySem.W.nsIn K dZ (Str.ofString (toString ((5 : Nat) : Int))) = some (some (.int ((5 : Nat) : Int) z5)); rw [show Str.ofString (toString ((5 : Nat) : Int)) = "5" from by decide +kernel]; exact nz5⟩
      | ⟨6, _⟩ => exact ⟨z6, by show PySem.W.nsIn K dZ (Str.ofString (toString ((6 : Nat) : Int))) = some (some (.int ((6 : Nat) : Int) z6)); rw [show Str.ofString (toString ((6 : Nat) : Int)) = "6" from by decide +kernel]; exact nz6⟩), Gd.dic_ns dc_dZ⟩
    have GN := ok_isname (P := l.prog) (w := w) (base := base) F_is_name T m_len
    have GL := ok_islocal (P := l.prog) (w := w) (base := base) F_is_local F_is_name b_is_name g_is_name GN
    have GW := ok_whole (P := l.prog) (w := w) (base := base) F_whole_of m_len m_int
    have GU := ok_number (P := l.prog) (w := w) (base := base) F_number_of F_whole_of T b_whole_of g_whole_of GW
    have GV := ok_value (P := l.prog) (w := w) (base := base) F_value_of F_is_name F_number_of T b_is_name b_number_of g_is_name g_number_of GN GU
    have GSl := ok_slot (P := l.prog) (w := w) (base := base) F_slot_of F_is_name T b_is_name g_is_name GN
    have GWd := ok_word (P := l.prog) (w := w) (base := base) F_word_form F_value_of F_slot_of b_value_of b_slot_of g_value_of g_slot_of GV GSl
    have GAs := ok_asked (P := l.prog) (w := w) (base := base) F_asked_form F_is_name b_is_name g_is_name m_len GN
    have GRc := ok_rec (P := l.prog) (w := w) (base := base) F_record_form F_is_local T2 b_is_local g_is_local m_len GL
    have GWk := ok_weak (P := l.prog) (w := w) (base := base) F_weak_form F_is_name T2 b_is_name g_is_name m_len GN
    have GMp := ok_map (P := l.prog) (w := w) (base := base) F_map_form T2 m_len
    have GNf := ok_name (P := l.prog) (w := w) (base := base) F_name_form F_is_name b_is_name g_is_name m_len GN
    have GUf := ok_numf (P := l.prog) (w := w) (base := base) F_number_form F_number_of b_number_of g_number_of ⟨_, PySem.W.mg_of X G gl_n⟩ m_len GU
    have GBf := ok_bare (P := l.prog) (w := w) (base := base) F_bare_form m_len
    have GIf := ok_if (P := l.prog) (w := w) (base := base) F_if_form F_value_of b_value_of g_value_of m_len GV
    have GPf := ok_proc (P := l.prog) (w := w) (base := base) F_proc_form F_is_local b_is_local g_is_local ⟨_, PySem.W.mg_of X G gl_p⟩ m_len m_all m_any m_tuple GL
    have GDf := ok_do (P := l.prog) (w := w) (base := base) F_do_form F_is_local F_value_of b_is_local b_value_of g_is_local g_value_of m_len m_any m_tuple GL GV
    have GSf := ok_store (P := l.prog) (w := w) (base := base) F_store_form F_is_name F_value_of F_slot_of b_is_name b_value_of b_slot_of g_is_name g_value_of g_slot_of m_len GN GV GSl
    have T3 : Tb3 K w mg dM f_record_form f_weak_form f_map_form := ⟨PySem.W.mg_of X G gl_dM, kdOf dc_dM, nm0, nm1, nm2, Gd.dic_ns dc_dM⟩
    have GSy := ok_say (P := l.prog) (w := w) (base := base) F_say_form F_asked_form F_word_form b_asked_form b_word_form g_asked_form g_word_form m_len m_isinstance m_str GAs GWd
    have GLt := ok_let (P := l.prog) (w := w) (base := base) F_let_form F_asked_form F_word_form F_is_name b_asked_form b_word_form b_is_name g_asked_form g_word_form g_is_name m_len T3 GAs GWd GN ⟨_, GRc.mono (by decide), F_record_form.kp, b_record_form⟩ ⟨_, GWk.mono (by decide), F_weak_form.kp, b_weak_form⟩ ⟨_, GMp.mono (by decide), F_map_form.kp, b_map_form⟩
    have X_let : Fm l.prog w K mg base 5 f_let_form gLet := ⟨_, GLt.mono (by decide), F_let_form.kp, b_let_form⟩
    have X_say : Fm l.prog w K mg base 5 f_say_form gSay := ⟨_, GSy.mono (by decide), F_say_form.kp, b_say_form⟩
    have X_name : Fm l.prog w K mg base 5 f_name_form gNm := ⟨_, GNf.mono (by decide), F_name_form.kp, b_name_form⟩
    have X_if : Fm l.prog w K mg base 5 f_if_form gIf := ⟨_, GIf.mono (by decide), F_if_form.kp, b_if_form⟩
    have X_bare : Fm l.prog w K mg base 5 f_bare_form gBare := ⟨_, GBf.mono (by decide), F_bare_form.kp, b_bare_form⟩
    have X_number : Fm l.prog w K mg base 5 f_number_form gNum := ⟨_, GUf.mono (by decide), F_number_form.kp, b_number_form⟩
    have X_proc : Fm l.prog w K mg base 5 f_proc_form gProc := ⟨_, GPf.mono (by decide), F_proc_form.kp, b_proc_form⟩
    have X_do : Fm l.prog w K mg base 5 f_do_form gDo := ⟨_, GDf.mono (by decide), F_do_form.kp, b_do_form⟩
    have X_store : Fm l.prog w K mg base 5 f_store_form gStore := ⟨_, GSf.mono (by decide), F_store_form.kp, b_store_form⟩
    have T4 : Tb4 l.prog w K mg base dF f_store_form := ⟨PySem.W.mg_of X G gl_dF, kdOf dc_dF, g_store_form, X_store, (fun z G h => by
      have h := look_mem formTab h
      simp only [formTab, List.mem_cons, List.not_mem_nil, or_false, Prod.mk.injEq] at h
      rcases h with ⟨rfl, rfl⟩ | ⟨rfl, rfl⟩ | ⟨rfl, rfl⟩ | ⟨rfl, rfl⟩ | ⟨rfl, rfl⟩ | ⟨rfl, rfl⟩ | ⟨rfl, rfl⟩ | ⟨rfl, rfl⟩ | ⟨rfl, rfl⟩ | ⟨rfl, rfl⟩ | ⟨rfl, rfl⟩ | ⟨rfl, rfl⟩ | ⟨rfl, rfl⟩ | ⟨rfl, rfl⟩ | ⟨rfl, rfl⟩ | ⟨rfl, rfl⟩ | ⟨rfl, rfl⟩ | ⟨rfl, rfl⟩ | ⟨rfl, rfl⟩ | ⟨rfl, rfl⟩
      · exact ⟨_, nf0, X_let⟩
      · exact ⟨_, nf1, X_say⟩
      · exact ⟨_, nf2, X_name⟩
      · exact ⟨_, nf3, X_name⟩
      · exact ⟨_, nf4, X_name⟩
      · exact ⟨_, nf5, X_name⟩
      · exact ⟨_, nf6, X_name⟩
      · exact ⟨_, nf7, X_if⟩
      · exact ⟨_, nf8, X_bare⟩
      · exact ⟨_, nf9, X_bare⟩
      · exact ⟨_, nf10, X_number⟩
      · exact ⟨_, nf11, X_proc⟩
      · exact ⟨_, nf12, X_do⟩
      · exact ⟨_, nf13, X_bare⟩
      · exact ⟨_, nf14, X_number⟩
      · exact ⟨_, nf15, X_bare⟩
      · exact ⟨_, nf16, X_number⟩
      · exact ⟨_, nf17, X_number⟩
      · exact ⟨_, nf18, X_bare⟩
      · exact ⟨_, nf19, X_bare⟩), fun z h => by
      obtain ⟨r, h1, h2⟩ := Gd.dic_ns dc_dF z
      have h3 := look_not formTab h
      rw [decide_eq_false (fun m => h3 (by
        show z ∈ (["let", "say", "drop", "hold", "release", "pin", "unpin", "if", "else", "end", "repeat", "proc", "do", "minor", "rings", "begin", "slice", "compact", "finalize", "settle"] : List Str)
        have m2 : z ∈ (["let", "say", "drop", "hold", "release", "pin", "unpin", "if", "else", "end", "repeat", "proc", "do", "minor", "rings", "begin", "slice", "compact", "finalize", "settle"] : List Str) := m
        simp only [List.mem_cons, List.not_mem_nil, or_false] at m2 ⊢
        grind))] at h2
      cases r with
      | none => exact h1
      | some v => cases h2⟩
    have GSt := ok_stat (P := l.prog) (w := w) (base := base) F_statement_of T4
    obtain ⟨fd_B, ED⟩ := errD_of (w := w) (base := base) d_BadRow g_BadRow m_super n_BadRow_row
    have GSs := ok_stats (P := l.prog) (w := w) (base := base) F_statements_of F_statement_of b_statement_of g_statement_of m_isinstance m_str m_enumerate ED GSt
    have GRd := ok_read (P := l.prog) (w := w) (base := base) F_read_script F_statements_of b_statements_of g_statements_of m_tuple GSs
    have er : ErrH K mg C_HeapError C_BadRow C_BadBlock C_Twice C_NoProcedure := ⟨g_HeapError, g_BadRow, g_BadBlock, g_Twice, g_NoProcedure, PySem.W.exm_ref e_1 e_2 e_3 e_4, e_row, e_oth, e_ve, d_BadRow.base.exc, d_BadRow.base.xf, n_BadRow_row⟩
    have L1 := ok_lname (P := l.prog) (w := w) (base := base) F__law_is_name F__law_reserved b__law_reserved g__law_reserved m_len m_all
    have L2s := ok_lsmall (P := l.prog) (w := w) (base := base) F__law_is_small F__law_is_name b__law_is_name g__law_is_name L1
    have L3 := ok_lnum (P := l.prog) (w := w) (base := base) F__law_is_number m_len m_all m_int
    have L4 := ok_lval (P := l.prog) (w := w) (base := base) F__law_is_value F__law_is_name F__law_is_number b__law_is_name b__law_is_number g__law_is_name g__law_is_number L1 L3
    have L5 := ok_lspot (P := l.prog) (w := w) (base := base) F__law_is_spot F__law_is_name b__law_is_name g__law_is_name m_len L1
    have L6 := ok_lworth (P := l.prog) (w := w) (base := base) F__law_is_worth F__law_is_name F__law_is_value F__law_is_spot b__law_is_name b__law_is_value b__law_is_spot g__law_is_name g__law_is_value g__law_is_spot m_len L1 L4 L5
    have L7 := ok_lmade (P := l.prog) (w := w) (base := base) F__law_is_made F__law_is_name F__law_is_number F__law_is_small b__law_is_name b__law_is_number b__law_is_small g__law_is_name g__law_is_number g__law_is_small m_len L1 L3 L2s
    have L8 := ok_lblock (P := l.prog) (w := w) (base := base) F__law_is_block F__law_is_value F__law_is_number F__law_is_small b__law_is_value b__law_is_number b__law_is_small g__law_is_value g__law_is_number g__law_is_small m_len m_set m_all L4 L3 L2s
    have L9 := ok_lrow (P := l.prog) (w := w) (base := base) F__law_is_row F__law_is_name F__law_is_number F__law_is_value F__law_is_spot F__law_is_worth F__law_is_made F__law_is_block b__law_is_name b__law_is_number b__law_is_value b__law_is_spot b__law_is_worth b__law_is_made b__law_is_block g__law_is_name g__law_is_number g__law_is_value g__law_is_spot g__law_is_worth g__law_is_made g__law_is_block m_len L1 L3 L4 L5 L6 L7 L8
    have GDu := ok_due (P := l.prog) (w := w) (base := base) F__law_due F__law_is_row b__law_is_row g__law_is_row m_isinstance m_str m_enumerate m_tuple L9
    have GHe := ok_heard (P := l.prog) (w := w) (base := base) F__law_heard F_read_script b_read_script g_read_script m_isinstance m_ValueError er GRd
    have GIs := ok_is (P := l.prog) (w := w) (base := base) F__law_is_right F__law_heard F__law_due b__law_heard b__law_due g__law_heard g__law_due m_repr GHe GDu
    have GR := ok_right (P := l.prog) (w := w) (base := base) F__law_right F__law_take F__law_of F__law_form_row F__law_spoilt F__law_is_right F__law_odd b__law_take b__law_of b__law_form_row b__law_spoilt b__law_is_right b__law_odd g__law_take g__law_of g__law_form_row g__law_spoilt g__law_is_right g__law_odd m_range m_len m_all m_str GIs
    exact ok_law F_law F__law_pot F__law_right F__law_is_right F__law_hand_rows b__law_pot b__law_right b__law_is_right b__law_hand_rows g__law_pot g__law_right g__law_is_right g__law_hand_rows m_len m_range m_max m_min m_abs m_int m_all GR GIs
end Qf
open PySem PySem.W PyProof.Rows
set_option maxHeartbeats 0 in
theorem PySem.Challenge.cw_crossheaps_k68_rows_of_any_form_holds : PySem.Challenge.rw_crossheaps_k68_rows_of_any_form.Holds := by
  w_on; o_law; k_head; (case hw => w_witness2)
  k_fill
  refine Gd.walkG (l := PySem.Challenge.rw_crossheaps_k68_rows_of_any_form) (n := 63) (k := 12) (x := "_law_script") (CX := fun _ => L2.CX0) (sp := fun w => Qf.spLaw _) rfl (by decide) rfl ⟨rfl, by decide, by decide⟩ (fun w h Y => PySem.W.kIn_of Y) ?F (fun _ _ a ns hl _ hS => ⟨a, ns, rfl, hS, hl, fun _ => rfl⟩) (fun _ _ _ _ _ h => h)
  case F =>
    intro w mg fa h KX G hmg
    refine' Qf.top_ok KX G hmg (.of ?n0 ?l0 ?c0 ?k0) (.of ?n1 ?l1 ?c1 ?k1) (.of ?n2 ?l2 ?c2 ?k2) (.of ?n3 ?l3 ?c3 ?k3) (.of ?n4 ?l4 ?c4 ?k4) (.of ?n5 ?l5 ?c5 ?k5) (.of ?n6 ?l6 ?c6 ?k6) (.of ?n7 ?l7 ?c7 ?k7) (.of ?n8 ?l8 ?c8 ?k8) (.of ?n9 ?l9 ?c9 ?k9) (.of ?n10 ?l10 ?c10 ?k10) (.of ?n11 ?l11 ?c11 ?k11) (.of ?n12 ?l12 ?c12 ?k12) (.of ?n13 ?l13 ?c13 ?k13) (.of ?n14 ?l14 ?c14 ?k14) (.of ?n15 ?l15 ?c15 ?k15) (.of ?n16 ?l16 ?c16 ?k16) (.of ?n17 ?l17 ?c17 ?k17) (.of ?n18 ?l18 ?c18 ?k18) (.of ?n19 ?l19 ?c19 ?k19) (.of ?n20 ?l20 ?c20 ?k20) (.of ?n21 ?l21 ?c21 ?k21) (.of ?n22 ?l22 ?c22 ?k22) (.of ?n23 ?l23 ?c23 ?k23) (.of ?n24 ?l24 ?c24 ?k24) (.of ?n25 ?l25 ?c25 ?k25) (.of ?n26 ?l26 ?c26 ?k26) (.of ?n27 ?l27 ?c27 ?k27) (.of ?n28 ?l28 ?c28 ?k28) (.of ?n29 ?l29 ?c29 ?k29) (.of ?n30 ?l30 ?c30 ?k30) (.of ?n31 ?l31 ?c31 ?k31) (.of ?n32 ?l32 ?c32 ?k32) (.of ?n33 ?l33 ?c33 ?k33) (.of ?n34 ?l34 ?c34 ?k34) (.of ?n35 ?l35 ?c35 ?k35) (.of ?n36 ?l36 ?c36 ?k36) (.of ?n37 ?l37 ?c37 ?k37) (.of ?n38 ?l38 ?c38 ?k38) (.of ?n39 ?l39 ?c39 ?k39) (.of ?n40 ?l40 ?c40 ?k40) (.of ?n41 ?l41 ?c41 ?k41) (.of ?n42 ?l42 ?c42 ?k42) (.of ?n43 ?l43 ?c43 ?k43) (.of ?n44 ?l44 ?c44 ?k44) (.of ?dBadRown (.mk ?bBadRowa ?bBadRowb ?bBadRowc ?bBadRowd ?bBadRowe ?bBadRowf ?bBadRowg ?bBadRowh ?bBadRowi ?bBadRowj) ?dBadRowl ?dBadRowr ?dBadRowsa ?dBadRowty ?dBadRowini ?dBadRowfn ?dBadRowlf ?dBadRowcode ?dBadRowlc ?dBadRowld ?dBadRowv2 ?dBadRowfl ?dBadRowc ?dBadRowm ?dBadRows ?dBadRowsv ?dBadRowop ?dBadRowmn ?dBadRowheap) ?xBadRowrow ?z0 ?z1 ?z2 ?z3 ?z4 ?z5 ?z6 ?z7 ?z8 ?z9 ?z10 ?z11 ?z12 ?z13 ?z14 ?z15 ?h0 ?h1 ?h2 ?h3 ?h4 ?h5 ?h6 ?h7 ?h8 ?h9 ?h10 ?h11 ?h12 ?h13 ?h14 ?h15 ?h16 ?h17 ?h18 ?h19 ?h20 ?h21 ?h22 ?h23 ?h24 ?h25 ?h26 ?h27 ?h28 ?h29 ?h30 ?h31 ?h32 ?h33 ?h34 ?h35 ?h36 ?h37 ?h38 ?h39 ?h40 ?h41 ?h42 ?h43 ?h44 ?h45 ?h46 ?h47 ?h48 ?h49 ?h50 ?h51 ?h52 ?h53 ?h54 ?h55 ?h56 ?h57 ?h58 ?h59 ?h60 ?h61 ?h62 ?h63
    (case h53 => k_is)
    (case h54 => k_is)
    (case h55 => k_is)
    (case h56 => k_is)
    (case n0 => k_is)
    (case l0 => k_is)
    (case c0 => k_is)
    (case k0 => k_is)
    (case n1 => k_is)
    (case l1 => k_is)
    (case c1 => k_is)
    (case k1 => k_is)
    (case n2 => k_is)
    (case l2 => k_is)
    (case c2 => k_is)
    (case k2 => k_is)
    (case n3 => k_is)
    (case l3 => k_is)
    (case c3 => k_is)
    (case k3 => k_is)
    (case n4 => k_is)
    (case l4 => k_is)
    (case c4 => k_is)
    (case k4 => k_is)
    (case n5 => k_is)
    (case l5 => k_is)
    (case c5 => k_is)
    (case k5 => k_is)
    (case n6 => k_is)
    (case l6 => k_is)
    (case c6 => k_is)
    (case k6 => k_is)
    (case n7 => k_is)
    (case l7 => k_is)
    (case c7 => k_is)
    (case k7 => k_is)
    (case n8 => k_is)
    (case l8 => k_is)
    (case c8 => k_is)
    (case k8 => k_is)
    (case n9 => k_is)
    (case l9 => k_is)
    (case c9 => k_is)
    (case k9 => k_is)
    (case n10 => k_is)
    (case l10 => k_is)
    (case c10 => k_is)
    (case k10 => k_is)
    (case n11 => k_is)
    (case l11 => k_is)
    (case c11 => k_is)
    (case k11 => k_is)
    (case n12 => k_is)
    (case l12 => k_is)
    (case c12 => k_is)
    (case k12 => k_is)
    (case n13 => k_is)
    (case l13 => k_is)
    (case c13 => k_is)
    (case k13 => k_is)
    (case n14 => k_is)
    (case l14 => k_is)
    (case c14 => k_is)
    (case k14 => k_is)
    (case n15 => k_is)
    (case l15 => k_is)
    (case c15 => k_is)
    (case k15 => k_is)
    (case n16 => k_is)
    (case l16 => k_is)
    (case c16 => k_is)
    (case k16 => k_is)
    (case n17 => k_is)
    (case l17 => k_is)
    (case c17 => k_is)
    (case k17 => k_is)
    (case n18 => k_is)
    (case l18 => k_is)
    (case c18 => k_is)
    (case k18 => k_is)
    (case n19 => k_is)
    (case l19 => k_is)
    (case c19 => k_is)
    (case k19 => k_is)
    (case n20 => k_is)
    (case l20 => k_is)
    (case c20 => k_is)
    (case k20 => k_is)
    (case n21 => k_is)
    (case l21 => k_is)
    (case c21 => k_is)
    (case k21 => k_is)
    (case n22 => k_is)
    (case l22 => k_is)
    (case c22 => k_is)
    (case k22 => k_is)
    (case n23 => k_is)
    (case l23 => k_is)
    (case c23 => k_is)
    (case k23 => k_is)
    (case n24 => k_is)
    (case l24 => k_is)
    (case c24 => k_is)
    (case k24 => k_is)
    (case n25 => k_is)
    (case l25 => k_is)
    (case c25 => k_is)
    (case k25 => k_is)
    (case n26 => k_is)
    (case l26 => k_is)
    (case c26 => k_is)
    (case k26 => k_is)
    (case n27 => k_is)
    (case l27 => k_is)
    (case c27 => k_is)
    (case k27 => k_is)
    (case n28 => k_is)
    (case l28 => k_is)
    (case c28 => k_is)
    (case k28 => k_is)
    (case n29 => k_is)
    (case l29 => k_is)
    (case c29 => k_is)
    (case k29 => k_is)
    (case n30 => k_is)
    (case l30 => k_is)
    (case c30 => k_is)
    (case k30 => k_is)
    (case n31 => k_is)
    (case l31 => k_is)
    (case c31 => k_is)
    (case k31 => k_is)
    (case n32 => k_is)
    (case l32 => k_is)
    (case c32 => k_is)
    (case k32 => k_is)
    (case n33 => k_is)
    (case l33 => k_is)
    (case c33 => k_is)
    (case k33 => k_is)
    (case n34 => k_is)
    (case l34 => k_is)
    (case c34 => k_is)
    (case k34 => k_is)
    (case n35 => k_is)
    (case l35 => k_is)
    (case c35 => k_is)
    (case k35 => k_is)
    (case n36 => k_is)
    (case l36 => k_is)
    (case c36 => k_is)
    (case k36 => k_is)
    (case n37 => k_is)
    (case l37 => k_is)
    (case c37 => k_is)
    (case k37 => k_is)
    (case n38 => k_is)
    (case l38 => k_is)
    (case c38 => k_is)
    (case k38 => k_is)
    (case n39 => k_is)
    (case l39 => k_is)
    (case c39 => k_is)
    (case k39 => k_is)
    (case n40 => k_is)
    (case l40 => k_is)
    (case c40 => k_is)
    (case k40 => k_is)
    (case n41 => k_is)
    (case l41 => k_is)
    (case c41 => k_is)
    (case k41 => k_is)
    (case n42 => k_is)
    (case l42 => k_is)
    (case c42 => k_is)
    (case k42 => k_is)
    (case n43 => k_is)
    (case l43 => k_is)
    (case c43 => k_is)
    (case k43 => k_is)
    (case n44 => k_is)
    (case l44 => k_is)
    (case c44 => k_is)
    (case k44 => k_is)
    (case dBadRown => k_is)
    (case bBadRowa => (first | k_is | kit_is | ks_is | rfl | kernel_rfl))
    (case bBadRowb => (first | k_is | kit_is | ks_is | rfl | kernel_rfl))
    (case bBadRowc => (first | k_is | kit_is | ks_is | rfl | kernel_rfl))
    (case bBadRowd => (first | k_is | kit_is | ks_is | rfl | kernel_rfl))
    (case bBadRowe => (first | k_is | kit_is | ks_is | rfl | kernel_rfl))
    (case bBadRowf => (first | k_is | kit_is | ks_is | rfl | kernel_rfl))
    (case bBadRowg => (first | k_is | kit_is | ks_is | rfl | kernel_rfl))
    (case bBadRowh => (first | k_is | kit_is | ks_is | rfl | kernel_rfl))
    (case bBadRowi => (first | k_is | kit_is | ks_is | rfl | kernel_rfl))
    (case bBadRowj => (first | k_is | kit_is | ks_is | rfl | kernel_rfl))
    (case dBadRowl => (first | k_is | kit_is | ks_is | rfl | kernel_rfl))
    (case dBadRowr => (first | k_is | kit_is | ks_is | rfl | kernel_rfl))
    (case dBadRowsa => (first | k_is | kit_is | ks_is | rfl | kernel_rfl))
    (case dBadRowty => (first | k_is | kit_is | ks_is | rfl | kernel_rfl))
    (case dBadRowini => (first | k_is | kit_is | ks_is | rfl | kernel_rfl))
    (case dBadRowfn => (first | k_is | kit_is | ks_is | rfl | kernel_rfl))
    (case dBadRowlf => (first | k_is | kit_is | ks_is | rfl | kernel_rfl))
    (case dBadRowcode => (first | k_is | kit_is | ks_is | rfl | kernel_rfl))
    (case dBadRowlc => (first | k_is | kit_is | ks_is | rfl | kernel_rfl))
    (case dBadRowld => (first | k_is | kit_is | ks_is | rfl | kernel_rfl))
    (case dBadRowv2 => (first | k_is | kit_is | ks_is | rfl | kernel_rfl))
    (case dBadRowfl => (first | k_is | kit_is | ks_is | rfl | kernel_rfl))
    (case dBadRowc => (first | k_is | kit_is | ks_is | rfl | kernel_rfl))
    (case dBadRowm => (first | k_is | kit_is | ks_is | rfl | kernel_rfl))
    (case dBadRows => (first | k_is | kit_is | ks_is | rfl | kernel_rfl))
    (case dBadRowsv => (first | k_is | kit_is | ks_is | rfl | kernel_rfl))
    (case dBadRowop => (first | k_is | kit_is | ks_is | rfl | kernel_rfl))
    (case dBadRowmn => (first | k_is | kit_is | ks_is | rfl | kernel_rfl))
    (case dBadRowheap => (first | k_is | kit_is | ks_is | rfl | kernel_rfl))
    (case xBadRowrow => k_is)
    (case z0 => k_is)
    (case z1 => k_is)
    (case z2 => k_is)
    (case z3 => k_is)
    (case z4 => k_is)
    (case z5 => k_is)
    (case z6 => k_is)
    (case z7 => k_is)
    (case z8 => k_is)
    (case z9 => k_is)
    (case z10 => k_is)
    (case z11 => k_is)
    (case z12 => k_is)
    (case z13 => k_is)
    (case z14 => k_is)
    (case z15 => k_is)
    (case h0 => k_is)
    (case h1 => k_is)
    (case h2 => k_is)
    (case h3 => k_is)
    (case h4 => k_is)
    (case h5 => k_is)
    (case h6 => k_is)
    (case h7 => k_is)
    (case h8 => k_is)
    (case h9 => k_is)
    (case h10 => k_is)
    (case h11 => (first | rfl | k_is | kernel_rfl | decide +kernel))
    (case h12 => (first | rfl | k_is | kernel_rfl | decide +kernel))
    (case h13 => (first | rfl | k_is | kernel_rfl | decide +kernel))
    (case h14 => (first | rfl | k_is | kernel_rfl | decide +kernel))
    (case h15 => (first | rfl | k_is | kernel_rfl | decide +kernel))
    (case h16 => (first | rfl | k_is | kernel_rfl))
    (case h17 => k_is)
    (case h18 => k_is)
    (case h19 => k_is)
    (case h20 => k_is)
    (case h21 => k_is)
    (case h22 => k_is)
    (case h23 => k_is)
    (case h24 => k_is)
    (case h25 => k_is)
    (case h26 => k_is)
    (case h27 => k_is)
    (case h28 => k_is)
    (case h29 => k_is)
    (case h30 => k_is)
    (case h31 => k_is)
    (case h32 => k_is)
    (case h33 => k_is)
    (case h34 => k_is)
    (case h35 => k_is)
    (case h36 => k_is)
    (case h37 => k_is)
    (case h38 => k_is)
    (case h39 => k_is)
    (case h40 => k_is)
    (case h41 => k_is)
    (case h42 => k_is)
    (case h43 => k_is)
    (case h44 => k_is)
    (case h45 => k_is)
    (case h46 => k_is)
    (case h47 => k_is)
    (case h48 => k_is)
    (case h49 => k_is)
    (case h50 => k_is)
    (case h51 => k_is)
    (case h52 => k_is)
    (case h57 => (first | k_is | kit_is | ks_is | rfl | kernel_rfl))
    (case h58 => (first | k_is | kit_is | ks_is | rfl | kernel_rfl))
    (case h59 => (first | k_is | kit_is | ks_is | rfl | kernel_rfl))
    (case h60 => (first | k_is | kit_is | ks_is | rfl | kernel_rfl))
    (case h61 => (first | k_is | kit_is | ks_is | rfl | kernel_rfl))
    (case h62 => (first | k_is | kit_is | ks_is | rfl | kernel_rfl))
    (case h63 => (first | k_is | kit_is | ks_is | rfl | kernel_rfl))
