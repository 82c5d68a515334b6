import PyProof.Rows.All
import Wide.All
import OpenK.AllK
import Wide.FinOn
import PySem.Challenge.RW_crossheaps_k59_snapshots_of_any_value
import HandS.Base
import HandS.List
import HandS.SortRule
import HandS.ForMost
import HandS.Evl
import HandS.FStrTup
import HandS.Iter
import HandS.Walk
import HandS.DictTup
import KE.KDictWalk
import KE.KPairComp
import HandS.SortInts
import HandS.Conv
import HandS.Wide
import HandS.SetKeys
import HandS.Steps
import HandS.IsInst
import HandS.Star
import HandS.DictComp
import HandS.Style
import KE.DataEq
import KE.KExcSuper
import HandS.ExcInit
import HandS.FStr
import KE.KExcIs
import HandS.ExcField
import HandS.ExcIs
import HandS.ExcValue
import HandS.TryOnly
import HandS.Flow
import HandS.Text
import HandS.Codes
import HandS.HeadHook3
import HandS.StrMore
import HandS.Strs
import HandS.Call
import HandS.Set
import HandS.Dict
import PyProof.Rows.TupMore
import PyProof.Rows.IntBool
import PyProof.Rows.EqBoolInt
import HandS.TupAny
import HandS.ExcOwn
set_option Elab.async false
set_option linter.all false
set_option maxRecDepth 100000
set_option maxHeartbeats 8000000
namespace Gd
open PySem L2
/-! The order of tuples of keys. -/
def kLt : Key → Key → Bool
  | .inl a, .inl b => decide (a < b)
  | .inr a, .inr b => decide (a.cps.toList < b.cps.toList)
  | .inl _, .inr _ => true
  | .inr _, .inl _ => false
def ksLt : List Key → List Key → Bool
  | [], [] => false
  | [], _ :: _ => true
  | _ :: _, [] => false
  | a :: r, b :: s => if a = b then ksLt r s else kLt a b
theorem str_ext {a b : Str} (h : a.cps.toList = b.cps.toList) : a = b := by
  cases a
  cases b
  simp only at h
  rw [Array.toList_inj.mp h]
theorem kLt_irr : ∀ a : Key, kLt a a = false
  | .inl a => decide_eq_false (Int.lt_irrefl a)
  | .inr a => decide_eq_false (List.lt_irrefl _)
theorem kLt_as : ∀ {a b : Key}, kLt a b = true → kLt b a = false
  | .inl a, .inl b, h => decide_eq_false (by have := of_decide_eq_true h; omega)
  | .inr a, .inr b, h => decide_eq_false (fun q => List.lt_irrefl _ (List.lt_trans (of_decide_eq_true h) q))
  | .inl _, .inr _, _ => rfl
  | .inr _, .inl _, h => nomatch h
theorem kLt_tri : ∀ {a b : Key}, kLt a b = false → kLt b a = false → a = b
  | .inl a, .inl b, h, g => by
    have h1 := of_decide_eq_false h
    have h2 := of_decide_eq_false g
    rw [show a = b from by omega]
  | .inr a, .inr b, h, g => by
    have h1 := of_decide_eq_false h
    have h2 := of_decide_eq_false g
    rw [str_ext (List.le_antisymm (List.not_lt.mp h2) (List.not_lt.mp h1))]
  | .inl _, .inr _, h, _ => nomatch h
  | .inr _, .inl _, _, g => nomatch g
theorem kLt_tr : ∀ {a b c : Key}, kLt a b = true → kLt b c = true → kLt a c = true
  | .inl a, .inl b, .inl c, h, g => decide_eq_true (by have := of_decide_eq_true h; have := of_decide_eq_true g; omega)
  | .inr a, .inr b, .inr c, h, g => decide_eq_true (List.lt_trans (of_decide_eq_true h) (of_decide_eq_true g))
  | .inl _, .inl _, .inr _, _, _ => rfl
  | .inl _, .inr _, .inr _, _, _ => rfl
  | .inl _, .inr _, .inl _, _, g => nomatch g
  | .inr _, .inl _, _, h, _ => nomatch h
  | .inr _, .inr _, .inl _, _, g => nomatch g
theorem ksLt_irr : ∀ a : List Key, ksLt a a = false
  | [] => rfl
  | a :: r => by
    rw [ksLt, if_pos rfl]
    exact ksLt_irr r
theorem ksLt_as : ∀ {a b : List Key}, ksLt a b = true → ksLt b a = false
  | [], [], h => nomatch h
  | [], _ :: _, _ => rfl
  | _ :: _, [], h => nomatch h
  | a :: r, b :: s, h => by
    rw [ksLt] at h ⊢
    by_cases e : a = b
    · rw [if_pos e] at h
      rw [if_pos e.symm]
      exact ksLt_as h
    · rw [if_neg e] at h
      rw [if_neg (fun q => e q.symm)]
      exact kLt_as h
theorem ksLt_tri : ∀ {a b : List Key}, ksLt a b = false → ksLt b a = false → a = b
  | [], [], _, _ => rfl
  | [], _ :: _, h, _ => nomatch h
  | _ :: _, [], _, h => nomatch h
  | a :: r, b :: s, h, g => by
    rw [ksLt] at h g
    by_cases e : a = b
    · rw [if_pos e] at h
      rw [if_pos e.symm] at g
      rw [e, ksLt_tri h g]
    · rw [if_neg e] at h
      rw [if_neg (fun q => e q.symm)] at g
      exact absurd (kLt_tri h g) e
theorem ksLt_tr : ∀ {a b c : List Key}, ksLt a b = true → ksLt b c = true → ksLt a c = true
  | [], [], _, h, _ => nomatch h
  | [], _ :: _, [], _, g => nomatch g
  | [], _ :: _, _ :: _, _, _ => rfl
  | _ :: _, [], _, h, _ => nomatch h
  | _ :: _, _ :: _, [], _, g => nomatch g
  | a :: r, b :: s, c :: t, h, g => by
    rw [ksLt] at h g ⊢
    by_cases e : a = b
    · subst e
      rw [if_pos rfl] at h
      by_cases e2 : a = c
      · rw [if_pos e2] at g ⊢
        exact ksLt_tr h g
      · rw [if_neg e2] at g ⊢
        exact g
    · rw [if_neg e] at h
      by_cases e2 : b = c
      · subst e2
        rw [if_neg e]
        exact h
      · rw [if_neg e2] at g
        have e3 : a ≠ c := fun q => by
          subst q
          rw [kLt_as h] at g
          cases g
        rw [if_neg e3]
        exact kLt_tr h g
theorem ksLt_ntr {a b c : List Key} (h : ksLt a b = false) (g : ksLt b c = false) : ksLt a c = false := by
  cases q : ksLt a c with
  | false => rfl
  | true =>
    cases p : ksLt b a with
    | true =>
      rw [ksLt_tr p q] at g
      cases g
    | false =>
      have e := ksLt_tri h p
      subst e
      rw [q] at g
      cases g
end Gd
namespace Sn
open PySem PySem.Spec PyProof.Rows L2
/-! Data of tuples, texts, ints and None, as it lies in a heap; snapshots. -/
def Exx (H H' : Hp) : Prop := ∀ a o, H a = some o → H' a = some o
mutual
inductive Td (K : PySem.W.Frag) (H : Hp) : V → PyData → Prop
  | non : Td K H .non .none
  | int (i : Int) : Td K H (.int i) (.int i)
  | str (x : Str) : Td K H (.str x) (.str x)
  | tup {a : Addr} {xs : List V} {ds : List PyData} : SqT K H a xs → TdAll K H xs ds → Td K H (.ref a) (.tuple ds)
inductive TdAll (K : PySem.W.Frag) (H : Hp) : List V → List PyData → Prop
  | nil : TdAll K H [] []
  | cons {v : V} {vs : List V} {d : PyData} {ds : List PyData} : Td K H v d → TdAll K H vs ds → TdAll K H (v :: vs) (d :: ds)
end
section
variable {K : PySem.W.Frag} {H H' : Hp} {x : V} {xs ys : List V} {d : PyData} {ds es : List PyData}
/-- what H' keeps of the tuples -/
def KeepT (K : PySem.W.Frag) (H H' : Hp) : Prop := ∀ a xs, SqT K H a xs → SqT K H' a xs
theorem KeepT.of (e : ∀ a o, H a = some o → H' a = some o) : KeepT K H H' := by
  intro a xs h
  rcases h with (h | ⟨o, h⟩) | h
  · exact .inl (.inl (e _ _ h))
  · exact .inl (.inr ⟨o, e _ _ h⟩)
  · exact .inr h
/-- all but a list, a dict or an instance stays -/
theorem KeepT.off {p : Addr} {u : HO} (hp : H p = some u) (hu : (∀ xs, u ≠ .tup xs) ∧ ∀ o v, u ≠ .frz o v) (e : ∀ a o, a ≠ p → H a = some o → H' a = some o) : KeepT K H H' := by
  intro a xs h
  rcases h with (h | ⟨o, h⟩) | h
  · exact .inl (.inl (e _ _ (fun q => by
      rw [q, hp] at h
      exact hu.1 _ (Option.some.inj h)) h))
  · exact .inl (.inr ⟨o, e _ _ (fun q => by
      rw [q, hp] at h
      exact hu.2 _ _ (Option.some.inj h)) h⟩)
  · exact .inr h
theorem KeepT.lst {p : Addr} {zs : List V} (hp : H p = some (.lst zs)) (e : ∀ a o, a ≠ p → H a = some o → H' a = some o) : KeepT K H H' := .off hp ⟨(fun _ z => nomatch z), (fun _ _ z => nomatch z)⟩ e
mutual
theorem Td.keep (k : KeepT K H H') : ∀ {x : V} {d : PyData}, Td K H x d → Td K H' x d
  | _, _, .non => .non
  | _, _, .int i => .int i
  | _, _, .str x => .str x
  | _, _, .tup h a => .tup (k _ _ h) (TdAll.keep k a)
theorem TdAll.keep (k : KeepT K H H') : ∀ {xs : List V} {ds : List PyData}, TdAll K H xs ds → TdAll K H' xs ds
  | _, _, .nil => .nil
  | _, _, .cons h a => .cons (Td.keep k h) (TdAll.keep k a)
end
theorem Td.ex (e : ∀ a o, H a = some o → H' a = some o) (h : Td K H x d) : Td K H' x d := h.keep (.of e)
theorem TdAll.ex (e : ∀ a o, H a = some o → H' a = some o) (h : TdAll K H xs ds) : TdAll K H' xs ds := h.keep (.of e)
mutual
theorem Td.dp : ∀ {x : V} {d : PyData}, Td K H x d → Dp K H x d
  | _, _, .non => .non
  | _, _, .int i => .int i
  | _, _, .str x => .str x
  | _, _, .tup h a => .tup h (TdAll.dp a)
theorem TdAll.dp : ∀ {xs : List V} {ds : List PyData}, TdAll K H xs ds → DpAll K H xs ds
  | _, _, .nil => .nil
  | _, _, .cons h a => .cons (Td.dp h) (TdAll.dp a)
end
theorem TdAll.len : ∀ {xs : List V} {ds : List PyData}, TdAll K H xs ds → xs.length = ds.length
  | _, _, .nil => rfl
  | _, _, .cons _ a => by rw [List.length_cons, List.length_cons, TdAll.len a]
theorem TdAll.snoc : ∀ {xs : List V} {ds : List PyData} {x : V} {d : PyData}, TdAll K H xs ds → Td K H x d → TdAll K H (xs ++ [x]) (ds ++ [d])
  | _, _, _, _, .nil, h => .cons h .nil
  | _, _, _, _, .cons a b, h => .cons a (b.snoc h)
theorem TdAll.app : ∀ {xs ys : List V} {ds es : List PyData}, TdAll K H xs ds → TdAll K H ys es → TdAll K H (xs ++ ys) (ds ++ es)
  | _, _, _, _, .nil, h => h
  | _, _, _, _, .cons a b, h => .cons a (b.app h)
theorem TdAll.get : ∀ {xs : List V} {ds : List PyData} {i : Nat} {x : V}, TdAll K H xs ds → xs[i]? = some x → ∃ d, ds[i]? = some d ∧ Td K H x d
  | _, _, _, _, .nil, h => by simp at h
  | _, _, 0, _, .cons a _, h => ⟨_, rfl, by
    have e := Option.some.inj h
    rw [← e]
    exact a⟩
  | _, _, i + 1, _, .cons _ b, h => by
    obtain ⟨d, h1, h2⟩ := TdAll.get (i := i) b (by simpa using h)
    exact ⟨d, by simpa using h1, h2⟩
theorem TdAll.at : ∀ {xs : List V} {ds : List PyData} {i : Nat} {d : PyData}, TdAll K H xs ds → ds[i]? = some d → ∃ x, xs[i]? = some x ∧ Td K H x d
  | _, _, _, _, .nil, h => by simp at h
  | _, _, 0, _, .cons a _, h => ⟨_, rfl, by
    have e := Option.some.inj h
    rw [← e]
    exact a⟩
  | _, _, i + 1, _, .cons _ b, h => by
    obtain ⟨d, h1, h2⟩ := TdAll.at (i := i) b (by simpa using h)
    exact ⟨d, by simpa using h1, h2⟩
theorem Td.inv_tup (h : Td K H x (.tuple ds)) : ∃ p xs, x = .ref p ∧ SqT K H p xs ∧ TdAll K H xs ds := by
  cases h with
  | tup a b => exact ⟨_, _, rfl, a, b⟩
theorem Td.inv_int {i : Int} (h : Td K H x (.int i)) : x = .int i := by cases h <;> rfl
theorem Td.inv_str {z : Str} (h : Td K H x (.str z)) : x = .str z := by cases h <;> rfl
theorem Td.inv_non (h : Td K H x .none) : x = .non := by cases h <;> rfl
theorem TdAll.inv_cons (h : TdAll K H xs (d :: ds)) : ∃ y ys, xs = y :: ys ∧ Td K H y d ∧ TdAll K H ys ds := by
  cases h with
  | cons a b => exact ⟨_, _, rfl, a, b⟩
theorem TdAll.inv_nil (h : TdAll K H xs []) : xs = [] := by cases h <;> rfl
theorem TdAll.ints : ∀ ns : List Int, TdAll K H (ns.map V.int) (ns.map .int)
  | [] => .nil
  | n :: r => .cons (.int n) (TdAll.ints r)
theorem TdAll.inv_ints : ∀ {xs : List V} (ns : List Int), TdAll K H xs (ns.map .int) → xs = ns.map V.int
  | _, [], h => h.inv_nil
  | _, n :: r, h => by
    obtain ⟨y, ys, rfl, h1, h2⟩ := TdAll.inv_cons h
    rw [h1.inv_int, TdAll.inv_ints r h2]
    rfl
/-- a tuple of three, of four, of two -/
theorem Td.inv2 {d1 d2 : PyData} (h : Td K H x (.tuple [d1, d2])) : ∃ p y z, x = .ref p ∧ SqT K H p [y, z] ∧ Td K H y d1 ∧ Td K H z d2 := by
  obtain ⟨p, xs, rfl, h1, h2⟩ := h.inv_tup
  obtain ⟨y, ys, rfl, a, h2⟩ := h2.inv_cons
  obtain ⟨z, zs, rfl, b, h2⟩ := h2.inv_cons
  rw [h2.inv_nil] at h1
  exact ⟨p, y, z, rfl, h1, a, b⟩
theorem Td.inv3 {d1 d2 d3 : PyData} (h : Td K H x (.tuple [d1, d2, d3])) : ∃ p y z u, x = .ref p ∧ SqT K H p [y, z, u] ∧ Td K H y d1 ∧ Td K H z d2 ∧ Td K H u d3 := by
  obtain ⟨p, xs, rfl, h1, h2⟩ := h.inv_tup
  obtain ⟨y, ys, rfl, a, h2⟩ := h2.inv_cons
  obtain ⟨z, zs, rfl, b, h2⟩ := h2.inv_cons
  obtain ⟨u, us, rfl, c, h2⟩ := h2.inv_cons
  rw [h2.inv_nil] at h1
  exact ⟨p, y, z, u, rfl, h1, a, b, c⟩
theorem Td.inv4 {d1 d2 d3 d4 : PyData} (h : Td K H x (.tuple [d1, d2, d3, d4])) : ∃ p y z u v, x = .ref p ∧ SqT K H p [y, z, u, v] ∧ Td K H y d1 ∧ Td K H z d2 ∧ Td K H u d3 ∧ Td K H v d4 := by
  obtain ⟨p, xs, rfl, h1, h2⟩ := h.inv_tup
  obtain ⟨y, ys, rfl, a, h2⟩ := h2.inv_cons
  obtain ⟨z, zs, rfl, b, h2⟩ := h2.inv_cons
  obtain ⟨u, us, rfl, c, h2⟩ := h2.inv_cons
  obtain ⟨v, vs, rfl, e, h2⟩ := h2.inv_cons
  rw [h2.inv_nil] at h1
  exact ⟨p, y, z, u, v, rfl, h1, a, b, c, e⟩
end
/-! ### snapshots -/
inductive Part where
  | tgt (n : Int)
  | pair (k : Int) (v : Option Int)
def dOpt : Option Int → PyData
  | none => .none
  | some v => .int v
def dPart : Part → PyData
  | .tgt n => .int n
  | .pair k v => .tuple [.int k, dOpt v]
structure Thing where
  n : Int
  home : Str
  sort : Str
  parts : List Part
def dThing (t : Thing) : PyData := .tuple [.int t.n, .str t.home, .str t.sort, .tuple (t.parts.map dPart)]
def dRoot (r : Str × Int) : PyData := .tuple [.str r.1, .int r.2]
structure Shot where
  roots : List (Str × Int)
  things : List Thing
def dShot (s : Shot) : PyData := .tuple [.tuple (s.roots.map dRoot), .tuple (s.things.map dThing)]
/-- records have slots with objects, maps entries, weak objects targets -/
def OkThing (t : Thing) : Prop := (t.sort = "record" ∧ ∀ p ∈ t.parts, ∃ k v, p = .pair k (some v)) ∨ (t.sort = "map" ∧ ∀ p ∈ t.parts, ∃ k v, p = .pair k v) ∨ (t.sort = "weak" ∧ ∀ p ∈ t.parts, ∃ n, p = .tgt n)
/-! ### arcs, and what is alive -/
structure Arc where
  link : List Key
  src : List Int
  tgt : Int
def kD : Key → PyData
  | .inl i => .int i
  | .inr z => .str z
def dArc (α : Arc) : PyData := .tuple [.tuple (α.link.map kD), .tuple (α.src.map .int), .int α.tgt]
def rootArc (r : Str × Int) : Arc := ⟨[.inr "root", .inr r.1], [], r.2⟩
def slotArc (n : Int) : Part → Option Arc
  | .pair k (some v) => some ⟨[.inr "slot", .inl n, .inl k], [n], v⟩
  | _ => none
def entryArc (n : Int) : Part → Option Arc
  | .pair k (some v) => some ⟨[.inr "entry", .inl n, .inl k], [n, k], v⟩
  | _ => none
def thingArcs (t : Thing) : List Arc := if t.sort = "record" then t.parts.filterMap (slotArc t.n) else if t.sort = "map" then t.parts.filterMap (entryArc t.n) else []
def arcsOf (s : Shot) : List Arc := s.roots.map rootArc ++ s.things.flatMap thingArcs
inductive Live (as : List Arc) : Int → Prop
  | mk {α : Arc} : α ∈ as → (∀ n ∈ α.src, Live as n) → Live as α.tgt
/-- what is closed under the arcs has all that is alive -/
theorem Live.sub {as : List Arc} {S : Int → Prop} (h : ∀ α ∈ as, (∀ n ∈ α.src, S n) → S α.tgt) {n : Int} (l : Live as n) : S n := by
  induction l with
  | mk m _ ih => exact h _ m ih
theorem kV_td {K : PySem.W.Frag} {H : Hp} : ∀ k : Key, Td K H (kV k) (kD k)
  | .inl i => .int i
  | .inr z => .str z
theorem kVs_td {K : PySem.W.Frag} {H : Hp} : ∀ ks : List Key, TdAll K H (ks.map kV) (ks.map kD)
  | [] => .nil
  | k :: r => .cons (kV_td k) (kVs_td r)
end Sn
namespace Sn
open PySem PySem.Spec PyProof.Rows L2
/-! ### nets: roots and rows; what the worklist of `met` does -/
structure Row where
  n : Int
  sort : Str
  parts : List Part
structure NetM where
  roots : List (Str × Int)
  rows : List Row
def pairOf : Part → Option (Int × Int)
  | .pair k (some v) => some (k, v)
  | _ => none
def pairsOf (r : Row) : List (Int × Int) := r.parts.filterMap pairOf
def slotA (n : Int) (p : Int × Int) : Arc := ⟨[.inr "slot", .inl n, .inl p.1], [n], p.2⟩
def entryA (n : Int) (p : Int × Int) : Arc := ⟨[.inr "entry", .inl n, .inl p.1], [n, p.1], p.2⟩
def rowArcs (r : Row) : List Arc := if r.sort = "record" then (pairsOf r).map (slotA r.n) else if r.sort = "map" then (pairsOf r).map (entryA r.n) else []
def netArcs (N : NetM) : List Arc := N.roots.map rootArc ++ N.rows.flatMap rowArcs
def isVal : Part → Bool
  | .pair _ none => false
  | _ => true
def rowOf (t : Thing) : Row := ⟨t.n, t.sort, if t.sort = "map" then t.parts.filter isVal else t.parts⟩
def netM (s : Shot) : NetM := ⟨s.roots, s.things.map rowOf⟩
theorem slot_pair (n : Int) (p : Part) : slotArc n p = (pairOf p).map (slotA n) := by
  cases p with
  | tgt m => rfl
  | pair k v => cases v <;> rfl
theorem entry_pair (n : Int) (p : Part) : entryArc n p = (pairOf p).map (entryA n) := by
  cases p with
  | tgt m => rfl
  | pair k v => cases v <;> rfl
theorem filterMap_map' {α β γ : Type} (f : α → Option β) (g : β → γ) (l : List α) : l.filterMap (fun x => (f x).map g) = (l.filterMap f).map g := by
  induction l with
  | nil => rfl
  | cons x l ih =>
    cases e : f x with
    | none => rw [List.filterMap_cons_none (by rw [e]; rfl), List.filterMap_cons_none e, ih]
    | some y => rw [List.filterMap_cons_some (b := g y) (by rw [e]; rfl), List.filterMap_cons_some e, List.map_cons, ih]
theorem vals_same : ∀ l : List Part, (l.filter isVal).filterMap pairOf = l.filterMap pairOf
  | [] => rfl
  | p :: l => by
    have ih := vals_same l
    cases p with
    | tgt m => rw [List.filter_cons_of_pos rfl, List.filterMap_cons_none rfl, List.filterMap_cons_none rfl, ih]
    | pair k v =>
      cases v with
      | none => rw [List.filter_cons_of_neg (show ¬ (isVal (Part.pair k none) = true) from Bool.false_ne_true), List.filterMap_cons_none rfl, ih]
      | some v => rw [List.filter_cons_of_pos rfl, List.filterMap_cons_some (f := pairOf) (b := (k, v)) rfl, List.filterMap_cons_some (f := pairOf) (b := (k, v)) rfl, ih]
theorem row_arcs (t : Thing) : rowArcs (rowOf t) = thingArcs t := by
  unfold rowArcs thingArcs pairsOf rowOf
  dsimp only
  by_cases h1 : t.sort = "record"
  · rw [if_pos h1, if_pos h1, if_neg (by rw [h1]; decide +kernel), ← filterMap_map']
    exact (congrArg (fun f => List.filterMap f t.parts) (funext fun p => slot_pair t.n p)).symm
  · rw [if_neg h1, if_neg h1]
    by_cases h2 : t.sort = "map"
    · rw [if_pos h2, if_pos h2, if_pos h2, vals_same, ← filterMap_map']
      exact (congrArg (fun f => List.filterMap f t.parts) (funext fun p => entry_pair t.n p)).symm
    · rw [if_neg h2, if_neg h2]
theorem net_arcs (s : Shot) : netArcs (netM s) = arcsOf s := by
  unfold netArcs netM arcsOf
  dsimp only
  rw [List.flatMap_map]
  exact congrArg (fun f => s.roots.map rootArc ++ s.things.flatMap f) (funext row_arcs)
/-- records and maps have pairs with objects -/
def OkRow (r : Row) : Prop := (r.sort = "record" ∧ ∃ ps : List (Int × Int), r.parts = ps.map fun p => .pair p.1 (some p.2)) ∨ (r.sort = "map" ∧ ∃ ps : List (Int × Int), r.parts = ps.map fun p => .pair p.1 (some p.2)) ∨ r.sort = "weak"
theorem pairs_of {r : Row} {ps : List (Int × Int)} (h : r.parts = ps.map fun p => .pair p.1 (some p.2)) : pairsOf r = ps := by
  unfold pairsOf
  rw [h]
  clear h
  induction ps with
  | nil => rfl
  | cons p ps ih => rw [List.map_cons, List.filterMap_cons_some (f := pairOf) (b := p) rfl, ih]
structure OkNet (N : NetM) : Prop where
  rows : ∀ r ∈ N.rows, OkRow r
  nodup : (N.rows.map Row.n).Nodup
  there : ∀ α ∈ netArcs N, α.tgt ∈ N.rows.map Row.n
  many : (netArcs N).length ≤ 1000
  len : N.rows.length ≤ 1000
theorem row_uniq {rs : List Row} (h : (rs.map Row.n).Nodup) {r r' : Row} (m : r ∈ rs) (m' : r' ∈ rs) (e : r.n = r'.n) : r = r' := by
  induction rs with
  | nil => exact absurd m List.not_mem_nil
  | cons x rs ih =>
    rw [List.map_cons] at h
    have hn := List.nodup_cons.mp h
    rcases List.mem_cons.mp m with rfl | m
    · rcases List.mem_cons.mp m' with rfl | m'
      · rfl
      · exact absurd (List.mem_map.mpr ⟨r', m', e.symm⟩) hn.1
    · rcases List.mem_cons.mp m' with q | m'
      · rw [q] at e
        exact absurd (List.mem_map.mpr ⟨r, m, e⟩) hn.1
      · exact ih hn.2 m m'
/-- what waits: values by their keys, in their order -/
def wOf (ps : List (Int × Int)) (n : Int) : List Int := (ps.filter fun p => decide (p.1 = n)).map (·.2)
theorem wOf_snoc (ps : List (Int × Int)) (s n v : Int) : wOf (ps ++ [(s, v)]) n = wOf ps n ++ (if s = n then [v] else []) := by
  unfold wOf
  rw [List.filter_append, List.map_append]
  by_cases h : s = n
  · rw [if_pos h, List.filter_cons_of_pos (p := fun p : Int × Int => decide (p.1 = n)) (decide_eq_true h)]
    rfl
  · rw [if_neg h, List.filter_cons_of_neg (p := fun p : Int × Int => decide (p.1 = n)) (by simpa using h)]
    rfl
theorem wOf_mem {ps : List (Int × Int)} {n v : Int} : v ∈ wOf ps n ↔ (n, v) ∈ ps := by
  unfold wOf
  constructor
  · intro h
    obtain ⟨p, hp, rfl⟩ := List.mem_map.mp h
    have := List.mem_filter.mp hp
    have e : p.1 = n := of_decide_eq_true this.2
    rw [← e]
    exact this.1
  · intro h
    exact List.mem_map.mpr ⟨(n, v), List.mem_filter.mpr ⟨h, decide_eq_true rfl⟩, rfl⟩
theorem wOf_len (ps : List (Int × Int)) (n : Int) : (wOf ps n).length ≤ ps.length := by
  unfold wOf
  rw [List.length_map]
  exact List.length_filter_le _ _
/-- what stands in the rows that are not met -/
def wsum (w : Row → Nat) (rs : List Row) (met : List Int) : Nat := ((rs.filter fun r => decide (r.n ∉ met)).map w).sum
theorem wsum_le (w : Row → Nat) (rs : List Row) (met : List Int) (n : Int) : wsum w rs (met ++ [n]) ≤ wsum w rs met := by
  unfold wsum
  induction rs with
  | nil => exact Nat.le_refl _
  | cons r rs ih =>
    by_cases m : r.n ∈ met
    · rw [List.filter_cons_of_neg (by simp [m]), List.filter_cons_of_neg (by simp [m])]
      exact ih
    · by_cases e : r.n = n
      · rw [List.filter_cons_of_neg (by simp [e]), List.filter_cons_of_pos (by simp [m]), List.map_cons, List.sum_cons]
        omega
      · rw [List.filter_cons_of_pos (by simp [m, e]), List.filter_cons_of_pos (by simp [m]), List.map_cons, List.map_cons, List.sum_cons, List.sum_cons]
        omega
theorem wsum_less (w : Row → Nat) {rs : List Row} {met : List Int} {r : Row} (hr : r ∈ rs) (h : r.n ∉ met) : wsum w rs (met ++ [r.n]) + w r ≤ wsum w rs met := by
  obtain ⟨a, b, rfl⟩ := List.append_of_mem hr
  have h1 := wsum_le w a met r.n
  have h2 := wsum_le w b met r.n
  unfold wsum at *
  rw [List.filter_append, List.filter_append, List.map_append, List.map_append, List.sum_append, List.sum_append, List.filter_cons_of_neg (by simp), List.filter_cons_of_pos (by simp [h]), List.map_cons, List.sum_cons]
  omega
theorem wsum_nil (w : Row → Nat) (rs : List Row) : wsum w rs [] = (rs.map w).sum := by
  unfold wsum
  rw [List.filter_eq_self.mpr (fun r _ => by simp)]
theorem wsum_one_nil (rs : List Row) : wsum (fun _ => 1) rs [] = rs.length := by
  rw [wsum_nil]
  induction rs with
  | nil => rfl
  | cons r rs ih =>
    rw [List.map_cons, List.sum_cons, ih, List.length_cons]
    omega
def adds (r : Row) (met : List Int) : List Int := if r.sort = "record" then (pairsOf r).map (·.2) else if r.sort = "map" then ((pairsOf r).filter fun p => decide (p.1 ∈ met)).map (·.2) else []
def waits (r : Row) (met : List Int) : List (Int × Int) := if r.sort = "map" then (pairsOf r).filter fun p => decide (p.1 ∉ met) else []
theorem filt_both {α : Type} (l : List α) (p : α → Prop) [DecidablePred p] : (l.filter fun x => decide (p x)).length + (l.filter fun x => decide (¬ p x)).length = l.length := by
  induction l with
  | nil => rfl
  | cons x l ih =>
    by_cases h : p x
    · rw [List.filter_cons_of_pos (by simpa using h), List.filter_cons_of_neg (by simpa using h), List.length_cons, List.length_cons]
      omega
    · rw [List.filter_cons_of_neg (by simpa using h), List.filter_cons_of_pos (by simpa using h), List.length_cons, List.length_cons]
      omega
theorem adds_waits (r : Row) (met : List Int) : (adds r met).length + (waits r met).length = (rowArcs r).length := by
  unfold adds waits rowArcs
  by_cases h1 : r.sort = "record"
  · rw [if_pos h1, if_pos h1, if_neg (by rw [h1]; decide +kernel), List.length_map, List.length_map]
    rfl
  · rw [if_neg h1, if_neg h1]
    by_cases h2 : r.sort = "map"
    · rw [if_pos h2, if_pos h2, if_pos h2, List.length_map, List.length_map]
      exact filt_both (pairsOf r) fun p => p.1 ∈ met
    · rw [if_neg h2, if_neg h2, if_neg h2]
      rfl
/-- the state of the worklist: met, ahead, waiting -/
structure WlInv (N : NetM) (B met ys : List Int) (ps : List (Int × Int)) (m : Nat) : Prop where
  live : ∀ n ∈ met, Live ((netArcs N).filter fun α => decide (α.tgt ∉ B)) n
  nodup : met.Nodup
  can : ∀ y ∈ ys, ∃ α ∈ netArcs N, α.tgt = y ∧ ∀ s ∈ α.src, s ∈ met
  wai : ∀ p ∈ ps, ∃ α ∈ netArcs N, α.tgt = p.2 ∧ ∀ s ∈ α.src, s ∈ met ∨ s = p.1
  all : ∀ α ∈ netArcs N, (∀ s ∈ α.src, s ∈ met) → α.tgt ∈ met ∨ α.tgt ∈ ys ∨ α.tgt ∈ B
  wal : ∀ r ∈ N.rows, r.sort = "map" → r.n ∈ met → ∀ p ∈ pairsOf r, p.1 ∉ met → p ∈ ps
  many : met.length + wsum (fun _ => 1) N.rows met ≤ 1000
  me : m = ys.length + wsum (fun r => (rowArcs r).length) N.rows met + (ps.filter fun p => decide (p.1 ∉ met)).length
  le : m ≤ 1000
  pl : ps.length + wsum (fun r => (rowArcs r).length) N.rows met ≤ 1000
theorem arc_cases {N : NetM} {α : Arc} (h : α ∈ netArcs N) : (∃ r ∈ N.roots, α = rootArc r) ∨ (∃ r ∈ N.rows, r.sort = "record" ∧ ∃ p ∈ pairsOf r, α = slotA r.n p) ∨ (∃ r ∈ N.rows, r.sort = "map" ∧ ∃ p ∈ pairsOf r, α = entryA r.n p) := by
  rcases List.mem_append.mp h with h | h
  · obtain ⟨r, hr, rfl⟩ := List.mem_map.mp h
    exact .inl ⟨r, hr, rfl⟩
  · obtain ⟨r, hr, h⟩ := List.mem_flatMap.mp h
    unfold rowArcs at h
    by_cases h1 : r.sort = "record"
    · rw [if_pos h1] at h
      obtain ⟨p, hp, rfl⟩ := List.mem_map.mp h
      exact .inr (.inl ⟨r, hr, h1, p, hp, rfl⟩)
    · rw [if_neg h1] at h
      by_cases h2 : r.sort = "map"
      · rw [if_pos h2] at h
        obtain ⟨p, hp, rfl⟩ := List.mem_map.mp h
        exact .inr (.inr ⟨r, hr, h2, p, hp, rfl⟩)
      · rw [if_neg h2] at h
        exact absurd h List.not_mem_nil
theorem slot_in {N : NetM} {r : Row} (hr : r ∈ N.rows) (h : r.sort = "record") {p : Int × Int} (hp : p ∈ pairsOf r) : slotA r.n p ∈ netArcs N := by
  refine List.mem_append.mpr (.inr (List.mem_flatMap.mpr ⟨r, hr, ?_⟩))
  unfold rowArcs
  rw [if_pos h]
  exact List.mem_map.mpr ⟨p, hp, rfl⟩
theorem entry_in {N : NetM} {r : Row} (hr : r ∈ N.rows) (h : r.sort = "map") {p : Int × Int} (hp : p ∈ pairsOf r) : entryA r.n p ∈ netArcs N := by
  refine List.mem_append.mpr (.inr (List.mem_flatMap.mpr ⟨r, hr, ?_⟩))
  unfold rowArcs
  rw [if_neg (by rw [h]; decide +kernel), if_pos h]
  exact List.mem_map.mpr ⟨p, hp, rfl⟩
theorem WlInv.start {N : NetM} {B : List Int} (ok : OkNet N) : ∃ m, WlInv N B [] (N.roots.map (·.2)) [] m := by
  have h0 : (netArcs N).length = N.roots.length + (N.rows.map fun r => (rowArcs r).length).sum := by
    unfold netArcs
    rw [List.length_append, List.length_map, List.length_flatMap]
  have h1 := ok.many
  refine ⟨_, ⟨fun n h => absurd h List.not_mem_nil, List.nodup_nil, fun y hy => ?_, fun p h => absurd h List.not_mem_nil, fun α ha hs => ?_, fun r _ _ h => absurd h List.not_mem_nil, ?_, rfl, ?_, ?_⟩⟩
  · obtain ⟨r, hr, rfl⟩ := List.mem_map.mp hy
    exact ⟨rootArc r, List.mem_append.mpr (.inl (List.mem_map.mpr ⟨r, hr, rfl⟩)), rfl, fun s h => absurd h List.not_mem_nil⟩
  · rcases arc_cases ha with ⟨r, hr, rfl⟩ | ⟨r, hr, _, p, hp, rfl⟩ | ⟨r, hr, _, p, hp, rfl⟩
    · exact .inr (.inl (List.mem_map.mpr ⟨r, hr, rfl⟩))
    · exact absurd (hs r.n List.mem_cons_self) List.not_mem_nil
    · exact absurd (hs r.n List.mem_cons_self) List.not_mem_nil
  · rw [wsum_one_nil, List.length_nil]
    have := ok.len
    omega
  · rw [wsum_nil, List.length_map, List.filter_nil, List.length_nil]
    omega
  · rw [wsum_nil, List.length_nil]
    omega
/-- popped, but met or barred -/
theorem WlInv.skip {N : NetM} {B met zs : List Int} {n : Int} {ps : List (Int × Int)} {m : Nat} (h : WlInv N B met (zs ++ [n]) ps m) (hn : n ∈ met ∨ n ∈ B) : ∃ m', m' < m ∧ WlInv N B met zs ps m' := by
  have e := h.me
  rw [List.length_append, List.length_singleton] at e
  have l := h.le
  refine ⟨_, ?_, ⟨h.live, h.nodup, fun y hy => h.can y (List.mem_append.mpr (.inl hy)), h.wai, fun α ha hs => ?_, h.wal, h.many, rfl, by omega, h.pl⟩⟩
  · omega
  · rcases h.all α ha hs with z | z | z
    · exact .inl z
    · rcases List.mem_append.mp z with z | z
      · exact .inr (.inl z)
      · rw [List.mem_singleton.mp z]
        rcases hn with q | q
        · exact .inl q
        · exact .inr (.inr q)
    · exact .inr (.inr z)
theorem filt_split (ps : List (Int × Int)) {met : List Int} {n : Int} (hn : n ∉ met) : (ps.filter fun p => decide (p.1 ∉ met)).length = (ps.filter fun p => decide (p.1 ∉ met ++ [n])).length + (wOf ps n).length := by
  unfold wOf
  rw [List.length_map]
  induction ps with
  | nil => rfl
  | cons p ps ih =>
    by_cases e : p.1 = n
    · rw [List.filter_cons_of_pos (by simp [e, hn]), List.filter_cons_of_neg (by simp [e]), List.filter_cons_of_pos (by simp [e]), List.length_cons, List.length_cons]
      omega
    · by_cases m : p.1 ∈ met
      · rw [List.filter_cons_of_neg (by simp [m]), List.filter_cons_of_neg (by simp [m]), List.filter_cons_of_neg (by simp [e])]
        exact ih
      · rw [List.filter_cons_of_pos (by simp [m]), List.filter_cons_of_pos (by simp [m, e]), List.filter_cons_of_neg (by simp [e]), List.length_cons, List.length_cons]
        omega
theorem waits_key {r : Row} {met : List Int} {p : Int × Int} (h : p ∈ waits r met) : r.sort = "map" ∧ p ∈ pairsOf r ∧ p.1 ∉ met := by
  unfold waits at h
  by_cases h2 : r.sort = "map"
  · rw [if_pos h2] at h
    have := List.mem_filter.mp h
    exact ⟨h2, this.1, of_decide_eq_true this.2⟩
  · rw [if_neg h2] at h
    exact absurd h List.not_mem_nil
/-- a new object is met -/
theorem WlInv.step {N : NetM} {B met zs : List Int} {r : Row} {ps : List (Int × Int)} {m : Nat} (ok : OkNet N) (h : WlInv N B met (zs ++ [r.n]) ps m) (hr : r ∈ N.rows) (hm : r.n ∉ met) (hB : r.n ∉ B) :
    ∃ m', m' < m ∧ WlInv N B (met ++ [r.n]) (zs ++ adds r (met ++ [r.n]) ++ wOf (ps ++ waits r (met ++ [r.n])) r.n) (ps ++ waits r (met ++ [r.n])) m' := by
  have e := h.me
  rw [List.length_append, List.length_singleton] at e
  have l := h.le
  have hpl := h.pl
  have w1 := wsum_less (fun _ => 1) hr hm
  have w2 := wsum_less (fun r => (rowArcs r).length) hr hm
  have aw := adds_waits r (met ++ [r.n])
  have fs := filt_split ps hm
  have many := h.many
  have sub : ∀ {s}, s ∈ met → s ∈ met ++ [r.n] := fun q => List.mem_append.mpr (.inl q)
  have self : r.n ∈ met ++ [r.n] := List.mem_append.mpr (.inr List.mem_cons_self)
  have wn : wOf (ps ++ waits r (met ++ [r.n])) r.n = wOf ps r.n := by
    unfold wOf
    rw [List.filter_append, List.filter_eq_nil_iff (l := waits r _) |>.mpr (fun p hp q => ?_), List.append_nil]
    have := (waits_key hp).2.2
    rw [of_decide_eq_true q] at this
    exact this self
  have fw : ((ps ++ waits r (met ++ [r.n])).filter fun p => decide (p.1 ∉ met ++ [r.n])).length = (ps.filter fun p => decide (p.1 ∉ met ++ [r.n])).length + (waits r (met ++ [r.n])).length := by
    rw [List.filter_append, List.length_append, List.filter_eq_self (l := waits r _) |>.mpr (fun p hp => decide_eq_true (waits_key hp).2.2)]
  rw [wn]
  refine ⟨_, ?_, ⟨fun n hn => ?_, ?_, fun y hy => ?_, fun p hp => ?_, fun α ha hs => ?_, fun r' hr' hs hn p hp hk => ?_, ?_, rfl, ?_, ?_⟩⟩
  · rw [fw, List.length_append, List.length_append]
    try dsimp only at w2
    omega
  · rcases List.mem_append.mp hn with z | z
    · exact h.live n z
    · rw [List.mem_singleton.mp z]
      obtain ⟨α, ha, ht, hs⟩ := h.can r.n (List.mem_append.mpr (.inr List.mem_cons_self))
      rw [← ht]
      exact .mk (List.mem_filter.mpr ⟨ha, decide_eq_true (by rw [ht]; exact hB)⟩) fun s q => h.live s (hs s q)
  · rw [List.nodup_append]
    refine ⟨h.nodup, by simp, fun a ha b hb q => ?_⟩
    rw [List.mem_singleton.mp hb] at q
    rw [q] at ha
    exact hm ha
  · rcases List.mem_append.mp hy with z | z
    · rcases List.mem_append.mp z with z | z
      · obtain ⟨α, ha, ht, hs⟩ := h.can y (List.mem_append.mpr (.inl z))
        exact ⟨α, ha, ht, fun s q => sub (hs s q)⟩
      · unfold adds at z
        by_cases h1 : r.sort = "record"
        · rw [if_pos h1] at z
          obtain ⟨p, hp, rfl⟩ := List.mem_map.mp z
          refine ⟨_, slot_in hr h1 hp, rfl, fun s q => ?_⟩
          rw [List.mem_singleton.mp q]
          exact self
        · rw [if_neg h1] at z
          by_cases h2 : r.sort = "map"
          · rw [if_pos h2] at z
            obtain ⟨p, hp, rfl⟩ := List.mem_map.mp z
            have hp2 := List.mem_filter.mp hp
            refine ⟨_, entry_in hr h2 hp2.1, rfl, fun s q => ?_⟩
            rcases List.mem_cons.mp q with rfl | q
            · exact self
            · rw [List.mem_singleton.mp q]
              exact of_decide_eq_true hp2.2
          · rw [if_neg h2] at z
            exact absurd z List.not_mem_nil
    · obtain ⟨α, ha, ht, hs⟩ := h.wai _ (wOf_mem.mp z)
      refine ⟨α, ha, ht, fun s q => ?_⟩
      rcases hs s q with q | q
      · exact sub q
      · rw [q]
        exact self
  · rcases List.mem_append.mp hp with z | z
    · obtain ⟨α, ha, ht, hs⟩ := h.wai p z
      exact ⟨α, ha, ht, fun s q => (hs s q).imp sub id⟩
    · obtain ⟨h2, hp2, _⟩ := waits_key z
      refine ⟨_, entry_in hr h2 hp2, rfl, fun s q => ?_⟩
      rcases List.mem_cons.mp q with rfl | q
      · exact .inl self
      · exact .inr (List.mem_singleton.mp q)
  · have old : (∀ s ∈ α.src, s ∈ met) → α.tgt ∈ met ++ [r.n] ∨ α.tgt ∈ zs ++ adds r (met ++ [r.n]) ++ wOf ps r.n ∨ α.tgt ∈ B := fun q => by
      rcases h.all α ha q with z | z | z
      · exact .inl (sub z)
      · rcases List.mem_append.mp z with z | z
        · exact .inr (.inl (List.mem_append.mpr (.inl (List.mem_append.mpr (.inl z)))))
        · exact .inl (List.mem_append.mpr (.inr z))
      · exact .inr (.inr z)
    have inA : ∀ {v}, v ∈ adds r (met ++ [r.n]) → v ∈ zs ++ adds r (met ++ [r.n]) ++ wOf ps r.n := fun q => List.mem_append.mpr (.inl (List.mem_append.mpr (.inr q)))
    rcases arc_cases ha with ⟨r', hr', rfl⟩ | ⟨r', hr', h1, p, hp, rfl⟩ | ⟨r', hr', h2, p, hp, rfl⟩
    · exact old fun s q => absurd q List.not_mem_nil
    · rcases List.mem_append.mp (hs r'.n List.mem_cons_self) with z | z
      · exact old fun s q => by
          rw [List.mem_singleton.mp q]
          exact z
      · have er := row_uniq ok.nodup hr' hr (List.mem_singleton.mp z)
        subst er
        refine .inr (.inl (inA ?_))
        unfold adds
        rw [if_pos h1]
        exact List.mem_map.mpr ⟨p, hp, rfl⟩
    · have hk := hs p.1 (List.mem_cons_of_mem _ List.mem_cons_self)
      rcases List.mem_append.mp (hs r'.n List.mem_cons_self) with z | z
      · rcases List.mem_append.mp hk with k | k
        · exact old fun s q => by
            rcases List.mem_cons.mp q with rfl | q
            · exact z
            · rw [List.mem_singleton.mp q]
              exact k
        · have k' := List.mem_singleton.mp k
          have hps := h.wal r' hr' h2 z p hp (by rw [k']; exact hm)
          refine .inr (.inl (List.mem_append.mpr (.inr (wOf_mem.mpr ?_))))
          rw [← k']
          exact hps
      · have er := row_uniq ok.nodup hr' hr (List.mem_singleton.mp z)
        subst er
        refine .inr (.inl (inA ?_))
        unfold adds
        rw [if_neg (by rw [h2]; decide +kernel), if_pos h2]
        exact List.mem_map.mpr ⟨p, List.mem_filter.mpr ⟨hp, decide_eq_true hk⟩, rfl⟩
  · rcases List.mem_append.mp hn with z | z
    · exact List.mem_append.mpr (.inl (h.wal r' hr' hs z p hp fun q => hk (sub q)))
    · have er := row_uniq ok.nodup hr' hr (List.mem_singleton.mp z)
      subst er
      refine List.mem_append.mpr (.inr ?_)
      unfold waits
      rw [if_pos hs]
      exact List.mem_filter.mpr ⟨hp, decide_eq_true hk⟩
  · rw [List.length_append, List.length_singleton]
    omega
  · rw [fw, List.length_append, List.length_append]
    try dsimp only at w2
    omega
  · rw [List.length_append]
    try dsimp only at w2
    omega
/-- when nothing is ahead any more -/
theorem WlInv.done {N : NetM} {B met : List Int} {ps : List (Int × Int)} {m : Nat} (h : WlInv N B met [] ps m) : ∀ n, n ∈ met ↔ Live ((netArcs N).filter fun α => decide (α.tgt ∉ B)) n := by
  intro n
  refine ⟨h.live n, fun l => ?_⟩
  refine Live.sub (S := fun n => n ∈ met) (fun α ha hs => ?_) l
  have ha2 := List.mem_filter.mp ha
  rcases h.all α ha2.1 hs with z | z | z
  · exact z
  · exact absurd z List.not_mem_nil
  · exact absurd z (of_decide_eq_true ha2.2)
end Sn
namespace Gd
open PySem PySem.Spec PyProof.Rows L2 SrtO
/-! sorted of tuples of keys, of any length. -/
/-- where they first differ, both are ints or both are texts -/
def Ali : List Key → List Key → Prop
  | a :: r, b :: s => (a = b → Ali r s) ∧ (a ≠ b → a.isLeft = b.isLeft)
  | _, _ => True
def IsKs (h : Heap) (v : Value) (ks : List Key) : Prop := ∃ a o us n, v = .ref a ∧ h.get? a = some o ∧ o.cls = .type "tuple" ∧ o.data = .seq us n ∧ Vals (ks.map kV) us.toList
theorem IsKs.keeps {h h' : Heap} {v : Value} {ks : List Key} (p : IsKs h v ks) (k : ∀ b o, h.get? b = some o → o.cls = .type "tuple" → h'.get? b = some o) : IsKs h' v ks := by
  obtain ⟨a, o, us, n, e, ho, hc, hd⟩ := p
  exact ⟨a, o, us, n, e, k _ _ ho hc, hc, hd⟩
section
variable {prog : Program} {w : World} {A : Around} {E : Value → Shared → Prop} {s : Shared}
theorem oneLt_strs (c : Bool) {p q : Str} {t u : Tok} {Q : Bool → Shared → Prop} (h : Q (decide (p.cps.toList < q.cps.toList)) s) : wpAny (model prog w) A (oneLt' c (.str p t) (.str q u)) Q E s := by
  cases c with
  | true => exact oneLt_str h
  | false => exact PySem.W.kat_one _ _ (PyProof.Rows.lt_str (Q := PySem.W.BoolBack Q) h)
theorem oneLt_is (c : Bool) {p q : Int} {t u : Tok} {Q : Bool → Shared → Prop} (h : Q (decide (p < q)) s) : wpAny (model prog w) A (oneLt' c (.int p t) (.int q u)) Q E s := by
  cases c with
  | true => exact oneLt_int h
  | false => exact PySem.W.kat_one _ _ (PyProof.Rows.lt_int (Q := PySem.W.BoolBack Q) h)
theorem kat_keys {b : Bool} {Q : Bool → Shared → Prop} : ∀ (ks js : List Key) (us vs : List Value) (i : Nat) (fin : Bool), Vals (ks.map kV) us → Vals (js.map kV) vs → Ali ks js → fin = decide (ks.length < js.length) → Q (ksLt ks js) s →
    PySem.W.KatLex prog w A b fin Q (us.zip vs) i s
  | [], [], _, _, i, fin, h1, h2, _, hf, q => by
    cases h1
    rw [hf]
    exact PySem.W.kat_nil q
  | [], _ :: _, _, _, i, fin, h1, h2, _, hf, q => by
    cases h1
    rw [hf]
    exact PySem.W.kat_nil (by simpa [ksLt] using q)
  | _ :: _, [], _, _, i, fin, h1, h2, _, hf, q => by
    cases h2
    rw [List.zip_nil_right, hf]
    exact PySem.W.kat_nil (by simpa [ksLt] using q)
  | a :: ks, c :: js, _, _, i, fin, h1, h2, al, hf, q => by
    cases h1 with
    | cons r1 h1 =>
      cases h2 with
      | cons r2 h2 =>
        rw [ksLt] at q
        have hf2 : fin = decide (ks.length < js.length) := by
          rw [hf, List.length_cons, List.length_cons]
          exact decide_eq_decide.mpr (by omega)
        rw [List.zip_cons_cons]
        match a, c, r1, r2, al, q with
        | .inl x, .inl y, r1, r2, al, q =>
          obtain ⟨t, rfl⟩ := r1
          obtain ⟨u, rfl⟩ := r2
          refine PySem.W.kat_cons (SeqAt.EqAt.int_int x t y u prog w _ _ ?_)
          refine PySem.W.kat_go (fun e => ?_) (fun e => ?_)
          · have ex : x = y := by simpa using e
            subst ex
            rw [if_pos rfl] at q
            exact PySem.W.kat_yes (kat_keys ks js _ _ (i + 1) fin h1 h2 (al.1 rfl) hf2 q)
          · have ex : ¬ x = y := by simpa using e
            rw [if_neg (fun z => ex (Sum.inl.inj z))] at q
            exact PySem.W.kat_no (oneLt_is _ q)
        | .inr x, .inr y, r1, r2, al, q =>
          obtain ⟨t, rfl⟩ := r1
          obtain ⟨u, rfl⟩ := r2
          refine PySem.W.kat_cons (SeqAt.EqAt.str_str x t y u prog w _ _ ?_)
          refine PySem.W.kat_go (fun e => ?_) (fun e => ?_)
          · have ex : x = y := by simpa using e
            subst ex
            rw [if_pos rfl] at q
            exact PySem.W.kat_yes (kat_keys ks js _ _ (i + 1) fin h1 h2 (al.1 rfl) hf2 q)
          · have ex : ¬ x = y := by simpa using e
            rw [if_neg (fun z => ex (Sum.inr.inj z))] at q
            exact PySem.W.kat_no (oneLt_strs _ q)
        | .inl x, .inr y, _, _, al, _ => exact absurd (al.2 (fun z => nomatch z)) (by simp)
        | .inr x, .inl y, _, _, al, _ => exact absurd (al.2 (fun z => nomatch z)) (by simp)
theorem swo_ks {α : Type} (k : α → List Key) : Swo fun v u => ksLt (k v) (k u) := ⟨fun _ _ h => ksLt_as h, fun _ _ _ h g => ksLt_ntr g h⟩
theorem keys_cmp {vs : List Value} {k : Value → List Key} (hp : ∀ v ∈ vs, IsKs s.heap v (k v)) (al : ∀ v ∈ vs, ∀ u ∈ vs, Ali (k v) (k u)) : Cmp prog w A s (tuples' true) (fun p => p.1 ∈ vs) (lt2 fun v u => ksLt (k v) (k u)) := by
  intro p q hm hm'
  have h1 := hp _ hm
  have h2 := hp _ hm'
  have h3 := al _ hm _ hm'
  show wpAny (model prog w) A (keyLt' (tuples' true) p.1 q.1) (fun r s' => s' = s ∧ r = ksLt (k p.1) (k q.1)) (fun _ _ => False) s
  generalize k p.1 = ks at h1 h3 ⊢
  generalize k q.1 = js at h2 h3 ⊢
  obtain ⟨a, o, us, n, e, ho, hc, hd, r1⟩ := h1
  obtain ⟨a', o', us', n', e', ho', hc', hd', r2⟩ := h2
  rw [e, e']
  refine PySem.W.kat_lt ho hd ho' hd' ?_
  refine kat_keys ks js _ _ 0 _ r1 r2 h3 ?_ ⟨rfl, rfl⟩
  have l1 := r1.length
  have l2 := r2.length
  rw [List.length_map] at l1 l2
  rw [l1, l2, Array.length_toList, Array.length_toList]
theorem firsts_ks {h : Heap} {k : Value → List Key} : ∀ {vs : List Value}, (∀ v ∈ vs, IsKs h v (k v) ∧ ∃ z r, k v = .inr z :: r) → ∃ fs : List Value, PySem.W.KatTups h vs fs ∧ fs.length = vs.length ∧ ∀ f ∈ fs, ∃ x t, f = Value.str x t
  | [], _ => ⟨[], PySem.W.KatTups.nil, rfl, fun _ hm => by simp at hm⟩
  | v :: vs, hp => by
    obtain ⟨fs, h1, h2, h3⟩ := firsts_ks (vs := vs) fun v' hm => hp v' (List.mem_cons_of_mem _ hm)
    obtain ⟨⟨a, o, us, n, e, ho, hc, hd, rel⟩, z, r, ek⟩ := hp v (List.mem_cons_self ..)
    subst e
    rw [ek] at rel
    obtain ⟨u0, e0, t, rfl⟩ := rel.get (i := 0) (x := .str z) rfl
    refine ⟨.str z t :: fs, PySem.W.KatTups.cons ho hc hd (by rw [← Array.getElem?_toList]; exact e0) h1, by rw [List.length_cons, List.length_cons, h2], fun f hm => ?_⟩
    rcases List.mem_cons.mp hm with rfl | hm
    · exact ⟨z, t, rfl⟩
    · exact h3 f hm
theorem keys_sortable {a : Addr} {vs : List Value} {k : Value → List Key} (h0 : 0 < vs.length) (hp : ∀ v ∈ vs, IsKs s.heap v (k v) ∧ ∃ z r, k v = .inr z :: r) (al : ∀ v ∈ vs, ∀ u ∈ vs, Ali (k v) (k u)) (ha : ∀ o, s.heap.get? a = some o → o.cls ≠ .type "tuple") :
    SortableO prog w A s a vs fun v u => ksLt (k v) (k u) := by
  intro h' keep
  have hp' : ∀ v ∈ vs, IsKs h' v (k v) ∧ ∃ z r, k v = .inr z :: r := fun v hm => ⟨(hp v hm).1.keeps fun b o e c => keep b o (fun z => by subst z; exact ha o e c) e, (hp v hm).2⟩
  obtain ⟨fs, h1, h2, h3⟩ := firsts_ks hp'
  refine ⟨tuples' true, fun Q E hq => ?_, keys_cmp (fun v hm => (hp' v hm).1) al⟩
  refine PySem.W.kat_kind (T := .type "str") h1 (by omega) (fun f hm => ?_) (by rfl) ?_
  · obtain ⟨x, t, rfl⟩ := h3 f hm
    exact PySem.W.Looks.now
  · have e : (Value.type "str" != Value.type "tuple") = true := by first | decide +kernel | rfl | decide
    rw [e]
    exact hq
theorem sorted_keys {l : Addr} {vs : List Value} {k : Value → List Key} {Q : Value → Shared → Prop} (hl : s.heap.IsList l vs.toArray) (hz : vs.length ≤ sizeLine) (hp : ∀ v ∈ vs, IsKs s.heap v (k v) ∧ ∃ z r, k v = .inr z :: r) (al : ∀ v ∈ vs, ∀ u ∈ vs, Ali (k v) (k u))
    (h : ∀ (h' : Heap) (d : Addr) (out : List Value), Srtd (fun v u => ksLt (k v) (k u)) out → Stb (fun v u => ksLt (k v) (k u)) out vs → (∀ b o, s.heap.get? b = some o → h'.get? b = some o) → s.heap.objs.size ≤ d → (∃ n, h'.get? d = some (seqObj "list" out.toArray n)) → Q (.ref d) { s with heap := h' }) :
    wpAny (model prog w) A (call (.builtin "sorted") [.ref l]) Q E s := by
  refine sorted_ord (swo_ks k) hl hz (fun h2 h₁ a ha kk => ?_) fun out hs hb => ?_
  · refine keys_sortable (s := { s with heap := h₁ }) (by omega) (fun v hm => ⟨(hp v hm).1.keeps fun b o e _ => (kk b o e).2, (hp v hm).2⟩) al fun o e => ?_
    have e' : some o = some (seqObj "list" vs.toArray 0) := e.symm.trans ha
    cases e'
    intro c
    exact absurd (Value.type.inj c) (by decide)
  · exact h _ _ out hs hb (fun b o e => sortedAll_old e) (Nat.le_succ _) (sortedAll_at s.heap vs out.toArray)
end
abbrev ltK (k : V → List Key) (x y : V) : Bool := ksLt (k x) (k y)
/-- sorted(xs), xs a list of tuples of keys (k says which), each with a text ahead -/
def rSortedK (K : PySem.W.Frag) : List V → Hp → VK → Prop := fun vs H Q => ∃ (a : Addr) (xs : List V) (k : V → List Key), vs = [V.ref a] ∧ SqL K H a xs ∧ (∀ x ∈ xs, ∃ t z r, x = V.ref t ∧ k x = .inr z :: r ∧ H t = some (.tup ((k x).map kV))) ∧
  (∀ x ∈ xs, ∀ y ∈ xs, Ali (k x) (k y)) ∧ ∀ ys p, SrtO.Srtd (ltK k) ys → SrtO.Stb (ltK k) ys xs → H p = none → Q (.ref p) (upd H p (.lst ys))
section
variable {X : Cx}
theorem cr_sortedK : CallR X (.builtin "sorted") (rSortedK X.K) := by
  intro pins s σ H vs us Q I r h
  obtain ⟨a, xs, k, rfl, hs, hx, al, q⟩ := h
  obtain ⟨its, rv, hl, hz⟩ := I.list hs
  obtain ⟨u, rfl, ru⟩ := vals1 r
  obtain rfl : u = Value.ref a := ru
  obtain ⟨e1, e2⟩ := refs_back rv fun x m => by
    obtain ⟨t, _, _, e, _⟩ := hx x m
    exact ⟨t, e⟩
  have inx : ∀ v ∈ its, backV v ∈ xs := fun v hv => by rw [e1]; exact List.mem_map.mpr ⟨_, hv, rfl⟩
  refine sorted_keys (k := fun u => k (backV u)) hl.isList (by rw [← rv.length]; exact hz) (fun v hv => ?_) (fun v hv u hu => al _ (inx v hv) _ (inx u hu)) fun h' d out h1 h2 kp hd hn => ?_
  · obtain ⟨t, rfl⟩ := e2 v hv
    obtain ⟨t', z, r, e, ek, ht⟩ := hx _ (inx _ hv)
    cases e
    obtain ⟨_, its2, r2, o, ho, hc, n, hd⟩ := I.hok _ _ ht
    exact ⟨⟨t, o, its2.toArray, n, rfl, ho, hc, hd, r2⟩, z, r, ek⟩
  · have h3 : ∀ u ∈ out, ∃ a, u = Value.ref a := fun u hu => e2 u (h2.perm.mem_iff.mp hu)
    obtain ⟨n, hn⟩ := hn
    have hb : SrtO.Stb (ltK k) (out.map backV) xs := by
      rw [e1]
      exact SrtO.Stb.map (swo_ks k) backV h2
    refine ⟨.ref d, upd H d (.lst (out.map backV)), I.laid (t' := s.toks) kp hd ⟨?_, out, n, vals_back h3, hn⟩, rfl, q _ d (SrtO.srtd_map h1) hb (I.hok.fresh hd)⟩
    rw [hb.len]
    exact hz
end
end Gd
/-! Promises of defs that run where no repr is under way, the law's end for such a promise, repr of data. -/
namespace Gd
open PySem PySem.Spec PyProof.Rows L2
/-- a promise that is kept wherever no repr is under way -/
structure FnG (P : Program) (w : World) (K : PySem.W.Frag) (mg : Str → Option Value) (base : Heap) (CX : CXT) (k : Nat) (f : Addr) (fd : FuncData) (ps : List Str) (sp : Sp) : Prop where
  arity : ∀ vs H Q E, sp vs H Q E → vs.length = ps.length
  go : ∀ A, Room k A → A.guards = some [] → ∀ outer s H args us vs Q E, Env0 P w K mg base A outer s H →
    BindsTo s fd args (ps.zip us) → Vals vs us → sp vs H Q E →
      codeAny (model P w) A (.call (.ref f) args) (CR CX outer P w H s Q E) s
section
variable {P : Program} {w : World} {K : PySem.W.Frag} {mg : Str → Option Value} {base : Heap} {CX : CXT} {k : Nat} {f : Addr} {fd : FuncData} {ps : List Str} {sp : Sp}
theorem FnG.of (F : FnOk P w K mg base CX k f fd ps sp) : FnG P w K mg base CX k f fd ps sp :=
  ⟨F.len, fun A r _ outer s H args us vs Q E e b v p => F.run A outer s H args us vs Q E r e b v p⟩
theorem FnG.up {j : Nat} (F : FnG P w K mg base CX j f fd ps sp) (h : j ≤ k) : FnG P w K mg base CX k f fd ps sp :=
  ⟨F.arity, fun A r g => F.go A (r.mono h) g⟩
/-- from the body, which may know that no repr is under way -/
theorem fng_of {x qual : Str} {st : Stmt} {N : List Str} (F : Fun K x qual st f fd) (S : FnScope N ps (defScope st)) (ar : ∀ vs H Q E, sp vs H Q E → vs.length = ps.length)
    (body : ∀ (cdv : Value) (A : Around) (outer : List Env) (s : Shared) (H : Hp) (vs : List V) (Q : VK) (E : XK), Room k (A.deeper (envOfC qual (defScope st) s.heap.objs.size f cdv)) → A.guards = some [] → sp vs H Q E →
      ∃ t, PSs (cxOf CX P w K mg base N qual (defScope st) f cdv A outer s H E) (defBody st) t ∧ t { nx := fun _ H' => Q .non H', rt := Q } (start N vs) H) :
    FnG P w K mg base CX (k + 1) f fd ps sp := by
  obtain ⟨⟨oc, od, kV, doc, pm, an, cdv, ct, osl, rfl, look, code⟩, _⟩ := F
  refine ⟨ar, fun A room gd outer s H args us vs Q E env bind rel want => ?_⟩
  have inK : K.In s.heap := env.mod.kin.keeps (fun b o h => (env.bs b o h).1)
  have free : s.heap.NoLimit := env.mod.nolimit.keeps (fun b o h => (env.bs b o h).1)
  have hv := ar vs H Q E want
  refine Att.call_fn inK free look code room.depth bind ?_ (fun s1 inside => ?_) S.co S.gen S.kind
  · refine List.all_eq_true.mpr fun y hy => ?_
    have hp := S.par y.1 (List.of_mem_zip (show (y.1, y.2) ∈ ps.zip us from hy)).1
    rcases hp with q | q
    · rw [q]; rfl
    · rw [q]; rfl
  · obtain ⟨t, derive, reads⟩ := body cdv A outer s H vs Q E (room.deeper _) gd want
    have inv := inv_start (CX := CX) (E := E) S room.hd env hv rel inside
    refine wpAny_mono (derive.run [] s1 (start N vs) H _ inv reads) ?_ (fun _ _ left => left)
    intro flow s2 post
    cases flow with
    | brk => exact (post.choose_spec.choose_spec).2.elim
    | cont => exact (post.choose_spec.choose_spec).2.elim
    | next =>
      obtain ⟨_, H2, J, q⟩ := post
      exact ⟨.non, H2, J.os, J.bare, J.base, J.hok, rfl, q⟩
    | ret u =>
      obtain ⟨v, _, H2, J, rv, q⟩ := post
      exact ⟨v, H2, J.os, J.bare, J.base, J.hok, rv, q⟩
end
end Gd
namespace Gd
open PySem PySem.Spec PyProof.Rows L2
section
variable {X : Cx} {CX : CXT} {k : Nat} {f : Addr} {fd : FuncData} {ps : List Str} {sp : Sp} {dvs : List V} {ds : List Value} {E : XK}
/-- the callee runs, as run_fn says it, where no repr is under way -/
theorem runG {pins : List (Addr × Obj)} {σ : L2.St} {H : Hp} {s : Shared} {Q : VK} {us : List Value} {vs : List V} (F : FnG X.prog X.w X.K X.mg X.base CX k f fd ps sp) (room : Room k X.A) (gd : X.A.guards = some [])
    (bind : Binds X.K fd ps ds) (dflt : Vals dvs ds) (pass : Passes CX X E) (I : Inv X pins σ H s) (rel : Vals vs us) (want : sp (vs ++ dvs) H Q E) :
    wpAny (model X.prog X.w) X.A (call (.ref f) us) (EP X pins σ Q) X.xe s := by
  have rel2 := rel.append dflt
  have many : (us ++ ds).length = ps.length := rel2.length.symm.trans (F.arity _ _ _ _ want)
  have ran := F.go X.A room gd X.stack s H ⟨us, []⟩ _ _ Q E I.env0 (bind s us I.kIn many) rel2 want
  refine wpAny_call (codeAny_mono ran ?_)
  intro r s2 post
  rcases r with err | flow
  · exact pass _ _ _ _ _ _ I post
  · cases flow with
    | ret u => exact I.after post
    | next => exact post.elim
    | brk => exact post.elim
    | cont => exact post.elim
theorem pe_callG {x : Str} {p pos : Pos} {e : Expr} {es : List Expr} {t : TA} (F : FnG X.prog X.w X.K X.mg X.base CX k f fd ps sp) (room : Room k X.A) (gd : X.A.guards = some []) (isGl : Gl X x) (at_ : X.mg x = some (.ref f))
    (kept : PySem.W.keepIn X.K (.ref f) = true) (bind : Binds X.K fd ps ds) (dflt : Vals dvs ds) (pass : Passes CX X E)
    (args : PA X (e :: es) t) (nodbg : (x == ("__debug__" : Str)) = false := by decide) (star : starEach (e :: es) X.env = (false, eval e X.env) :: starEach es X.env := by rfl) (plain : (backTo pos (starEach es X.env)).any (·.1) = false := by rfl) :
    PE X (.Call (.Name x p) (e :: es) [] pos) (tCall sp dvs E t) := by
  constructor
  intro pins s σ H Q I want
  refine wpAny_Call_Name_kw (ld_glob I isGl at_ ?_ nodbg)
  refine PySem.W.callWith_K (h₀ := X.base) I.ok.mod.kin kept ?_ star plain
  refine thn (args.run pos pins s σ H _ I want) ?_
  rintro us s1 ⟨vs, H1, I1, rel, q⟩
  exact ⟨I1.kIn, runG F room gd bind dflt pass I1 rel q⟩
end
/-! ### the law's end -/
/-- the script as the only thing that is tracked -/
def scriptAt (a : Addr) (o : Obj) (xs : List V) : Hp := fun b => if b = a then some (.frz o (.lst xs)) else none
theorem scriptAt_same {a : Addr} {o : Obj} {xs : List V} : scriptAt a o xs a = some (.frz o (.lst xs)) := if_pos rfl
theorem scriptAt_some {a b : Addr} {o : Obj} {xs : List V} {u : HO} (h : scriptAt a o xs b = some u) : b = a ∧ u = .frz o (.lst xs) := by
  unfold scriptAt at h
  by_cases e : b = a
  · rw [if_pos e] at h
    exact ⟨e, (Option.some.inj h).symm⟩
  · rw [if_neg e] at h
    cases h
theorem scriptAt_ne {a b : Addr} {o : Obj} {xs : List V} (h : b ≠ a) : scriptAt a o xs b = none := if_neg h
section
variable {P : Program} {w : World} {K : PySem.W.Frag} {mg mb : Str → Option Value} {CX : CXT} {k : Nat} {fa a : Addr} {fd : FuncData} {x : Str} {sp : Sp} {s1 : Shared} {vs : List Value} {ns : List Int}
/-- the law's call, from an abstract heap that tracks at most the script -/
theorem law_from {H : Hp} {o : Obj} (own : ∀ b u, H b = some u → b = a ∧ u = .frz o (.lst (ns.map V.int))) (offK : H a ≠ none → K.lookup a = none)
    (inK : K.In s1.heap) (glob : s1.heap.Ns mainGlobals mg) (blt : s1.heap.Ns builtinsNs mb) (std : ∀ x : Str, x ≠ "__name__" → mb x = bootBuiltins x) (free : s1.heap.NoLimit) (nogen : s1.gens = #[])
    (here : s1.heap.get? a = some { cls := .type "list", data := .seq vs.toArray }) (ho : o = { cls := .type "list", data := .seq vs.toArray }) (ok : HOk P w H s1.heap) (room : Room k callerA)
    (F : ∀ base : Heap, K.In base → base.Ns mainGlobals mg → FnG P w K mg base CX k fa fd [x] sp) (bind : ∀ (s : Shared) (u : Value), BindsTo s fd ⟨[u], []⟩ [(x, u)])
    (want : sp [.ref a] H (fun v _ => v = .bl true) fun _ _ _ => False) (noX : ∀ e s2, CX [] H s1 (fun _ _ _ => False) e s2 → False) :
    codeAny (model P w) callerA (.call (.ref fa) ⟨[.ref a], []⟩) (fun r s2 => r = .ok (.ret (.bool true)) ∧ OldK s1.heap s2.heap ∧ s2.os = s1.os ∧ AllBare s2.gens) s1 := by
  have dicts : ∀ {b : Addr} {m : Str → Option Value}, s1.heap.Ns b m → (hidT s1.heap H).Ns b m := by
    rintro b m ⟨ob, es, ep, gb, isD, r⟩
    refine ⟨ob, es, ep, hidT_get gb ?_, isD, r⟩
    cases hb : H b with
    | none => rfl
    | some u =>
      obtain ⟨rfl, _⟩ := own b u hb
      rw [here] at gb
      have e := Option.some.inj gb
      rw [← e] at isD
      cases isD
  have inB : K.In (hidT s1.heap H) := by
    intro b ob hb
    refine hidT_get (inK b ob hb) ?_
    cases hh : H b with
    | none => rfl
    | some u =>
      obtain ⟨rfl, _⟩ := own b u hh
      rw [offK (by rw [hh]; exact Option.some_ne_none _)] at hb
      cases hb
  have md : Mod K mg (hidT s1.heap H) := ⟨inB, dicts glob, ⟨mb, dicts blt, std⟩, free.imp fun _ h => ⟨dicts h.1, h.2⟩⟩
  have env : Env0 P w K mg (hidT s1.heap H) callerA [] s1 H := by
    refine ⟨rfl, md, fun b ob hb => of_hidT hb, Nat.le_of_eq (hidT_size _ _), trivial, ?_, ok, .of_eq nogen⟩
    intro b hb
    cases hb
  have ran := (F _ inB (dicts glob)).go callerA room rfl [] s1 H ⟨[.ref a], []⟩ [.ref a] [.ref a] _ _ env (bind s1 (.ref a)) (.cons rfl .nil) want
  refine codeAny_mono ran ?_
  intro r s2 post
  rcases r with err | flow
  · exact (noX _ _ post).elim
  · cases flow with
    | next => exact post.elim
    | brk => exact post.elim
    | cont => exact post.elim
    | ret u =>
      obtain ⟨v, H2, eos, eb, ch, ok2, rv, rfl⟩ := post
      have eu : u = Value.bool true := rv
      refine ⟨by rw [eu], OldK.of_keep (fun b ob hb => ?_), eos, eb⟩
      cases hh : H b with
      | none => exact ch.keep b ob hb hh (fun z => nomatch z) (fun z => nomatch z)
      | some u2 =>
        obtain ⟨rfl, rfl⟩ := own b u2 hh
        have a1 := (ok b _ hh).1
        have a2 := (ok2 b _ (ch.frzs b o _ hh)).1
        rw [hb] at a1
        exact a2.trans a1.symm
theorem law_callG (inK : K.In s1.heap) (glob : s1.heap.Ns mainGlobals mg) (blt : s1.heap.Ns builtinsNs mb) (std : ∀ x : Str, x ≠ "__name__" → mb x = bootBuiltins x) (free : s1.heap.NoLimit) (nogen : s1.gens = #[])
    (here : s1.heap.get? a = some { cls := .type "list", data := .seq vs.toArray }) (isI : IntsAre vs ns) (many : ns.length ≤ sizeLine) (room : Room k callerA)
    (F : ∀ base : Heap, K.In base → base.Ns mainGlobals mg → FnG P w K mg base CX k fa fd [x] sp) (bind : ∀ (s : Shared) (u : Value), BindsTo s fd ⟨[u], []⟩ [(x, u)])
    (want : ∀ H : Hp, Only H → SqL K H a (ns.map V.int) → sp [.ref a] H (fun v _ => v = .bl true) fun _ _ _ => False) (noX : ∀ H e s2, CX [] H s1 (fun _ _ _ => False) e s2 → False) :
    codeAny (model P w) callerA (.call (.ref fa) ⟨[.ref a], []⟩) (fun r s2 => r = .ok (.ret (.bool true)) ∧ OldK s1.heap s2.heap ∧ s2.os = s1.os ∧ AllBare s2.gens) s1 := by
  have rel := vals_ints isI
  cases inMod : K.lookup a with
  | some o =>
    have same : o = { cls := .type "list", data := .seq vs.toArray } := Option.some.inj ((inK a o inMod).symm.trans here)
    subst same
    have sq : SqL K (fun _ => none) a (ns.map V.int) := .inr ⟨_, vs.toArray, _, inMod, rfl, rfl, rfl, by rw [List.size_toArray, isI.length]; exact many, by simpa using rel⟩
    refine law_from (H := fun _ => none) (o := { cls := .type "list", data := .seq vs.toArray }) (ns := ns) (fun _ _ h => nomatch h) (fun h => absurd rfl h) inK glob blt std free nogen here rfl (fun _ _ h => nomatch h) room F bind (want _ (fun _ => .inl rfl) sq) (noX _)
  | none =>
    refine law_from (H := scriptAt a { cls := .type "list", data := .seq vs.toArray } (ns.map V.int)) (fun _ _ h => scriptAt_some h) (fun _ => inMod) inK glob blt std free nogen here rfl ?_ room F bind (want _ (fun b => ?_) (.inl (.inr ⟨_, scriptAt_same⟩))) (noX _)
    · intro b u h
      obtain ⟨rfl, rfl⟩ := scriptAt_some h
      exact ⟨here, by rw [List.length_map]; exact many, vs, _, rel, here⟩
    · cases h : scriptAt a { cls := .type "list", data := .seq vs.toArray } (ns.map V.int) b with
      | none => exact .inl rfl
      | some u => exact .inr ⟨_, _, by rw [(scriptAt_some h).2]⟩
end
/-- what k_head leaves, from a promise that is kept where no repr is under way -/
theorem walkG {l : PySem.W.OpenLaw} {n k : Nat} {q : Program} {loose : List Str} {XP : (Str → Option Value) → Heap → Prop} {YP : World → Heap → Prop} {d : DefRec} {K : Params → PySem.W.Frag} {CX : World → CXT} {sp : World → Sp} {x : Str}
    (most : l.most = some n) (small : n ≤ sizeLine) (nodef : d.params.defaults = []) (room : Room k callerA) (kin : ∀ (w : World) (h : Heap), YP w h → (K w.params).In h)
    (F : ∀ (w : World) (mg : Str → Option Value) (fa : Addr) (h : Heap), (K w.params).In h → h.Ns mainGlobals mg → mg d.name = some (.ref fa) →
      ∃ fd : FuncData, (∀ (s : Shared) (u : Value), BindsTo s fd ⟨[u], []⟩ [(x, u)]) ∧ ∀ base : Heap, (K w.params).In base → base.Ns mainGlobals mg → FnG l.prog w (K w.params) mg base (CX w) k fa fd [x] (sp w))
    (want : ∀ (w : World) (H : Hp) (a : Addr) (ns : List Int), ns.length ≤ n → Only H → SqL (K w.params) H a (ns.map V.int) → sp w [.ref a] H (fun v _ => v = .bl true) fun _ _ _ => False)
    (noX : ∀ (w : World) (H : Hp) (s : Shared) (e : Value) (s2 : Shared), CX w [] H s (fun _ _ _ => False) e s2 → False) :
    PySem.W.WalkO q loose XP YP l.row.toRowW d [] (fun f vs => PySem.call f vs) := by
  apply Att.attach_call most nodef
  intro w s0 s1 mg mb fa o pm cd doc a vs ns G Y go isF code named here isI many nogen
  have inK := kin w _ Y
  obtain ⟨fd, bind, hF⟩ := F w mg fa _ inK G.T.g named
  exact law_callG inK G.T.g G.T.b G.T.builtins G.T.nolimit nogen here isI (Nat.le_trans many small) room hF bind (fun H only sq => want w H a ns many only sq) (fun H e s2 => noX w H s1 e s2)
section
variable {X : Cx}
/-- repr of data without dicts -/
def rReprD (K : PySem.W.Frag) : List V → Hp → VK → Prop := fun xs H Q => ∃ x d, xs = [x] ∧ Dp K H x d ∧ d.showable = true ∧ d.hasDict = false ∧ d.depth ≤ 40 ∧ d.shown.length ≤ sizeLine ∧ Q (.str d.shown) H
theorem call_reprD (gd : X.A.guards = some []) (un : X.A.units + 64 < cLine) : CallR X (.builtin "repr") (rReprD X.K) := by
  rintro pins s σ H xs us Q I rel ⟨x, d, rfl, hd, sh, nod, dep, sz, q⟩
  obtain ⟨u, rfl, rv⟩ := vals1 rel
  obtain ⟨as, reads⟩ := Dp.reads I d x u hd rv
  cases hd with
  | non =>
    cases rv
    refine PySem.P.repr_of_none ?_
    exact ⟨.str "None", H, I.tok _, ⟨_, rfl⟩, q⟩
  | bl b =>
    cases rv
    refine PySem.P.repr_of_bool ?_
    exact ⟨.str (if b then "True" else "False"), H, I.tok _, ⟨_, rfl⟩, q⟩
  | int i =>
    obtain ⟨t, rfl⟩ := rv
    refine PySem.P.repr_of_int ?_ ⟨.str _, H, I.tok _, ⟨_, rfl⟩, q⟩
    simpa [PyData.showable] using sh
  | str z =>
    obtain ⟨t, rfl⟩ := rv
    exact PySem.P.repr_of_str ⟨.str _, H, I.tok _, ⟨_, rfl⟩, q⟩ sz
  | lst h1 h2 =>
    cases rv
    exact repr_of_reads' reads sh (PyData.noDict_hsm nod) gd (by omega) (fun _ _ e => e) (fun h2 u2 tk keep => ⟨.str _, H, I.kept keep, ⟨u2, rfl⟩, q⟩) sz
  | tup h1 h2 =>
    cases rv
    exact repr_of_reads' reads sh (PyData.noDict_hsm nod) gd (by omega) (fun _ _ e => e) (fun h2 u2 tk keep => ⟨.str _, H, I.kept keep, ⟨u2, rfl⟩, q⟩) sz
end
end Gd
namespace Gd
open PySem PySem.Spec PyProof.Rows L2
/-- f(k = v, ..), keywords alone -/
theorem pe_kwOnly {X : Cx} {CX : CXT} {k : Nat} {f : Addr} {fd : FuncData} {ps ks : List Str} {sp : Sp} {E : XK} {x : Str} {p pos : Pos} {kws : List Keyword} {tk : TA} {g : List Value → List Value → List Value} {gV : List V → List V → List V}
    (F : FnOk X.prog X.w X.K X.mg X.base CX k f fd ps sp) (room : Room k X.A) (isGl : Gl X x) (at_ : X.mg x = some (.ref f)) (kept : PySem.W.keepIn X.K (.ref f) = true) (bind : KBinds X.K fd ps ks g gV) (pass : Passes CX X E)
    (words : PK X kws tk) (every : (backToKw pos (keywordEach kws X.env)).all (·.1.isSome) = true := by rfl) (names : (backToKw pos (keywordEach kws X.env)).filterMap (·.1) = ks := by rfl) (nodbg : (x == ("__debug__" : Str)) = false := by decide)
    (plain : ((backTo pos (starEach [] X.env)).any (·.1) || (backToKw pos (keywordEach kws X.env)).any (·.1.isNone)) = false := by rfl) :
    PE X (.Call (.Name x p) [] kws pos) (tCallK sp gV E tNil tk) := by
  constructor
  intro pins s σ H Q I want
  refine wpAny_Call_Name_kw (ld_glob I isGl at_ ?_ nodbg)
  refine PySem.W.callWith_KW0 (h₀ := X.base) I.ok.mod.kin kept every ?_ plain
  refine thn (words.run pos pins s σ H _ I want) ?_
  rintro ws s2 ⟨zs, H2, I2, rel, q⟩
  refine ⟨I2.kIn, ?_⟩
  rw [names]
  exact run_fnk (us := []) (vs := []) F room bind pass I2 .nil rel q
end Gd
namespace Gd
open PySem PySem.Spec PyProof.Rows L2
/-- as fng_of, where nothing leaves the body -/
theorem fng0_of {P : Program} {w : World} {K : PySem.W.Frag} {mg : Str → Option Value} {base : Heap} {k : Nat} {f : Addr} {fd : FuncData} {ps : List Str} {sp : Sp} {x qual : Str} {st : Stmt} {N : List Str} (F : Fun K x qual st f fd) (S : FnScope N ps (defScope st)) (ar : ∀ vs H Q E, sp vs H Q E → vs.length = ps.length)
    (body : ∀ (cdv : Value) (A : Around) (outer : List Env) (s : Shared) (H : Hp) (vs : List V) (Q : VK) (E : XK), Room k (A.deeper (envOfC qual (defScope st) s.heap.objs.size f cdv)) → A.guards = some [] → sp vs H Q E →
      ∃ t, PSs (cxOf CX0 P w K mg base N qual (defScope st) f cdv A outer s H E).nox (defBody st) t ∧ t { nx := fun _ H' => Q .non H', rt := Q } (start N vs) H) :
    FnG P w K mg base CX0 (k + 1) f fd ps sp :=
  fng_of F S ar fun cdv A outer s H vs Q E room gd want => by
    obtain ⟨t, d, r⟩ := body cdv A outer s H vs Q E room gd want
    exact ⟨t, d.nox, r⟩
end Gd
namespace Gd
open PySem PySem.Spec PyProof.Rows L2
/-! Facts of the data of a tuple of small ints. -/
theorem ints_show : ∀ ns : List Int, (∀ n ∈ ns, n.natAbs < 10 ^ 9) → PyData.showableAll (ns.map .int) = true
  | [], _ => rfl
  | n :: r, h => by
    rw [List.map_cons, PyData.showableAll, ints_show r fun m hm => h m (List.mem_cons_of_mem _ hm), Bool.and_true]
    rw [PyData.showable]
    refine decide_eq_true ?_
    have h1 := h n List.mem_cons_self
    by_cases z : n.natAbs = 0
    · rw [z]
      decide
    · exact Nat.lt_of_lt_of_le ((Nat.log2_lt z).mpr (Nat.lt_of_lt_of_le h1 (by decide : (10 : Nat) ^ 9 ≤ 2 ^ 30))) (by decide)
theorem ints_noDict : ∀ ns : List Int, PyData.hasDictAll (ns.map .int) = false
  | [] => rfl
  | n :: r => by
    rw [List.map_cons, PyData.hasDictAll, ints_noDict r, PyData.hasDict]
    rfl
theorem ints_depth : ∀ ns : List Int, PyData.depthAll (ns.map .int) = 0
  | [] => rfl
  | n :: r => by
    rw [List.map_cons, PyData.depthAll, ints_depth r, PyData.depth]
    rfl
theorem ints_lay : ∀ ns : List Int, PyData.canLayAll0 (ns.map .int) = true
  | [] => rfl
  | n :: r => by
    rw [List.map_cons, PyData.canLayAll0, ints_lay r, PyData.canLay0]
    rfl
theorem int_len {n : Int} (h : n.natAbs < 10 ^ 9) : ((toString n : String) : Str).length ≤ 10 := by
  have e := int_text_length_le10 (a := n) (k := 9) (by decide) h
  rw [PySem.ofString_length]
  exact e
theorem ints_piled : ∀ ns : List Int, (∀ n ∈ ns, n.natAbs < 10 ^ 9) → piled (PyData.shownAll (ns.map .int)) ≤ 12 * ns.length
  | [], _ => Nat.le_refl _
  | n :: r, h => by
    have ih := ints_piled r fun m hm => h m (List.mem_cons_of_mem _ hm)
    have h1 := int_len (h n List.mem_cons_self)
    rw [List.map_cons, PyData.shownAll, piled_cons, PyData.shown, List.length_cons]
    omega
theorem tupI_facts {ns : List Int} (h : ∀ n ∈ ns, n.natAbs < 10 ^ 9) (hl : ns.length ≤ 1000000) : (PyData.tuple (ns.map .int)).showable = true ∧ (PyData.tuple (ns.map .int)).hasDict = false ∧ (PyData.tuple (ns.map .int)).depth ≤ 40 ∧ (PyData.tuple (ns.map .int)).shown.length ≤ sizeLine := by
  refine ⟨?_, ?_, ?_, ?_⟩
  · rw [PyData.showable]
    exact ints_show ns h
  · rw [PyData.hasDict]
    exact ints_noDict ns
  · rw [PyData.depth, ints_depth]
    decide
  · rw [PyData.shown]
    have h1 := fmt_text (PyData.shownAll (ns.map .int))
    have h2 := ints_piled ns h
    have h3 : sizeLine = 2 ^ 24 := rfl
    omega
theorem tupI_shaped (ns : List Int) : SeqAt.shaped (PyData.tuple (ns.map .int)) = true := by
  unfold SeqAt.shaped
  rw [PyData.canLay0, ints_lay, PyData.depth, ints_depth]
  rfl
theorem tupI_eqv (ns : List Int) : PyData.eqv (PyData.tuple (ns.map .int)) (PyData.tuple (ns.map .int)) = true := PySem.SeqAt.eqv_refl _ (by rw [PyData.canLay0]; exact ints_lay ns)
theorem dp_ints {K : PySem.W.Frag} {H : Hp} : ∀ ns : List Int, DpAll K H (ns.map V.int) (ns.map .int)
  | [] => .nil
  | n :: r => .cons (.int n) (dp_ints r)
theorem dp_tupI {K : PySem.W.Frag} {H : Hp} {p : Addr} {ns : List Int} (h : SqT K H p (ns.map V.int)) : Dp K H (.ref p) (.tuple (ns.map .int)) := .tup h (dp_ints ns)
end Gd
namespace L2
open PySem PySem.Spec PyProof.Rows
/-! d.items() of a dict whose keys are tuples -/
def Itit (d : Addr) (o : Obj) (kvs : List (List Key × V)) : It :=
  ⟨fun i H => H d = some (.frz o (.dT kvs)) ∧ i < kvs.length, fun i H x H' => ∃ T k v q, kvs[i]? = some (k, v) ∧ H q = some (.tup (k.map kV)) ∧ x = .ref T ∧ H T = none ∧ H' = upd H T (.tup [.ref q, v]), fun i H => H d = some (.frz o (.dT kvs)) ∧ kvs.length ≤ i⟩
section
variable {X : Cx} {pins : List (Addr × Obj)} {σ : St} {H : Hp} {s : Shared} {d : Addr} {o : Obj}
theorem Inv.frzTv {kvs : List (List Key × V)} (I : Inv X pins σ H s) (h : H d = some (.frz o (.dT kvs))) :
    (d == sysModules) = false ∧ s.heap.get? d = some o ∧ o.ExactDict ∧ ∃ (es : Array DictEntry) (ep : Nat), o.data = .dict es ep ∧ es.size = kvs.length ∧
      ∀ (i : Nat) (k : List Key) (v : V), kvs[i]? = some (k, v) → ∃ (en : DictEntry) (q : Addr), es[i]? = some en ∧ en.key = .ref q ∧ H q = some (.tup (k.map kV)) ∧ RelV v en.val := by
  obtain ⟨hd, z, hs, xs, pr, o', es, ep, ho, hx, hdt, he, _⟩ := I.hok d _ h
  rw [hd] at ho
  cases ho
  refine ⟨hs, hd, hx, es, ep, hdt, ?_, fun i k v e => ?_⟩
  · have l1 : es.size = xs.length := size_of_entries he
    have l2 : kvs.length = xs.length := Paired.length pr
    omega
  · obtain ⟨b, hb, e1, e2, e3⟩ := paired_get pr e
    have q := entry_at he i
    rw [hb] at q
    exact ⟨_, b.2.1, q, rfl, e2, e3⟩
end
section
variable {P : Program} {w : World} {K : PySem.W.Frag} {d : Addr} {o : Obj} {es : Array DictEntry} {ep : Nat}
theorem turn_itemsT {kvs : List (List Key × V)} {elts : List Expr} {kk : Nat} {tpos : Pos} (it : Addr) (hod : o.data = .dict es ep) :
    Turn P w K (.Tuple elts kk tpos) (Itit d o kvs) [it] it (fun i h => ∃ ok ov, IsItemIter h it d i kvs.length ep ok ov) where
  mem := by simp
  obj := fun i h st b hb => by
    have e : b = it := by simpa using hb
    subst e
    obtain ⟨ok, ov, e⟩ := st
    exact ⟨_, e, fun v z => nomatch z⟩
  keep := fun i h h' st k => let ⟨ok, ov, e⟩ := st; ⟨ok, ov, k it (by simp) _ e⟩
  item := by
    intro X hP hw hK hc i pins s σ H E I hf st hg
    subst hP hw hK
    obtain ⟨hd, hi⟩ := hg
    obtain ⟨hs, hgd, hx, es', ep', hdt, hsz, ent⟩ := I.frzTv hd
    obtain ⟨rfl, rfl⟩ := dict_ep hod hdt
    obtain ⟨⟨k, v⟩, hkv⟩ : ∃ p, kvs[i]? = some p := ⟨kvs[i], List.getElem?_eq_getElem hi⟩
    obtain ⟨en, q, hen, hkey, hq, rv⟩ := ent i k v hkv
    obtain ⟨ok, ov, he⟩ := st
    rw [← hsz] at he
    have hlt : it < s.heap.objs.size := Heap.lt_size he
    have hi2 : i < es'.size := by omega
    have een : es'[i] = en := by
      rw [Array.getElem?_eq_getElem hi2] at hen
      exact Option.some.inj hen
    refine PySem.wpAny_pyNext_items_item_raw he ⟨o, hgd, hx, hdt⟩ hi2 fun h' ho hT hz hk => ?_
    rw [een] at ho hT
    refine ⟨_, rfl, wpAny_letOwnedTupleGo_items (s := { s with heap := h' }) ho fun h'' he' sb => ?_⟩
    have hT2 : h''.get? s.heap.objs.size = some { cls := .type "tuple", data := .seq #[en.key, en.val] } := (sb.2 _ (Nat.ne_of_gt hlt)).trans hT
    have new : ObjOk X.prog X.w (upd H s.heap.objs.size (.tup [.ref q, v])) h'' s.heap.objs.size (.tup [.ref q, v]) :=
      ⟨by show 2 ≤ sizeLine; decide, [en.key, en.val], .cons hkey (.cons rv .nil), ⟨_, hT2, rfl, _, rfl⟩⟩
    have I1 : Inv X pins σ (upd H s.heap.objs.size (.tup [.ref q, v])) { s with heap := h'' } :=
      I.turnedNew (t' := s.toks) (ch := [it]) (fun b ob hb e => (sb.2 b (by simpa using hb)).trans (hk b ob (by simpa using hb) e)) hf (Nat.le_refl _) new
    refine ⟨.ref s.heap.objs.size, _, I1, rfl, ⟨_, k, v, q, hkv, hq, rfl, I.hok.fresh (Nat.le_refl _), rfl⟩, ⟨en.key, en.val, ?_⟩, fun b hb => ?_⟩
    · rw [← hsz]; exact he'
    · have e : b = it := by simpa using hb
      rw [e, upd_ne (Nat.ne_of_lt hlt)]
      exact (hf it (by simp)).1
  done := by
    intro X hP hw hK hc i pins s σ H E I hf st hg
    subst hP hw hK
    obtain ⟨hd, hi⟩ := hg
    obtain ⟨f0, f1, f2, f3, f4, f5⟩ := hf it (by simp)
    obtain ⟨hs, hgd, hx, es', ep', hdt, hsz, ent⟩ := I.frzTv hd
    obtain ⟨rfl, rfl⟩ := dict_ep hod hdt
    obtain ⟨ok, ov, he⟩ := st
    rw [← hsz] at he
    exact PySem.wpAny_pyNext_items_end_raw (I.ok.hd hc) he ⟨o, hgd, hx, hdt⟩ (by omega) fun h' eb => ⟨rfl, I.turned (t' := s.toks) (fun b ob hb e => eb b ob hb e) f0 f1 f3 f4 f5⟩
  self := fun A i s Q E st h => let ⟨_, _, e⟩ := st; PySem.W.kcp_self e h
end
def iItemsT (td : TE) : TI := fun σ H R => td σ H fun x H1 => ∃ d o kvs, x = .ref d ∧ H1 d = some (.frz o (.dT kvs)) ∧ R (Itit d o kvs) H1
section
variable {X : Cx} {e : Expr} {td : TE} {apos cpos : Pos}
theorem pi_itemsT {elts : List Expr} {kk : Nat} {tpos : Pos} (he : PE X e td) (hbase : attributeBase e "items" X.env (eval e X.env) = eval e X.env := by rfl) (hline : (apos.endLine == cpos.line) = true := by rfl) :
    PI X (.Tuple elts kk tpos) (.Call (.Attribute e "items" apos) [] [] cpos) (iItemsT td) := by
  refine ⟨fun pins s σ H R I h => ?_⟩
  refine wpAny_Call_method (T := "dict") (id := "dict.items") hbase rfl hline F.plainAttrs_dict F.slot_dict_items F.type_dict_items (thn (he.run pins s σ H _ I h) fun u s1 ⟨x, H1, I1, rx, d, o, kvs, ex, hd, q⟩ => ?_)
  subst ex
  obtain rfl : u = Value.ref d := rx
  obtain ⟨hs, hgd, hx, es, ep, hdt, hsz, ent⟩ := I1.frzTv hd
  have hm : s1.heap.DictRaw d es ep := ⟨o, hgd, hx, hdt⟩
  refine ⟨hm.typeIs, ?_, ?_⟩
  · exact fun a ea => by
      cases ea
      exact ⟨o, hgd, hx.2.1⟩
  have I2 : Inv X pins σ H1 { s1 with heap := s1.heap.push { cls := .type "dict_items", data := .fields #[.ref d] } } := I1.kept (t' := s1.toks) fun b ob q => Heap.get?_push_of_some _ q
  have fin : wpAny (model X.prog X.w) X.A (pyIter (.ref s1.heap.objs.size)) (PIE X pins σ (.Tuple elts kk tpos) R) X.xe { s1 with heap := s1.heap.push { cls := .type "dict_items", data := .fields #[.ref d] } } := by
    refine PySem.wpAny_pyIter_items_raw (d := d) ⟨_, Heap.get?_push_size _ rfl, rfl, rfl⟩ (hm.at fun o e => Heap.get?_push_of_some _ e) (pi_one (tk := s1.toks) I2 _ (turn_itemsT _ hdt) ⟨.none, .none, ?_⟩ q)
    rw [← hsz]
    exact Heap.get?_push_size _ rfl
  show wpAny _ _ (callWith cpos (.builtin "dict.items") [.ref d] [] []) _ X.xe s1
  exact method_meetsIn F.slot_dict_items F.entry_dict_items rfl (PySem.evalArgs_none ⟨rfl, hm.typeIs, F.args_dict_items_1 _, _, PySem.meets_dict_items_raw d hs, ⟨⟨es, ep, hm⟩, fin⟩⟩)
end
theorem walk_itemsT {d : Addr} {o : Obj} {kvs : List (List Key × V)} : Walk (Itit d o kvs) kvs.length (fun H => H d = some (.frz o (.dT kvs)))
    (fun i H x H' => ∃ T k v q, kvs[i]? = some (k, v) ∧ H q = some (.tup (k.map kV)) ∧ x = .ref T ∧ H T = none ∧ H' = upd H T (.tup [.ref q, v])) :=
  ⟨fun _ _ hi q => ⟨q, hi⟩, fun _ q => ⟨q, Nat.le_refl _⟩, fun _ _ _ _ _ _ y => y⟩
end L2
namespace L2
open PySem PySem.Spec PyProof.Rows
/-- over a list or a tuple -/
def iSeq (K : PySem.W.Frag) (tl : TE) : TI := fun σ H R => tl σ H fun x H1 => ∃ a, x = .ref a ∧ (((∃ xs, SqL K H1 a xs) ∧ R (Itl K a) H1) ∨ ((∃ xs, SqT K H1 a xs) ∧ R (Itt K a) H1))
theorem pi_seq {X : Cx} {tg l : Expr} {tl : TE} (hl : PE X l tl) : PI X tg l (iSeq X.K tl) := by
  refine ⟨fun pins s σ H R I h => ?_⟩
  refine thn (hl.run pins s σ H _ I h) fun v s1 ⟨x, H1, I1, r1, q1⟩ => ?_
  obtain ⟨a, e, q⟩ := q1
  subst e
  cases r1
  rcases q with ⟨⟨xs, hq⟩, q⟩ | ⟨⟨xs, hq⟩, q⟩
  · obtain ⟨its, rv, p, hz⟩ := I1.list hq
    refine wpAny_pyIter_list p.isList ?_
    refine ⟨s1.heap.objs.size, [s1.heap.objs.size], _, _, H1, rfl, I1.kept (t' := s1.toks) fun b o e => Heap.get?_push_of_some _ e, turn_list a _, ⟨_, Heap.get?_push_size _ rfl, rfl, rfl⟩, fun b hb => ?_, q⟩
    have e : b = s1.heap.objs.size := by simpa using hb
    subst e
    exact I1.fpOk (Nat.le_refl _) (I1.hok.fresh (Nat.le_refl _))
  · obtain ⟨its, rv, p, hz⟩ := I1.tuple hq
    refine wpAny_pyIter_tuple (show s1.heap.IsTuple a its.toArray from p) ?_
    refine ⟨s1.heap.objs.size, [s1.heap.objs.size], _, _, H1, rfl, I1.kept (t' := s1.toks) fun b o e => Heap.get?_push_of_some _ e, turn_tuple a _, ⟨_, Heap.get?_push_size _ rfl, rfl, rfl⟩, fun b hb => ?_, q⟩
    have e : b = s1.heap.objs.size := by simpa using hb
    subst e
    exact I1.fpOk (Nat.le_refl _) (I1.hok.fresh (Nat.le_refl _))
/-- f(a, ..) of a def that takes any number of arguments -/
def tCallR (sp : Sp) (E : XK) (t : TA) : TE := fun σ H Q => t σ H fun vs H1 => sp vs H1 Q E
theorem pe_callR {X : Cx} {CX : CXT} {k : Nat} {f : Addr} {sp : Sp} {E : XK} {x : Str} {e : Expr} {es : List Expr} {t : TA} {p pos : Pos} (F : FnR X.prog X.w X.K X.mg X.base CX k f sp) (hr : Room k X.A) (hg : Gl X x) (hm : X.mg x = some (.ref f)) (hk : PySem.W.keepIn X.K (.ref f) = true) (hx : Passes CX X E)
    (ha : PA X (e :: es) t) (hdb : (x == ("__debug__" : Str)) = false := by decide) (he : starEach (e :: es) X.env = (false, eval e X.env) :: starEach es X.env := by rfl) (hpl : (backTo pos (starEach es X.env)).any (·.1) = false := by rfl) :
    PE X (.Call (.Name x p) (e :: es) [] pos) (tCallR sp E t) := by
  refine ⟨fun pins s σ H Q I h => ?_⟩
  refine wpAny_Call_Name_kw (ld_glob I hg hm ?_ hdb)
  refine PySem.W.callWith_K (h₀ := X.base) I.ok.mod.kin hk (thn (ha.run pos pins s σ H _ I h) fun us s1 ⟨vs, H1, I1, r, q⟩ => ⟨I1.kIn, ?_⟩) he hpl
  exact wpAny_call (run_fnR F hr hx I1 r q)
/-- over a dict that was just made: it is locked from here on -/
def iKeysL (td : TE) : TI := fun σ H R => td σ H fun x H1 => ∃ d kvs, x = .ref d ∧ H1 d = some (.dK kvs) ∧ ∀ od, R (Itk d od kvs) (upd H1 d (.frz od (.dK kvs)))
theorem pi_keysL {X : Cx} {tg e : Expr} {td : TE} (he : PE X e td) : PI X tg e (iKeysL td) := by
  refine ⟨fun pins s σ H R I h => ?_⟩
  refine thn (he.run pins s σ H _ I h) fun u s1 ⟨x, H1, I1, rx, d, kvs, ex, hd, q⟩ => ?_
  subst ex
  obtain rfl : u = Value.ref d := rx
  obtain ⟨od, I2⟩ := I1.lock hd trivial
  obtain ⟨hs, hgd, hx, es, ep, vs, hdt, hsz, kv, hm⟩ := I2.frzK upd_same
  refine iter_keys hs hgd hx hdt (pi_one (tk := s1.toks) I2 _ (turn_keys _ hdt) ⟨_, Heap.get?_push_size _ rfl, rfl, ?_⟩ (q od))
  rw [hsz] <;> rfl
/-- name = {..} on one line, the name a local -/
theorem ps_setDc {X : Cx} {i : Nat} {y : Str} {py : Pos} {kx vx tg iter : Expr} {ifs : List Expr} {scope : Scope} {own : List (Str × Nat)} {pos spos : Pos} {wi : TI} {g : TG} {tt : TT} {tk tv : TE} (hc : X.calm = true) (hN : X.N.Nodup) (hy : X.N[i]? = some y) (hyl : X.env.scope.names.lookup y = some .local)
    (hsw : swapsWith (.DictComp kx vx [⟨tg, iter, ifs, 0⟩] scope pos) (some (.Name y py)) spos.line X.env = pure true) (hi : PI X tg iter wi) (ok : BlkOk X.N X.env.scope scope own)
    (hg : ∀ (s : Shared) (H : Hp) (C : Addr) (cl : List (Str × Addr)) (fp : List Addr), PG (X.blk s H scope (compEnvC scope cl C X.env) fp) tg g) (ht : ∀ (s : Shared) (H : Hp) (C : Addr) (cl : List (Str × Addr)) (fp : List Addr), PTs (X.blk s H scope (compEnvC scope cl C X.env) fp) ifs tt)
    (hk : ∀ (s : Shared) (H : Hp) (C : Addr) (cl : List (Str × Addr)) (fp : List Addr), PE (X.blk s H scope (compEnvC scope cl C X.env) fp) kx tk)
    (he : ∀ (s : Shared) (H : Hp) (C : Addr) (cl : List (Str × Addr)) (fp : List Addr), PE (X.blk s H scope (compEnvC scope cl C X.env) fp) vx tv) (hs : ∀ x, foldedSetIterable iter X.env x = pure x := by intro _; rfl) :
    PS X (.Assign [.Name y py] (.DictComp kx vx [⟨tg, iter, ifs, 0⟩] scope pos) spos) (tAsg (tDc wi g tt tk tv (own.map (·.2))) (gName i)) := by
  refine ⟨fun pins s σ H D I h => ?_⟩
  rw [exec_Assign_Name_used _ _ _ _ hsw]
  refine wpAny_bind (wpAny_standAt (wpAny_bind ?_))
  show wpAny _ X.A (do let _ ← comprehension (.DictComp kx vx [⟨tg, iter, ifs, 0⟩] scope pos) scope X.env (firstIterPos [⟨tg, iter, ifs, 0⟩] pos) newDict false (eval iter X.env) (some (assign (.Name y py) X.env))) _ _ s
  have h : tDc wi g tt tk tv (own.map (·.2)) σ H (fun x H1 => gName i x σ H1 D.nx) := h
  refine wpAny_bind (thn (dc_core (Qf := fun _ s' => SP X pins D .next s') hc hN I hi ok hg ht hk he hs h fun L C s' m H' I' q hn f => ?_) fun _ s' hq => wpAny_pure (wpAny_pure hq))
  show wpAny _ _ (assign (.Name y py) X.env (.ref L)) _ _ _
  refine wpAny_assign_Name (store_ok2 (v := V.ref L) I' hN hy (.inl hyl) rfl (fun s2 I2 ⟨a, sb, ha⟩ => ?_) (.inr hyl))
  obtain ⟨f0, f1, f2, f3, f4, f5⟩ := f
  have haC : C ≠ a := by
    rcases ha with z | z
    · rw [z]; exact f1
    · exact fun e => f4 y a z e.symm
  refine ⟨m, hn.sameBut sb haC, fun h3 sb3 => ?_⟩
  exact ⟨_, H', I2.turned (t' := s2.toks) (fun b o hb e => (sb3.2 b hb).trans e) f0 f1 f3 f4 f5, q⟩
theorem sw_trueD {kx vx : Expr} {gs : List Comprehension} {scope : Scope} {pos py : Pos} {y : Str} {l : Nat} {env : Env} (hk : env.scope.kind = .function) (hy : env.scope.names.lookup y = some .local) (hl : (py.line == pos.line) = true)
    (ha : (scope.names.any fun (n, k) => n == y && (k == .local || k == .cell)) = false) : swapsWith (.DictComp kx vx gs scope pos) (some (.Name y py)) l env = pure true := by
  have ky : env.kindOf y = some .local := hy
  have hb : env.blockKind = .function := by unfold Env.blockKind; rw [hk]; rfl
  unfold swapsWith
  simp only [hb, ky, ha, Expr.pos, hl]
  rfl
end L2
namespace Sn
open PySem PySem.Spec PyProof.Rows L2 Evl Gd
/-! one word of a reading at a time -/
section
variable {ta tr te tb tc td ty tv : TE} {tt : TA} {ts tz : TS} {D : Ends} {g : TG} {σ : L2.St} {H : Hp} {Q : VK} {K : PySem.W.Frag}
theorem c_of {Q : List V → Hp → Prop} (h : ta σ H fun x H1 => tt σ H1 fun xs H2 => Q (x :: xs) H2) : tCons ta tt σ H Q := h
theorem tup_of (h : tt σ H fun xs H1 => xs.length ≤ sizeLine ∧ ∀ p, H1 p = none → Q (.ref p) (upd H1 p (.tup xs))) : tTup tt σ H Q := h
theorem lst_of (h : tt σ H fun xs H1 => xs.length ≤ sizeLine ∧ ∀ p, H1 p = none → Q (.ref p) (upd H1 p (.lst xs))) : tLst tt σ H Q := h
theorem n_of {Q : List V → Hp → Prop} (h : Q [] H) : tNil σ H Q := h
theorem v_of {i : Nat} {v : V} (e : σ[i]? = some (some v)) (h : Q v H) : tVar i σ H Q := ⟨v, e, h⟩
theorem k_of {v : V} (h : Q v H) : tC v σ H Q := h
theorem seq_of (h : ts { D with nx := tz D } σ H) : tSeq ts tz D σ H := h
theorem asg_of {i : Nat} (h : te σ H fun x H1 => D.nx (σ.set i (some x)) H1) : tAsg te (gName i) D σ H := h
theorem asgG_of (h : te σ H fun x H1 => g x σ H1 D.nx) : tAsg te g D σ H := h
theorem par_of {i j : Nat} (h : tt σ H fun vs H1 => ∃ v w, vs = [v, w] ∧ D.nx ((σ.set i (some v)).set j (some w)) H1) : tPar i j tt D σ H := h
theorem ret_of (h : te σ H D.rt) : tRet te D σ H := h
theorem op_of {r : R2} (h : ta σ H fun x H1 => tb σ H1 fun y H2 => r x y H2 Q) : tOp r ta tb σ H Q := h
theorem call_of {sp : Sp} {dvs : List V} {E : XK} (h : tt σ H fun vs H1 => sp (vs ++ dvs) H1 Q E) : tCall sp dvs E tt σ H Q := h
theorem callK_of {sp : Sp} {gV : List V → List V → List V} {E : XK} {tk : TA} (h : tt σ H fun vs H1 => tk σ H1 fun zs H2 => sp (gV vs zs) H2 Q E) : tCallK sp gV E tt tk σ H Q := h
theorem callR_of {sp : Sp} {E : XK} (h : tt σ H fun vs H1 => sp vs H1 Q E) : tCallR sp E tt σ H Q := h
theorem cb_of {r : List V → Hp → VK → Prop} (h : tt σ H fun vs H1 => r vs H1 Q) : tCB r tt σ H Q := h
theorem test_of {Q : Bool → Hp → Prop} (h : te σ H fun x H1 => ∃ c, x = .bl c ∧ Q c H1) : tTest te σ H Q := h
theorem if_of {b : TT} (h : b σ H fun c H1 => if c = true then ta σ H1 Q else tb σ H1 Q) : tIf b ta tb σ H Q := h
theorem ifS_of {t : TT} {ta tb : TS} (h : t σ H fun c H1 => if c = true then ta D σ H1 else tb D σ H1) : tIfS t ta tb D σ H := h
theorem and_of {t u : TT} {Q : Bool → Hp → Prop} (h : t σ H fun c H1 => if c = true then u σ H1 Q else Q false H1) : tAnd t u σ H Q := h
theorem or_of {t u : TT} {Q : Bool → Hp → Prop} (h : t σ H fun c H1 => if c = true then Q true H1 else u σ H1 Q) : tOr t u σ H Q := h
theorem not_of {te : TT} {Q : Bool → Hp → Prop} (h : te σ H fun c H1 => Q (!c) H1) : tNot te σ H Q := h
theorem andv_of (h : ta σ H fun x H1 => ∃ c, x = .bl c ∧ if c = true then tb σ H1 Q else Q (.bl false) H1) : tAndV ta tb σ H Q := h
theorem notv_of (h : ta σ H fun x H1 => ∃ c, x = .bl c ∧ Q (.bl (!c)) H1) : tNotV ta σ H Q := h
theorem put_of (h : tv σ H fun v H1 => td σ H1 fun x H2 => ty σ H2 fun y H3 => ∃ a H4, x = .ref a ∧ DPut H3 a y v H4 ∧ D.nx σ H4) : sDPut td ty tv D σ H := h
theorem newK_of (h : ∀ p, H p = none → Q (.ref p) (upd H p (.dK []))) : tDNewK σ H Q := h
theorem dget_of (h : td σ H fun x H1 => ty σ H1 fun y H2 => ∃ a v, x = .ref a ∧ DGet H2 a y (some v) ∧ Q v H2) : tDGet td ty σ H Q := h
theorem din_of (h : ty σ H fun y H1 => td σ H1 fun x H2 => ∃ a o, x = .ref a ∧ DGet H2 a y o ∧ Q (.bl o.isSome) H2) : tDIn ty td σ H Q := h
theorem notin_of (h : ty σ H fun y H1 => td σ H1 fun x H2 => ∃ a o, x = .ref a ∧ DGet H2 a y o ∧ Q (.bl (!o.isSome)) H2) : tDNotIn ty td σ H Q := h
theorem drop_of (h : te σ H fun _ H1 => D.nx σ H1) : tDrop te D σ H := h
theorem make_of {C : Addr} {sp : Sp} {dvs : List V} {E : XK} (h : tt σ H fun vs H1 => ∀ x dx, H1 x = none → H1 dx = none → dx ≠ x → sp (.ref x :: (vs ++ dvs)) (upd (upd H1 dx (.own x)) x (.ins C dx [])) (fun v H2 => v = .non ∧ Q (.ref x) H2) E) : tMake C sp dvs E tt σ H Q := h
theorem meth_of {C : Addr} {m : Str} {sp : Sp} {dvs : List V} {E : XK} (h : ta σ H fun x H1 => ∃ a dx fs, x = .ref a ∧ H1 a = some (.ins C dx fs) ∧ fs.lookup m = none ∧ tt σ H1 fun vs H2 => sp (x :: (vs ++ dvs)) H2 Q E) : tMeth C m sp dvs E ta tt σ H Q := h
theorem lc_of {wi : TI} {tt : TT} {vs : List Nat} (h : wi σ H fun J H1 => ∀ D, H1 D = none → ∃ W : Nat → Nat → Hp → Prop, (∃ m, W 0 m (upd H1 D (.lst []))) ∧ ∀ i m H, W i m H →
  (J.stop i H ∧ Q (.ref D) H) ∨ (J.go i H ∧ ∃ Nx : Hp → Prop, (∀ H', Nx H' → ∃ m', m' < m ∧ W (i + 1) m' H') ∧ ∀ x H', J.yld i H x H' → g x (wipe σ vs) H' fun σ2 H2 => wipe σ2 vs = wipe σ vs ∧ tt σ2 H2 fun b H3 =>
    if b = true then te σ2 H3 fun y H4 => ∃ acc, H4 D = some (.lst acc) ∧ acc.length < sizeLine ∧ Nx (upd H4 D (.lst (acc ++ [y]))) else Nx H3)) : tLc wi g tt te vs σ H Q := h
theorem for_of {wi : TI} (h : wi σ H fun J H1 => ∃ W : Nat → Nat → L2.St → Hp → Prop, (∃ m, W 0 m σ H1) ∧ ∀ i m σ H, W i m σ H →
      (J.stop i H ∧ D.nx σ H) ∨ (J.go i H ∧ ∃ N : L2.St → Hp → Prop, (∀ σ' H', N σ' H' → ∃ m', m' < m ∧ W (i + 1) m' σ' H') ∧ ∀ x H', J.yld i H x H' → g x σ H' fun σ2 H2 => ts { D with nx := N, ct := N, bk := D.nx } σ2 H2)) : tFor wi g ts D σ H := h
theorem iL_of {R : It → Hp → Prop} (h : ta σ H fun x H1 => ∃ a, x = .ref a ∧ (∃ xs, SqL K H1 a xs) ∧ R (Itl K a) H1) : iList K ta σ H R := h
theorem iT_of {R : It → Hp → Prop} (h : ta σ H fun x H1 => ∃ a, x = .ref a ∧ (∃ xs, SqT K H1 a xs) ∧ R (Itt K a) H1) : iTup K ta σ H R := h
theorem kL_of {R : It → Hp → Prop} (h : td σ H fun x H1 => ∃ d kvs, x = .ref d ∧ H1 d = some (.dK kvs) ∧ ∀ od, R (Itk d od kvs) (upd H1 d (.frz od (.dK kvs)))) : iKeysL td σ H R := h
theorem r1_of {R : It → Hp → Prop} (h : tt σ H fun vs H1 => ∃ j : Int, vs = [.int j] ∧ -(2 ^ 62) ≤ j ∧ j < 2 ^ 62 ∧ R (Itr 0 j.toNat) H1) : iRng1 tt σ H R := h
theorem rev_of (h : te σ H fun x H1 => ∃ a xs, x = .ref a ∧ SqL K H1 a xs ∧ ∀ p, H1 p = none → Q (.ref p) (upd H1 p (.lst xs.reverse))) : tRevL K te σ H Q := h
theorem for1_of (h : tt σ H fun vs H1 => ∃ j : Int, vs = [.int j] ∧ -(2 ^ 62) ≤ j ∧ j < 2 ^ 62 ∧ ∃ W : Nat → Nat → L2.St → Hp → Prop, (∃ m, W 0 m σ H1) ∧ ∀ i m σ H, W i m σ H →
      ((Itr 0 j.toNat).stop i H ∧ D.nx σ H) ∨ ((Itr 0 j.toNat).go i H ∧ ∃ N : L2.St → Hp → Prop, (∀ σ' H', N σ' H' → ∃ m', m' < m ∧ W (i + 1) m' σ' H') ∧ ∀ x H', (Itr 0 j.toNat).yld i H x H' → g x σ H' fun σ2 H2 => ts { D with nx := N, ct := N, bk := D.nx } σ2 H2)) : tFor (iRng1 tt) g ts D σ H := h
theorem forS_of (h : ta σ H fun x H1 => ∃ a, x = .ref a ∧ (((∃ xs, SqL K H1 a xs) ∧ ∃ W : Nat → Nat → L2.St → Hp → Prop, (∃ m, W 0 m σ H1) ∧ ∀ i m σ H, W i m σ H →
      ((Itl K a).stop i H ∧ D.nx σ H) ∨ ((Itl K a).go i H ∧ ∃ N : L2.St → Hp → Prop, (∀ σ' H', N σ' H' → ∃ m', m' < m ∧ W (i + 1) m' σ' H') ∧ ∀ x H', (Itl K a).yld i H x H' → g x σ H' fun σ2 H2 => ts { D with nx := N, ct := N, bk := D.nx } σ2 H2)) ∨
    ((∃ xs, SqT K H1 a xs) ∧ ∃ W : Nat → Nat → L2.St → Hp → Prop, (∃ m, W 0 m σ H1) ∧ ∀ i m σ H, W i m σ H →
      ((Itt K a).stop i H ∧ D.nx σ H) ∨ ((Itt K a).go i H ∧ ∃ N : L2.St → Hp → Prop, (∀ σ' H', N σ' H' → ∃ m', m' < m ∧ W (i + 1) m' σ' H') ∧ ∀ x H', (Itt K a).yld i H x H' → g x σ H' fun σ2 H2 => ts { D with nx := N, ct := N, bk := D.nx } σ2 H2)))) : tFor (iSeq K ta) g ts D σ H := h
theorem ifE_yes {t : TT} (h : ∀ k : Bool → Hp → Prop, k true H → t σ H k) (q : ta σ H Q) : tIf t ta tb σ H Q := h _ (by
  show if true = true then ta σ H Q else tb σ H Q
  rw [if_pos rfl]
  exact q)
theorem ifE_no {t : TT} (h : ∀ k : Bool → Hp → Prop, k false H → t σ H k) (q : tb σ H Q) : tIf t ta tb σ H Q := h _ (by
  show if false = true then ta σ H Q else tb σ H Q
  rw [if_neg Bool.false_ne_true]
  exact q)
theorem seq_join (I : L2.St → Hp → Prop) (h1 : (∀ σ' H', I σ' H' → tz D σ' H') → tSeq ts tz D σ H) (h2 : ∀ σ' H', I σ' H' → tz D σ' H') : tSeq ts tz D σ H := h1 h2
end
/-! small facts of lists -/
theorem take_one {α : Type} {l : List α} {i : Nat} {x : α} (h : l[i]? = some x) : l.take (i + 1) = l.take i ++ [x] := by
  rw [List.take_add_one, h]
  rfl
theorem take_snoc {α β : Type} {l : List α} {i : Nat} {x : α} (f : α → β) (h : l[i]? = some x) : (l.take (i + 1)).map f = (l.take i).map f ++ [f x] := by
  rw [List.take_add_one, h, List.map_append]
  rfl
theorem map_at {α β : Type} {f : α → β} {l : List α} {i : Nat} {y : β} (h : (l.map f)[i]? = some y) : ∃ x, l[i]? = some x ∧ y = f x := by
  rw [List.getElem?_map] at h
  cases e : l[i]? with
  | none =>
    rw [e] at h
    cases h
  | some x =>
    rw [e] at h
    exact ⟨x, rfl, (Option.some.inj h).symm⟩
theorem at_map {l : List Int} {i : Nat} {x : V} (h : (l.map V.int)[i]? = some x) : ∃ k, l[i]? = some k ∧ x = .int k := map_at h
theorem filterMap_snoc {α β : Type} {l : List α} {i : Nat} {x : α} (f : α → Option β) (h : l[i]? = some x) : (l.take (i + 1)).filterMap f = (l.take i).filterMap f ++ (f x).toList := by
  rw [List.take_add_one, h, List.filterMap_append]
  show _ ++ List.filterMap f [x] = _
  cases e : f x with
  | none => rw [List.filterMap_cons_none e] <;> rfl
  | some y => rw [List.filterMap_cons_some e] <;> rfl
theorem flatMap_snoc {α β : Type} {l : List α} {i : Nat} {x : α} (f : α → List β) (h : l[i]? = some x) : (l.take (i + 1)).flatMap f = (l.take i).flatMap f ++ f x := by
  rw [List.take_add_one, h, List.flatMap_append]
  show _ ++ List.flatMap f [x] = _
  rw [List.flatMap_cons, List.flatMap_nil, List.append_nil]
theorem TdAll.last {K : PySem.W.Frag} {H : Hp} : ∀ {ys : List V} {ds : List PyData} {d : PyData}, TdAll K H ys (ds ++ [d]) → ∃ zs y, ys = zs ++ [y] ∧ TdAll K H zs ds ∧ Td K H y d
  | _, [], _, h => by
    obtain ⟨y, ys, rfl, h1, h2⟩ := TdAll.inv_cons h
    rw [h2.inv_nil]
    exact ⟨[], y, rfl, .nil, h1⟩
  | _, e :: ds, d, h => by
    obtain ⟨y, ys, rfl, h1, h2⟩ := TdAll.inv_cons h
    obtain ⟨zs, z, rfl, h3, h4⟩ := TdAll.last h2
    exact ⟨y :: zs, z, rfl, .cons h1 h3, h4⟩
theorem snoc_of {α : Type} : ∀ {l : List α}, l ≠ [] → ∃ m x, l = m ++ [x]
  | [], h => absurd rfl h
  | [x], _ => ⟨[], x, rfl⟩
  | x :: y :: l, _ => by
    obtain ⟨m, z, e⟩ := snoc_of (l := y :: l) (by simp)
    exact ⟨x :: m, z, by rw [e]; rfl⟩
theorem flat_congr {α β : Type} {f g : α → List β} : ∀ {l : List α}, (∀ x ∈ l, f x = g x) → l.flatMap f = l.flatMap g
  | [], _ => rfl
  | x :: l, h => by rw [List.flatMap_cons, List.flatMap_cons, h x List.mem_cons_self, flat_congr fun y hy => h y (List.mem_cons_of_mem _ hy)]
theorem strict_of {ns : List Int} (h : ns.Pairwise (· ≤ ·)) (nd : ns.Nodup) : ns.Pairwise (· < ·) := by
  refine List.Pairwise.imp₂ (fun a b h1 h2 => ?_) h nd
  have h3 : a ≠ b := h2
  omega
/-- strictly ascending lists of the same ints are the same -/
theorem asc_uniq : ∀ {a b : List Int}, a.Pairwise (· < ·) → b.Pairwise (· < ·) → (∀ n, n ∈ a ↔ n ∈ b) → a = b
  | [], [], _, _, _ => rfl
  | [], y :: b, _, _, h => absurd ((h y).mpr List.mem_cons_self) List.not_mem_nil
  | x :: a, [], _, _, h => absurd ((h x).mp List.mem_cons_self) List.not_mem_nil
  | x :: a, y :: b, ha, hb, h => by
    have h1 := List.pairwise_cons.mp ha
    have h2 := List.pairwise_cons.mp hb
    have e : x = y := by
      rcases List.mem_cons.mp ((h x).mp List.mem_cons_self) with e | m
      · exact e
      · rcases List.mem_cons.mp ((h y).mpr List.mem_cons_self) with e | m2
        · exact e.symm
        · have := h2.1 x m
          have := h1.1 y m2
          omega
    subst e
    rw [asc_uniq h1.2 h2.2 fun n => ?_]
    constructor
    · intro m
      rcases List.mem_cons.mp ((h n).mp (List.mem_cons_of_mem _ m)) with e | m2
      · have := h1.1 n m
        omega
      · exact m2
    · intro m
      rcases List.mem_cons.mp ((h n).mpr (List.mem_cons_of_mem _ m)) with e | m2
      · have := h2.1 n m
        omega
      · exact m2
theorem same_of {A : Int → Prop} {a b : List Int} (ha : a.Pairwise (· < ·)) (hb : b.Pairwise (· < ·)) (ia : ∀ n, n ∈ a ↔ A n) (ib : ∀ n, n ∈ b ↔ A n) : a = b := asc_uniq ha hb fun n => (ia n).trans (ib n).symm
theorem thing_src {t : Thing} {α : Arc} (h : α ∈ thingArcs t) : α.src.length ≤ 2 := by
  unfold thingArcs at h
  split at h
  · obtain ⟨p, _, e⟩ := List.mem_filterMap.mp h
    unfold slotArc at e
    split at e
    · cases e
      exact (show 1 ≤ 2 by decide)
    · cases e
  · split at h
    · obtain ⟨p, _, e⟩ := List.mem_filterMap.mp h
      unfold entryArc at e
      split at e
      · cases e
        exact Nat.le_refl 2
      · cases e
    · cases h
theorem arcs_src {s : Shot} {α : Arc} (h : α ∈ arcsOf s) : α.src.length ≤ 2 := by
  rcases List.mem_append.mp h with h | h
  · obtain ⟨r, _, rfl⟩ := List.mem_map.mp h
    exact (show 0 ≤ 2 by decide)
  · obtain ⟨t, _, ht⟩ := List.mem_flatMap.mp h
    exact thing_src ht
theorem filter_none (as : List Arc) : (as.filter fun α => decide (α.tgt ∉ ([] : List Int))) = as := List.filter_eq_self.mpr fun _ _ => by simp
/-! dicts of True -/
abbrev kTrue (met : List Int) : List (Key × V) := met.map fun n => (Sum.inl n, V.bl true)
theorem val_kTrue (n : Int) : ∀ met : List Int, (valV (kTrue met) (.inl n)).isSome = decide (n ∈ met)
  | [] => by simp [valV]
  | m :: met => by
    by_cases e : m = n
    · subst e
      show (valV ((Sum.inl m, V.bl true) :: kTrue met) (.inl m)).isSome = _
      rw [valV_pos rfl]
      simp
    · show (valV ((Sum.inl m, V.bl true) :: kTrue met) (.inl n)).isSome = _
      rw [valV_neg (fun q => e (Sum.inl.inj q)), val_kTrue n met]
      have : ¬ n = m := fun q => e q.symm
      simp [this]
theorem put_kTrue {n : Int} {met : List Int} (h : n ∉ met) : putK (kTrue met) (.inl n) (.bl true) = kTrue (met ++ [n]) := by
  have e : valV (kTrue met) (.inl n) = none := by
    have := val_kTrue n met
    rw [decide_eq_false h] at this
    cases q : valV (kTrue met) (.inl n) with
    | none => rfl
    | some v =>
      rw [q] at this
      cases this
  rw [putK_new _ e]
  show _ = (met ++ [n]).map _
  rw [List.map_append]
  rfl
def insT (met : List Int) (n : Int) : List Int := if n ∈ met then met else met ++ [n]
theorem put_ins (met : List Int) (n : Int) : putK (kTrue met) (.inl n) (.bl true) = kTrue (insT met n) := by
  unfold insT
  by_cases h : n ∈ met
  · rw [if_pos h]
    have e : (valV (kTrue met) (.inl n)).isSome = true := by
      rw [val_kTrue]
      exact decide_eq_true h
    unfold putK
    rw [valV_any, if_pos e]
    show (met.map fun n => ((Sum.inl n : Key), V.bl true)).map _ = _
    rw [List.map_map]
    refine List.map_congr_left fun m _ => ?_
    show (if (Sum.inl m : Key) = Sum.inl n then ((Sum.inl m : Key), V.bl true) else (Sum.inl m, V.bl true)) = _
    split <;> rfl
  · rw [if_neg h]
    exact put_kTrue h
theorem insT_mem {met : List Int} {n m : Int} : m ∈ insT met n ↔ m ∈ met ∨ m = n := by
  unfold insT
  by_cases h : n ∈ met
  · rw [if_pos h]
    constructor
    · exact .inl
    · rintro (q | q)
      · exact q
      · rw [q]
        exact h
  · rw [if_neg h, List.mem_append, List.mem_singleton]
theorem insT_nodup {met : List Int} {n : Int} (nd : met.Nodup) : (insT met n).Nodup := by
  unfold insT
  by_cases h : n ∈ met
  · rw [if_pos h]
    exact nd
  · rw [if_neg h, List.nodup_append]
    refine ⟨nd, by simp, fun a ha b hb e => ?_⟩
    rw [List.mem_singleton.mp hb] at e
    rw [e] at ha
    exact h ha
theorem insT_pre (met : List Int) (n : Int) : met <+: insT met n := by
  unfold insT
  split
  · exact List.prefix_refl _
  · exact List.prefix_append _ _
theorem insT_len (met : List Int) (n : Int) : (insT met n).length ≤ met.length + 1 := by
  unfold insT
  split
  · omega
  · rw [List.length_append, List.length_singleton]
    omega
/-! a list or a tuple -/
def SqA (K : PySem.W.Frag) (H : Hp) (a : Addr) (xs : List V) : Prop := SqL K H a xs ∨ SqT K H a xs
theorem SqA.ex {K : PySem.W.Frag} {H H' : Hp} {a : Addr} {xs : List V} (h : SqA K H a xs) (e : Ex H H') : SqA K H' a xs := h.imp (ex_l e) (ex_t e)
/-- over what is there from the beginning and stays -/
theorem for_seqA {K : PySem.W.Frag} {ta : TE} {g : TG} {tb : TS} {D : Ends} {σ : L2.St} {H0 H : Hp} {a : Addr} {xs : List V} (hq : SqA K H0 a xs) (Pv : Nat → L2.St → Hp → Prop) (hv : ∀ Q : VK, Q (.ref a) H → ta σ H Q) (h0 : Pv 0 σ H) (hl : ∀ i σ H, Pv i σ H → Ex H0 H)
    (hs : ∀ i x σ H, xs[i]? = some x → Pv i σ H → g x σ H fun σ2 H2 => tb { D with nx := Pv (i + 1), ct := Pv (i + 1), bk := D.nx } σ2 H2) (hd : ∀ σ H, Pv xs.length σ H → D.nx σ H) : tFor (iSeq K ta) g tb D σ H := by
  refine forS_of (hv _ ⟨a, rfl, ?_⟩)
  rcases hq with hq | hq
  · exact .inl ⟨⟨xs, ex_l (hl _ _ _ h0) hq⟩, for_list (K := K) (a := a) (xs := xs) Pv h0 (fun i σ H _ p => ex_l (hl _ _ _ p) hq) hs hd⟩
  · exact .inr ⟨⟨xs, ex_t (hl _ _ _ h0) hq⟩, for_tup (K := K) (a := a) (xs := xs) Pv h0 (fun i σ H _ p => ex_t (hl _ _ _ p) hq) hs hd⟩
theorem lc_seqA {K : PySem.W.Frag} {ta te : TE} {g : TG} {tt : TT} {vs : List Nat} {σ : L2.St} {H0 H : Hp} {a : Addr} {xs : List V} {Q : VK} (hq : SqA K H0 a xs) (e0 : Ex H0 H) (hv : ∀ Q : VK, Q (.ref a) H → ta σ H Q)
    (k : ∀ D, H D = none → ∃ Pv : Nat → Hp → Prop, Pv 0 (upd H D (.lst [])) ∧ (∀ i H, Pv i H → Ex H0 H) ∧
      (∀ i x H, xs[i]? = some x → Pv i H → g x (wipe σ vs) H fun σ2 H2 => wipe σ2 vs = wipe σ vs ∧ tt σ2 H2 fun b H3 => if b = true then te σ2 H3 fun y H4 => ∃ acc, H4 D = some (.lst acc) ∧ acc.length < sizeLine ∧ Pv (i + 1) (upd H4 D (.lst (acc ++ [y]))) else Pv (i + 1) H3) ∧
      ∀ H, Pv xs.length H → Q (.ref D) H) : tLc (iSeq K ta) g tt te vs σ H Q := by
  refine lc_of (hv _ ⟨a, rfl, ?_⟩)
  rcases hq with hq | hq
  · refine .inl ⟨⟨xs, ex_l e0 hq⟩, fun D hD => ?_⟩
    obtain ⟨Pv, h0, hl, hs, hd⟩ := k D hD
    exact lc_list (K := K) (a := a) (xs := xs) Pv h0 (fun i H _ p => ex_l (hl _ _ p) hq) hs hd
  · refine .inr ⟨⟨xs, ex_t e0 hq⟩, fun D hD => ?_⟩
    obtain ⟨Pv, h0, hl, hs, hd⟩ := k D hD
    exact lc_tup (K := K) (a := a) (xs := xs) Pv h0 (fun i H _ p => ex_t (hl _ _ p) hq) hs hd
end Sn
/-! Any value of data, as it lies in a heap off one address that changes: read, told by its type, shown, compared with () and with a text. -/
namespace Sn
open PySem PySem.Spec PyProof.Rows L2 Gd
/-- a tuple that is known -/
def SqP (K : PySem.W.Frag) (H : Hp) (a : Addr) (xs : List V) : Prop := H a = some (.tup xs)
theorem SqP.sq {K : PySem.W.Frag} {H : Hp} {a : Addr} {xs : List V} (h : SqP K H a xs) : SqT K H a xs := .inl (.inl h)
mutual
inductive Av (K : PySem.W.Frag) (d : Addr → Prop) (H : Hp) : V → PyData → Prop
  | non : Av K d H .non .none
  | bl (b : Bool) : Av K d H (.bl b) (.bool b)
  | int (i : Int) : Av K d H (.int i) (.int i)
  | str (x : Str) : Av K d H (.str x) (.str x)
  | lst {a : Addr} {xs : List V} {ds : List PyData} : a ≠ sysModules → ¬ d a → H a = some (.lst xs) → AvAll K d H xs ds → Av K d H (.ref a) (.list ds)
  | tup {a : Addr} {xs : List V} {ds : List PyData} : ¬ d a → SqP K H a xs → AvAll K d H xs ds → Av K d H (.ref a) (.tuple ds)
  | dnil {a : Addr} : ¬ d a → H a = some (.dK []) → Av K d H (.ref a) (.dict [])
  | done {a : Addr} {k : Str} {x : V} {e : PyData} : ¬ d a → H a = some (.dK [(.inr k, x)]) → Av K d H x e → Av K d H (.ref a) (.dict [(.str k, e)])
inductive AvAll (K : PySem.W.Frag) (d : Addr → Prop) (H : Hp) : List V → List PyData → Prop
  | nil : AvAll K d H [] []
  | cons {v : V} {vs : List V} {e : PyData} {es : List PyData} : Av K d H v e → AvAll K d H vs es → AvAll K d H (v :: vs) (e :: es)
end
/-- what H' keeps but for d -/
def Byd (d : Addr → Prop) (H H' : Hp) : Prop := ∀ a o, ¬ d a → H a = some o → H' a = some o
theorem sqT_byd {K : PySem.W.Frag} {d : Addr → Prop} {a : Addr} {H H' : Hp} {xs : List V} (e : Byd d H H') (n : ¬ d a) (h : SqT K H a xs) : SqT K H' a xs := by
  rcases h with (h | ⟨o, h⟩) | h
  · exact .inl (.inl (e _ _ n h))
  · exact .inl (.inr ⟨o, e _ _ n h⟩)
  · exact .inr h
mutual
theorem Av.keep {K : PySem.W.Frag} {d : Addr → Prop} {H H' : Hp} (e : Byd d H H') : ∀ {v : V} {x : PyData}, Av K d H v x → Av K d H' v x
  | _, _, .non => .non
  | _, _, .bl b => .bl b
  | _, _, .int i => .int i
  | _, _, .str x => .str x
  | _, _, .lst n q h r => .lst n q (e _ _ q h) (AvAll.keep e r)
  | _, _, .tup q h r => .tup q (e _ _ q h) (AvAll.keep e r)
  | _, _, .dnil q h => .dnil q (e _ _ q h)
  | _, _, .done q h r => .done q (e _ _ q h) (Av.keep e r)
theorem AvAll.keep {K : PySem.W.Frag} {d : Addr → Prop} {H H' : Hp} (e : Byd d H H') : ∀ {vs : List V} {xs : List PyData}, AvAll K d H vs xs → AvAll K d H' vs xs
  | _, _, .nil => .nil
  | _, _, .cons a b => .cons (Av.keep e a) (AvAll.keep e b)
end
theorem AvAll.len {K : PySem.W.Frag} {d : Addr → Prop} {H : Hp} : ∀ {vs : List V} {xs : List PyData}, AvAll K d H vs xs → vs.length = xs.length
  | _, _, .nil => rfl
  | _, _, .cons _ b => by rw [List.length_cons, List.length_cons, AvAll.len b]
theorem AvAll.app {K : PySem.W.Frag} {d : Addr → Prop} {H : Hp} {us : List V} {ys : List PyData} (h : AvAll K d H us ys) : ∀ {vs : List V} {xs : List PyData}, AvAll K d H vs xs → AvAll K d H (vs ++ us) (xs ++ ys)
  | _, _, .nil => h
  | _, _, .cons a b => .cons a (AvAll.app h b)
theorem AvAll.get {K : PySem.W.Frag} {d : Addr → Prop} {H : Hp} : ∀ {vs : List V} {xs : List PyData} {i : Nat} {v : V}, AvAll K d H vs xs → vs[i]? = some v → ∃ x, xs[i]? = some x ∧ Av K d H v x
  | _, _, _, _, .nil, h => by simp at h
  | _, _, 0, _, .cons a _, h => by
    cases h
    exact ⟨_, rfl, a⟩
  | _, _, i + 1, _, .cons _ b, h => by
    obtain ⟨x, e, q⟩ := AvAll.get b (show _ = some _ from h)
    exact ⟨x, e, q⟩
theorem AvAll.get' {K : PySem.W.Frag} {d : Addr → Prop} {H : Hp} : ∀ {vs : List V} {xs : List PyData} {i : Nat} {x : PyData}, AvAll K d H vs xs → xs[i]? = some x → ∃ v, vs[i]? = some v ∧ Av K d H v x
  | _, _, _, _, .nil, h => by simp at h
  | _, _, 0, _, .cons a _, h => by
    cases h
    exact ⟨_, rfl, a⟩
  | _, _, i + 1, _, .cons _ b, h => by
    obtain ⟨x, e, q⟩ := AvAll.get' b (show _ = some _ from h)
    exact ⟨x, e, q⟩
theorem AvAll.drop {K : PySem.W.Frag} {d : Addr → Prop} {H : Hp} : ∀ {vs : List V} {xs : List PyData} (n : Nat), AvAll K d H vs xs → AvAll K d H (vs.drop n) (xs.drop n)
  | _, _, 0, h => h
  | _, _, _ + 1, .nil => .nil
  | _, _, n + 1, .cons _ b => AvAll.drop n b
theorem AvAll.take {K : PySem.W.Frag} {d : Addr → Prop} {H : Hp} : ∀ {vs : List V} {xs : List PyData} (n : Nat), AvAll K d H vs xs → AvAll K d H (vs.take n) (xs.take n)
  | _, _, 0, _ => .nil
  | _, _, _ + 1, .nil => .nil
  | _, _, n + 1, .cons a b => .cons a (AvAll.take n b)
theorem AvAll.rev {K : PySem.W.Frag} {d : Addr → Prop} {H : Hp} : ∀ {vs : List V} {xs : List PyData}, AvAll K d H vs xs → AvAll K d H vs.reverse xs.reverse
  | _, _, .nil => .nil
  | _, _, .cons a b => by
    rw [List.reverse_cons, List.reverse_cons]
    exact AvAll.app (.cons a .nil) (AvAll.rev b)
section
variable {d : Addr → Prop} {X : Cx} {pins : List (Addr × Obj)} {σ : L2.St} {H : Hp} {s : Shared}
mutual
theorem Av.reads (I : Inv X pins σ H s) : ∀ {v : V} {x : PyData} {u : Value}, Av X.K d H v x → RelV v u → ∃ as, Reads s.heap u x as ∧ sysModules ∉ as
  | _, _, _, .non, r => by
    cases (show _ = Value.none from r)
    exact ⟨_, .none, by simp⟩
  | _, _, _, .bl b, r => by
    cases (show _ = Value.bool b from r)
    exact ⟨_, .bool b, by simp⟩
  | _, _, _, .int i, r => by
    obtain ⟨t, rfl⟩ := (show ∃ t, _ = Value.int i t from r)
    exact ⟨_, .int i t, by simp⟩
  | _, _, _, .str x, r => by
    obtain ⟨t, rfl⟩ := (show ∃ t, _ = Value.str x t from r)
    exact ⟨_, .str x t, by simp⟩
  | _, _, _, @Av.lst _ _ _ a _ _ n _ h m, r => by
    cases (show _ = Value.ref a from r)
    obtain ⟨its, rv, ⟨o, k, ho, hc, _, hd⟩, _⟩ := I.list (.inl (.inl h))
    obtain ⟨as, hr, q⟩ := AvAll.reads I m rv
    refine ⟨_, .list ho hc hd hr, fun z => ?_⟩
    rcases List.mem_cons.mp z with z | z
    · exact n z.symm
    · exact q z
  | _, _, _, @Av.tup _ _ _ a _ _ _ h m, r => by
    cases (show _ = Value.ref a from r)
    obtain ⟨its, rv, ⟨o, ho, hc, k, hd⟩, _⟩ := I.tuple h.sq
    obtain ⟨as, hr, q⟩ := AvAll.reads I m rv
    exact ⟨_, .tuple ho hc hd hr, q⟩
  | _, _, _, @Av.dnil _ _ _ a _ h, r => by
    cases (show _ = Value.ref a from r)
    obtain ⟨_, ns, vs, kv, o, es, ep, ho, hx, hd, _, hp, _⟩ := dk_of I.hok h
    cases kv
    generalize hl : es.toList = l at hp
    cases hp
    refine ⟨_, .dict ho hx.1 hd (kvs := []) (by rw [hl]; exact .nil) (by rw [hl]; exact .nil), fun z => ?_⟩
    have z' : sysModules = a := by simpa using z
    rw [z'] at ns
    simp at ns
  | _, _, _, @Av.done _ _ _ a k x e _ h m, r => by
    cases (show _ = Value.ref a from r)
    obtain ⟨_, ns, vs, kv, o, es, ep, ho, hx, hd, _, hp, _⟩ := dk_of I.hok h
    cases kv with
    | @cons _ q _ _ q1 q2 =>
      cases q2
      generalize hl : es.toList = l at hp
      cases hp with
      | @cons e' _ _ _ h1 h2 h3 =>
        cases h3
        obtain ⟨e1, e2⟩ := q1
        have hk : ∃ t, e'.key = Value.str k t := by
          rw [← e1] at h1
          rcases keyIs_shape (show keyIs (.inr k) e'.key = true from h1) with ⟨i, t, z, _⟩ | ⟨y, t, z, w⟩
          · cases z
          · cases z
            exact ⟨t, w⟩
        obtain ⟨t, hk⟩ := hk
        obtain ⟨as, hr, n⟩ := Av.reads I m (show RelV x e'.val by rw [h2]; exact e2)
        refine ⟨_, .dict ho hx.1 hd (kvs := [(.str k, e)]) (by rw [hl]; show ReadsAll _ [e'.key] _ _; rw [hk]; exact .cons (.str k t) .nil) (by rw [hl]; exact .cons hr .nil), fun z => ?_⟩
        have z' : sysModules = a ∨ sysModules ∈ as := by simpa using z
        rcases z' with z' | z'
        · rw [z'] at ns
          simp at ns
        · exact n z'
theorem AvAll.reads (I : Inv X pins σ H s) : ∀ {vs : List V} {es : List PyData} {us : List Value}, AvAll X.K d H vs es → Vals vs us → ∃ as, ReadsAll s.heap us es as ∧ sysModules ∉ as
  | _, _, _, .nil, r => by
    cases r
    exact ⟨_, .nil, by simp⟩
  | _, _, _, .cons a b, r => by
    cases r with
    | cons r1 r2 =>
      obtain ⟨as, q1, n1⟩ := Av.reads I a r1
      obtain ⟨bs, q2, n2⟩ := AvAll.reads I b r2
      exact ⟨_, .cons q1 q2, fun z => (List.mem_append.mp z).elim n1 n2⟩
end
end
/-! ### its type -/
def tyName : PyData → String
  | .none => "NoneType"
  | .bool _ => "bool"
  | .int _ => "int"
  | .str _ => "str"
  | .list _ => "list"
  | .tuple _ => "tuple"
  | .dict _ => "dict"
theorem ty_av {K : PySem.W.Frag} {d : Addr → Prop} {H : Hp} {x : V} {e : PyData} (h : Av K d H x e) : TyX K H x (.type (tyName e)) := by
  cases h with
  | non => exact .base .non
  | bl b => exact .base (.bl b)
  | int i => exact .base (.int i)
  | str x => exact .base (.str x)
  | lst _ _ e _ => exact .base (.lst e)
  | tup _ e _ => exact .base (.tup e)
  | dnil _ e => exact .base (.dK e)
  | done _ e _ => exact .base (.dK e)
def isTup : PyData → Bool
  | .tuple _ => true
  | _ => false
def isStr : PyData → Bool
  | .str _ => true
  | _ => false
def isBool : PyData → Bool
  | .bool _ => true
  | _ => false
def isInt : PyData → Bool
  | .bool _ | .int _ => true
  | _ => false
theorem kit_tup (e : PyData) : kitB (tyName e) "tuple" = some (isTup e) := by cases e <;> (first | exact (by decide +kernel : kitB "NoneType" "tuple" = some false) | exact (by decide +kernel : kitB "bool" "tuple" = some false) | exact (by decide +kernel : kitB "int" "tuple" = some false) | exact (by decide +kernel : kitB "str" "tuple" = some false) | exact (by decide +kernel : kitB "list" "tuple" = some false) | exact (by decide +kernel : kitB "tuple" "tuple" = some true) | exact (by decide +kernel : kitB "dict" "tuple" = some false))
theorem kit_str (e : PyData) : kitB (tyName e) "str" = some (isStr e) := by cases e <;> (first | exact (by decide +kernel : kitB "NoneType" "str" = some false) | exact (by decide +kernel : kitB "bool" "str" = some false) | exact (by decide +kernel : kitB "int" "str" = some false) | exact (by decide +kernel : kitB "str" "str" = some true) | exact (by decide +kernel : kitB "list" "str" = some false) | exact (by decide +kernel : kitB "tuple" "str" = some false) | exact (by decide +kernel : kitB "dict" "str" = some false))
theorem kit_bool (e : PyData) : kitB (tyName e) "bool" = some (isBool e) := by cases e <;> (first | exact (by decide +kernel : kitB "NoneType" "bool" = some false) | exact (by decide +kernel : kitB "bool" "bool" = some true) | exact (by decide +kernel : kitB "int" "bool" = some false) | exact (by decide +kernel : kitB "str" "bool" = some false) | exact (by decide +kernel : kitB "list" "bool" = some false) | exact (by decide +kernel : kitB "tuple" "bool" = some false) | exact (by decide +kernel : kitB "dict" "bool" = some false))
theorem kit_int (e : PyData) : kitB (tyName e) "int" = some (isInt e) := by cases e <;> (first | exact (by decide +kernel : kitB "NoneType" "int" = some false) | exact (by decide +kernel : kitB "bool" "int" = some true) | exact (by decide +kernel : kitB "int" "int" = some true) | exact (by decide +kernel : kitB "str" "int" = some false) | exact (by decide +kernel : kitB "list" "int" = some false) | exact (by decide +kernel : kitB "tuple" "int" = some false) | exact (by decide +kernel : kitB "dict" "int" = some false))
section
variable {X : Cx}
/-! ### shown -/
def rReprA (K : PySem.W.Frag) : List V → Hp → VK → Prop := fun xs H Q => ∃ d x e, xs = [x] ∧ Av K d H x e ∧ e.showable = true ∧ e.depth ≤ 40 ∧ e.shown.length ≤ sizeLine ∧ Q (.str e.shown) H
theorem call_reprA (gd : X.A.guards = some []) (un : X.A.units + 64 < cLine) : CallR X (.builtin "repr") (rReprA X.K) := by
  rintro pins s σ H xs us Q I rel ⟨d, x, e, rfl, hd, sh, dep, sz, q⟩
  obtain ⟨u, rfl, rv⟩ := vals1 rel
  obtain ⟨as, reads, nsys⟩ := Av.reads I hd rv
  have big : ∀ {a : Addr}, u = .ref a → wpAny (model X.prog X.w) X.A (call (.builtin "repr") [u]) (EP X pins σ Q) X.xe s := fun e => by
    subst e
    exact repr_of_reads' reads sh (fun _ => nsys) gd (by omega) (fun _ _ e => e) (fun h2 u2 tk keep => ⟨.str _, H, I.kept keep, ⟨u2, rfl⟩, q⟩) sz
  cases hd with
  | non =>
    cases rv
    exact PySem.P.repr_of_none ⟨.str "None", H, I.tok _, ⟨_, rfl⟩, q⟩
  | bl b =>
    cases rv
    exact PySem.P.repr_of_bool ⟨.str (if b then "True" else "False"), H, I.tok _, ⟨_, rfl⟩, q⟩
  | int i =>
    obtain ⟨t, rfl⟩ := rv
    refine PySem.P.repr_of_int ?_ ⟨.str _, H, I.tok _, ⟨_, rfl⟩, q⟩
    simpa [PyData.showable] using sh
  | str z =>
    obtain ⟨t, rfl⟩ := rv
    exact PySem.P.repr_of_str ⟨.str _, H, I.tok _, ⟨_, rfl⟩, q⟩ sz
  | lst _ _ _ _ => exact big rv
  | tup _ _ _ => exact big rv
  | dnil _ _ => exact big rv
  | done _ _ _ => exact big rv
/-! ### compared with () -/
def rEqT0 (K : PySem.W.Frag) : R2 := fun x y H Q => ∃ a b xs, x = .ref a ∧ y = .ref b ∧ SqT K H a xs ∧ SqT K H b [] ∧ Q (.bl (decide (xs = []))) H
theorem rc_tup0 {A : Around} {s : Shared} {a b : Addr} {us : List Value} (hu : A.units < cLine) (h : s.heap.IsTuple a us.toArray) (g : s.heap.IsTuple b #[]) : SeqAt.RcAt A s (.ref a) (.ref b) (decide (us = [])) := by
  have e := SeqAt.RcAt.tuples (e := fun _ => true) h g hu fun j _ h2 => absurd h2 (Nat.not_lt_zero _)
  have z : ((List.range (min us.toArray.size (#[] : Array Value).size)).all (fun _ => true) && us.toArray.size == (#[] : Array Value).size) = decide (us = []) := by
    cases us <;> simp
  rw [z] at e
  exact e
theorem op_eqT0 (hu : X.A.units < cLine) : OpR X (compareOp .Eq) (rEqT0 X.K) := by
  intro pins s σ H x y v u Q I rx ry h
  obtain ⟨a, b, xs, rfl, rfl, ha, hb, q⟩ := h
  cases (show v = Value.ref a from rx)
  cases (show u = Value.ref b from ry)
  obtain ⟨us, r1, h1, _⟩ := I.tuple ha
  obtain ⟨ws, r2, h2, _⟩ := I.tuple hb
  cases r2
  refine rc_tup0 hu h1 h2 X.prog X.w _ _ ⟨.bl _, H, I, rfl, ?_⟩
  have : (us = []) = (xs = []) := by
    have := r1.length
    apply propext
    constructor
    · intro z
      rw [z] at this
      exact List.eq_nil_of_length_eq_zero this
    · intro z
      rw [z] at this
      exact List.eq_nil_of_length_eq_zero this.symm
  simp only [this]
  exact q
end
/-! ### compared with a text -/
theorem dict_eq_no_str (l : Addr) (o : Obj) (c : o.cls = .type "dict") (b : Str) (u : Tok) :
    Meets (Builtin.«dict.__eq__» ⟨[.ref l, .str b u], []⟩) (fun _ R s => s.heap.get? l = some o ∧ R (.ok (.ret .notImplemented)) s) :=
  .of_wp fun prog w A R s h => by obtain ⟨hp, g, d, tk, os⟩ := s; obtain ⟨hl, h⟩ := h; have f1 := PySem.F.sub_str_dict; wp_walk using wpAny_loadPart' hl, wpAny_load hl; exact ⟨_, rfl, h⟩
def eqTx (e : PyData) (c : Str) : Bool := match e with
  | .str x => x == c
  | _ => false
theorem eqTx_iff {e : PyData} {c : Str} : eqTx e c = true ↔ e = .str c := by
  cases e <;> simp [eqTx]
theorem str_eq_no_dict (b : Str) (u : Tok) (l : Addr) (o : Obj) (c : o.cls = .type "dict") (es : Array DictEntry) (ep : Nat) (hd : o.data = .dict es ep) :
    Meets (Builtin.«str.__eq__» ⟨[.str b u, .ref l], []⟩) (fun _ R s => s.heap.get? l = some o ∧ R (.ok (.ret .notImplemented)) s) := by
  obtain ⟨cls, dd, dt, sl⟩ := o
  simp only at c hd
  subst c hd
  exact .of_wp fun prog w A R s h => by obtain ⟨hp, g, d, tk, os⟩ := s; obtain ⟨hl, h⟩ := h; have f1 := PySem.F.sub_dict_str; wp_walk using wpAny_loadPart' hl, wpAny_load hl; exact ⟨_, rfl, h⟩
section
variable {A : Around} {s : Shared}
theorem rc_dict_str {l : Addr} {o : Obj} (b : Str) (u : Tok) (ho : s.heap.get? l = some o) (hc : o.cls = .type "dict") (es : Array DictEntry) (ep : Nat) (hd : o.data = .dict es ep) (hu : A.units < cLine) : SeqAt.RcAt A s (.ref l) (.str b u) false := fun prog w E Q h => by
  exact SeqAt.rc_eq_decline_or (k := false) ⟨_, ho, hc⟩ (typeIs_str s b u) (by decide) PySem.F.sub_str_dict PySem.F.slot_dict_eq PySem.F.slot_str_eq_refl
    (fun _ hq => call_meets PySem.F.slot_dict_eq ⟨_, ho, hc⟩ PySem.F.entry_dict_eq (PySem.F.args_dict_eq_2 _ _) (dict_eq_no_str l o hc b u) ⟨ho, hq⟩)
    (fun _ hq => call_meets PySem.F.slot_str_eq_refl (typeIs_str s b u) PySem.F.entry_str_eq (PySem.F.args_str_eq_2 _ _) (str_eq_no_dict b u l o hc es ep hd) ⟨ho, hq⟩)
    (fun _ hq => wpAny_of_eq (rfl : isSame (.ref l) (.str b u) = pure false) hq) (.inr hu) h
theorem rc_str_dict {l : Addr} {o : Obj} (b : Str) (u : Tok) (ho : s.heap.get? l = some o) (hc : o.cls = .type "dict") (es : Array DictEntry) (ep : Nat) (hd : o.data = .dict es ep) (hu : A.units < cLine) : SeqAt.RcAt A s (.str b u) (.ref l) false := fun prog w E Q h => by
  exact SeqAt.rc_eq_decline_or (k := false) (typeIs_str s b u) ⟨_, ho, hc⟩ (by decide) PySem.F.sub_dict_str PySem.F.slot_str_eq PySem.F.slot_dict_eq_refl
    (fun _ hq => call_meets PySem.F.slot_str_eq (typeIs_str s b u) PySem.F.entry_str_eq (PySem.F.args_str_eq_2 _ _) (str_eq_no_dict b u l o hc es ep hd) ⟨ho, hq⟩)
    (fun _ hq => call_meets PySem.F.slot_dict_eq_refl ⟨_, ho, hc⟩ PySem.F.entry_dict_eq (PySem.F.args_dict_eq_2 _ _) (dict_eq_no_str l o hc b u) ⟨ho, hq⟩)
    (fun _ hq => wpAny_of_eq (rfl : isSame (.str b u) (.ref l) = pure false) hq) (.inr hu) h
theorem eqAt_str_dict {l : Addr} {o : Obj} (b : Str) (u : Tok) (ho : s.heap.get? l = some o) (hc : o.cls = .type "dict") (es : Array DictEntry) (ep : Nat) (hd : o.data = .dict es ep) (hu : A.units < cLine) : SeqAt.EqAt A s (.str b u) (.ref l) false := fun prog w E Q h => by
  unfold eqBool
  refine wpAny_holding ?_
  refine wpAny_ite_split (fun hab => absurd (eq_of_beq hab) nofun) (fun _ => ?_)
  exact wpAny_bind (rc_str_dict b u ho hc es ep hd hu prog w E _ (wpAny_truthy_bool h))
end
section
variable {d : Addr → Prop} {X : Cx} {pins : List (Addr × Obj)} {σ : L2.St} {H : Hp} {s : Shared}
theorem Av.dict_at (I : Inv X pins σ H s) {a : Addr} {kvs : List (PyData × PyData)} (h : Av X.K d H (.ref a) (.dict kvs)) : ∃ o es ep, s.heap.get? a = some o ∧ o.cls = .type "dict" ∧ o.data = .dict es ep := by
  cases h with
  | dnil _ h =>
    obtain ⟨_, ns, vs, kv, o, es, ep, ho, hx, hd, _⟩ := dk_of I.hok h
    exact ⟨o, es, ep, ho, hx.1, hd⟩
  | done _ h _ =>
    obtain ⟨_, ns, vs, kv, o, es, ep, ho, hx, hd, _⟩ := dk_of I.hok h
    exact ⟨o, es, ep, ho, hx.1, hd⟩
theorem Av.rc_str (I : Inv X pins σ H s) (hu : X.A.units < cLine) {x : V} {e : PyData} {v : Value} (h : Av X.K d H x e) (r : RelV x v) (c : Str) (t : Tok) : SeqAt.RcAt X.A s v (.str c t) (eqTx e c) := by
  cases h with
  | non =>
    cases (show v = Value.none from r)
    exact SeqAt.RcAt.none_str c t
  | bl b =>
    cases (show v = Value.bool b from r)
    exact SeqAt.RcAt.bool_str b c t
  | int i =>
    obtain ⟨u, rfl⟩ := (show ∃ u, v = Value.int i u from r)
    exact SeqAt.RcAt.int_str i u c t
  | str x =>
    obtain ⟨u, rfl⟩ := (show ∃ u, v = Value.str x u from r)
    exact SeqAt.RcAt.str_str x u c t
  | @lst a xs ds n1 n2 ha hd =>
    cases (show v = Value.ref a from r)
    obtain ⟨its, rv, pl, _⟩ := I.list (.inl (.inl ha))
    exact SeqAt.RcAt.list_str c t pl.isList hu
  | @tup a xs ds n1 ha hd =>
    cases (show v = Value.ref a from r)
    obtain ⟨its, rv, pl, _⟩ := I.tuple ha.sq
    exact SeqAt.RcAt.tuple_str c t pl hu
  | @dnil a n1 ha =>
    cases (show v = Value.ref a from r)
    obtain ⟨o, es, ep, ho, hc, hdt⟩ := Av.dict_at (d := d) I (Av.dnil n1 ha)
    exact rc_dict_str c t ho hc es ep hdt hu
  | @done a k y e' n1 ha hd =>
    cases (show v = Value.ref a from r)
    obtain ⟨o, es, ep, ho, hc, hdt⟩ := Av.dict_at (d := d) I (Av.done n1 ha hd)
    exact rc_dict_str c t ho hc es ep hdt hu
theorem Av.eqAt_str (I : Inv X pins σ H s) (hu : X.A.units < cLine) {A : Around} (hA : A.units < cLine) {x : V} {e : PyData} {v : Value} (h : Av X.K d H x e) (r : RelV x v) (c : Str) (t : Tok) : SeqAt.EqAt A s (.str c t) v (eqTx e c) := by
  cases h with
  | non =>
    cases (show v = Value.none from r)
    exact SeqAt.EqAt.str_none c t
  | bl b =>
    cases (show v = Value.bool b from r)
    exact SeqAt.EqAt.str_bool c t b
  | int i =>
    obtain ⟨u, rfl⟩ := (show ∃ u, v = Value.int i u from r)
    exact SeqAt.EqAt.str_int c t i u
  | str x =>
    obtain ⟨u, rfl⟩ := (show ∃ u, v = Value.str x u from r)
    rw [show eqTx (.str x) c = (c == x) from by rw [eqTx]; exact Bool.beq_comm]
    exact SeqAt.EqAt.str_str c t x u
  | @lst a xs ds n1 n2 ha hd =>
    cases (show v = Value.ref a from r)
    obtain ⟨its, rv, pl, _⟩ := I.list (.inl (.inl ha))
    exact SeqAt.EqAt.str_list c t pl.isList hA
  | @tup a xs ds n1 ha hd =>
    cases (show v = Value.ref a from r)
    obtain ⟨its, rv, pl, _⟩ := I.tuple ha.sq
    exact SeqAt.EqAt.str_tuple c t pl hA
  | @dnil a n1 ha =>
    cases (show v = Value.ref a from r)
    obtain ⟨o, es, ep, ho, hc, hdt⟩ := Av.dict_at (d := d) I (Av.dnil n1 ha)
    exact eqAt_str_dict c t ho hc es ep hdt hA
  | @done a k y e' n1 ha hd =>
    cases (show v = Value.ref a from r)
    obtain ⟨o, es, ep, ho, hc, hdt⟩ := Av.dict_at (d := d) I (Av.done n1 ha hd)
    exact eqAt_str_dict c t ho hc es ep hdt hA
end
section
variable {X : Cx}
/-- any value == a text -/
def rEqTx (K : PySem.W.Frag) : R2 := fun x y H Q => ∃ d e c, Av K d H x e ∧ y = .str c ∧ Q (.bl (eqTx e c)) H
theorem op_eqTx (hu : X.A.units < cLine) : OpR X (compareOp .Eq) (rEqTx X.K) := by
  intro pins s σ H x y v u Q I rx ry h
  obtain ⟨d, e, c, ha, rfl, q⟩ := h
  obtain ⟨t, rfl⟩ := (show ∃ t, u = Value.str c t from ry)
  exact Av.rc_str I hu ha rx c t X.prog X.w _ _ ⟨.bl _, H, I, rfl, q⟩
/-- any value in (texts) -/
def rInTx (K : PySem.W.Frag) : R2 := fun x y H Q => ∃ (d : Addr → Prop) (e : PyData) (p : Addr) (cs : List Str), Av K d H x e ∧ y = .ref p ∧ SqT K H p (cs.map V.str) ∧ Q (.bl (cs.any (eqTx e))) H
def txU (e : PyData) (u : Value) : Bool := match u with
  | .str z _ => eqTx e z
  | _ => false
theorem any_txU {e : PyData} : ∀ {cs : List Str} {us : List Value}, Vals (cs.map V.str) us → us.any (txU e) = cs.any (eqTx e)
  | [], _, .nil => rfl
  | c :: cs, _, .cons r t => by
    obtain ⟨k, rfl⟩ := (show ∃ k, _ = Value.str c k from r)
    rw [List.any_cons, List.any_cons, any_txU t]
    rfl
theorem mem_txU : ∀ {cs : List Str} {us : List Value}, Vals (cs.map V.str) us → ∀ u ∈ us, ∃ c t, u = Value.str c t
  | [], _, .nil, u, h => absurd h List.not_mem_nil
  | c :: cs, _, .cons r t, u, h => by
    obtain ⟨k, rfl⟩ := (show ∃ k, _ = Value.str c k from r)
    rcases List.mem_cons.mp h with rfl | h
    · exact ⟨_, _, rfl⟩
    · exact mem_txU t u h
theorem op_inTx (hu : X.A.units + 64 < cLine) : OpR X (compareOp .In) (rInTx X.K) := by
  intro pins s σ H x y v u Q I rx ry h
  obtain ⟨d, e, p, cs, ha, rfl, hq, q⟩ := h
  cases (show u = Value.ref p from ry)
  obtain ⟨its, r, pl, hz⟩ := I.tuple hq
  refine SeqAt.in_tupleAt (txU e) pl (fun w hw => ?_) ⟨.bl _, H, I, rfl, ?_⟩
  · obtain ⟨c, t, rfl⟩ := mem_txU r w (by simpa using hw)
    exact Av.eqAt_str I (by omega) (A := X.A.in1) (show X.A.units + 1 < cLine by omega) ha rx c t
  · rw [show its.toArray.any (txU e) = its.any (txU e) by simp, any_txU r]
    exact q
end
end Sn
/-! Methods that say super().__init__(..) in an exception's class over ValueError. -/
namespace Ex
open PySem PySem.Spec PyProof.Rows L2 Gd
/-- a method that closes over the cell of its class D -/
structure FunC (P : Program) (K : PySem.W.Frag) (x qual : Str) (st : Stmt) (D f : Addr) (fd : FuncData) : Prop where
  ex : ∃ (oc kV doc pm ct ccl cl : Value) (od an cdd cld : Option Addr) (cda cc : Addr) (osl ccs csl : Array (Option Value)) (vs : Array Value) (file : Str) (tf : Tok),
    fd = PySem.W.fnX x qual (defArgs st) (defBody st) (defScope st) [("__class__", cc)] .none kV doc pm an (.ref cda) ct ∧ K.lookup f = some ⟨oc, od, .func fd, osl⟩ ∧ PySem.W.codeIn K (.ref cda) qual = true ∧
    K.lookup cc = some ⟨cl, cld, .cell (some (.ref D)), csl⟩ ∧ K.lookup cda = some ⟨ccl, cdd, .fields vs, ccs⟩ ∧ vs[2]? = some (.str file tf) ∧ ((P.main.file : Str) == file) = true
/-- its names: parameters, the class's cell, super -/
structure FnScopeC (N ps : List Str) (sc : Scope) : Prop where
  kind : sc.kind = .function
  co : sc.isCoroutine = false
  gen : sc.isGenerator = false
  nd : N.Nodup
  pre : N.take ps.length = ps
  par : ∀ y ∈ ps, sc.names.lookup y = some .local
  nocell : ∀ y ∈ sc.names, y.2 ≠ .cell
  free : ∀ y ∈ sc.names, y.2 = .free → y.1 = "__class__"
  sup : sc.names.lookup ("super" : Str) = some .globalImplicit
  cls : sc.names.lookup ("__class__" : Str) = some .free
def cxC (CX : CXT) (P : Program) (w : World) (K : PySem.W.Frag) (mg : Str → Option Value) (base : Heap) (N : List Str) (qual : Str) (scope : Scope) (f cda cc : Addr) (A : Around) (outer : List Env) (s : Shared) (H : Hp) (E : XK) : Cx where
  prog := P
  w := w
  K := K
  mg := mg
  base := base
  A := A.deeper (PySem.W.ksEnv qual scope s.heap.objs.size f (.ref cda) cc)
  N := N
  s_0 := s
  H_0 := H
  env := PySem.W.ksEnv qual scope s.heap.objs.size f (.ref cda) cc
  outer := outer
  stack := PySem.W.ksEnv qual scope s.heap.objs.size f (.ref cda) cc :: outer
  ex := []
  calm := true
  fn := fun _ => false
  pn := []
  xe := fun e s' => wpAny (model P w) (A.deeper (PySem.W.ksEnv qual scope s.heap.objs.size f (.ref cda) cc)) (leaving (PySem.W.ksEnv qual scope s.heap.objs.size f (.ref cda) cc) e) (fun _ s'' => CX outer H s E e s'') (fun e' s'' => CX outer H s E e' s'') s'
theorem one_cell {cc c : Addr} {y : Str} (h : ([("__class__", cc)] : List (Str × Addr)).lookup y = some c) : y = "__class__" ∧ c = cc := by
  unfold List.lookup at h
  split at h
  · rename_i e
    cases h
    exact ⟨by simpa using e, rfl⟩
  · simp at h
theorem lookup_mem {y : Str} {u : Value} : ∀ {l : List (Str × Value)}, (l.map (·.1)).Nodup → (y, u) ∈ l → l.lookup y = some u
  | [], _, h => nomatch h
  | (z, v) :: l, nd, h => by
    rcases List.mem_cons.mp h with e | h
    · cases e
      simp [List.lookup]
    · have hz : y ≠ z := by
        intro e
        rw [← e] at nd
        exact (List.nodup_cons.mp nd).1 (List.mem_map.mpr ⟨(y, u), h, rfl⟩)
      have hb : (y == z) = false := by simpa using hz
      simp only [List.lookup, hb]
      exact lookup_mem (List.nodup_cons.mp nd).2 h
theorem zip_keys : ∀ (ps : List Str) (us : List Value), ps.Nodup → ((ps.zip us).map (·.1)).Nodup
  | [], _, _ => by simp
  | _ :: _, [], _ => by simp
  | p :: ps, u :: us, nd => by
    simp only [List.zip_cons_cons, List.map_cons, List.nodup_cons]
    refine ⟨fun h => (List.nodup_cons.mp nd).1 ?_, zip_keys ps us (List.nodup_cons.mp nd).2⟩
    obtain ⟨q, hq, e⟩ := List.mem_map.mp h
    rw [← e]
    exact (List.of_mem_zip (show (q.1, q.2) ∈ ps.zip us from hq)).1
theorem rev_get {ps : List Str} {us : List Value} {i : Nat} {y : Str} {u : Value} (nd : ps.Nodup) (h1 : ps[i]? = some y) (h2 : us[i]? = some u) : (ps.zip us).reverse.lookup y = some u := by
  refine lookup_mem ?_ ?_
  · rw [List.map_reverse]
    exact (List.reverse_perm _).nodup_iff.mpr (zip_keys ps us nd)
  · refine List.mem_reverse.mpr (List.mem_of_getElem? (i := i) ?_)
    rw [List.getElem?_zip_eq_some]
    exact ⟨h1, h2⟩
section
variable {CX : CXT} {P : Program} {w : World} {K : PySem.W.Frag} {mg : Str → Option Value} {base : Heap} {N ps : List Str} {qual : Str} {scope : Scope} {f cda cc D : Addr} {A : Around} {outer : List Env} {s : Shared} {H : Hp} {E : XK} {us : List Value} {vs : List V}
theorem inv_startC {h₀ : Heap} {tk : Nat} {cl : Value} {cld : Option Addr} {csl : Array (Option Value)} (S : FnScopeC N ps scope) (hd : A.handled = none) (e0 : Env0 P w K mg base A outer s H) (hl : vs.length = ps.length) (r : Vals vs us)
    (lc : K.lookup cc = some ⟨cl, cld, .cell (some (.ref D)), csl⟩) (hns : h₀.Ns s.heap.objs.size (fun y => (ps.zip us).reverse.lookup y)) (hk : ∀ b o, s.heap.get? b = some o → h₀.get? b = some o) :
    Inv (cxC CX P w K mg base N qual scope f cda cc A outer s H E) [] (start N vs) H { s with heap := h₀, toks := tk } := by
  have hpl : ps.length ≤ N.length := by have := congrArg List.length S.pre; rw [List.length_take] at this; omega
  have noA : ∀ b : Addr, b ∉ (cxC CX P w K mg base N qual scope f cda cc A outer s H E).ex := fun b z => absurd (show b ∈ ([] : List Addr) from z) (by simp)
  have inB : base.get? cc = some ⟨cl, cld, .cell (some (.ref D)), csl⟩ := e0.mod.kin _ _ lc
  have inS := (e0.bs _ _ inB).1
  refine ⟨⟨e0.mod, S.kind, rfl, rfl, Nat.le_refl _, fun y z c h1 h2 => ?_, fun y hy => ?_, fun y c h _ => (nomatch h), fun _ => hd, Around.frames_deeper e0.frames, .inr ⟨rfl, rfl⟩, fun b z => absurd z (noA b), e0.bs, e0.bsz, fun b _ _ => noA b, fun b z => absurd z (noA b), e0.funs, e0.frf⟩,
    rfl, e0.bare, Un.kept hk, ⟨_, hns, fun i y v h1 h2 h3 => ?_⟩, fun y c h => ?_, e0.hok.fresh (Nat.le_refl _), fun y c h => ?_, fun p hp => absurd (show p ∈ ([] : List (Addr × Obj)) from hp) (by simp), e0.hok.kept hk, ?_⟩
  · exact (one_cell h1).1.trans (one_cell h2).1.symm
  · have hy : scope.names.lookup y = some .cell ∨ scope.names.lookup y = some .free := hy
    rcases hy with hy | hy
    · exact absurd rfl (S.nocell _ (PySem.mem_of_lookup hy))
    · have e := S.free _ (PySem.mem_of_lookup hy) rfl
      have e' : y = "__class__" := e
      subst e'
      exact ⟨cc, rfl⟩
  · have hi : i < vs.length := by
      unfold L2.start at h2
      by_cases hi : i < vs.length
      · exact hi
      · rw [List.getElem?_append_right (by simpa using hi)] at h2
        rw [List.getElem?_replicate] at h2
        split at h2 <;> cases h2
    have ha : vs[i]? = some v := by
      unfold L2.start at h2
      rw [List.getElem?_append_left (by simpa using hi), List.getElem?_map] at h2
      cases e : vs[i]? with
      | none => rw [e] at h2; cases h2
      | some a => rw [e] at h2; cases h2; rfl
    obtain ⟨u, hu, rv⟩ := r.get ha
    have hp : ps[i]? = some y := by
      rw [← S.pre, List.getElem?_take_of_lt (by omega)]; exact h1
    have ndP : ps.Nodup := by rw [← S.pre]; exact S.nd.sublist (List.take_sublist _ _)
    refine ⟨u, rv, .inl ⟨S.par y (List.mem_of_getElem? hp), ?_⟩⟩
    exact rev_get ndP hp hu
  · obtain ⟨_, rfl⟩ := one_cell h
    exact ⟨_, _, hk _ _ inS, rfl⟩
  · obtain ⟨_, rfl⟩ := one_cell h
    exact (e0.bs _ _ inB).2
  · unfold L2.start
    rw [List.length_append, List.length_map, List.length_replicate]
    show _ = N.length
    omega
end
/-- what the written part says of super() in class D for an instance of class C -/
structure SupVE (P : Program) (K : PySem.W.Frag) (mg : Str → Option Value) (D C : Addr) : Prop where
  clsD : ∃ cd, PySem.W.clsIn K D = some cd
  sub : PySem.W.mroIn K C (.ref D) = some true
  init : PySem.W.ks_superIn K C D "__init__" = some (some (.builtin "ValueError.__init__"))
  isVE : PySem.W.subIn K (.ref C) (.type "ValueError") = some true
  opq : PySem.W.nsIn K cStatics "thirdparty.any" = some none
  glob : mg "super" = none
  main : (P.main.scope.names.lookup ("super" : Str)).isSome = false
section
variable {prog : Program} {w : World} {A : Around} {E : Value → Shared → Prop} {h : Heap} {g : Array GenState} {d : Drawn} {t : Nat} {os : OsState}
variable {nm q : Str} {C N : Addr} {bs bm : List Value} {hdct : Bool} {sn : List Str} {sub : List Value} {ab : Bool} {col : Option Bool} {dd : Option Addr} {k0 k1 k2 k3 k5 : Option Value}
/-- the bound ValueError.__init__ called -/
theorem call_bwVE {u e t0 : Addr} {rest : List Value} {Q : Value → Shared → Prop} (hC : h.get? C = some (excClassObj nm q C N bs bm hdct sn sub ab col dd k0 k1 k2 k3 k5 "ValueError.__new__")) (he : h.get? e = some ({ cls := .ref C, dict := none, data := .fields #[.ref t0, .none, .none, .none, .bool false, .none] } : Obj))
    (hu : h.get? u = some (PySem.W.kxs_mw "ValueError.__init__" e)) (hz : rest.length ≤ sizeLine)
    (hq : ∀ h' t1, (∀ b o, b ≠ e → h.get? b = some o → h'.get? b = some o) → h'.get? e = some ({ cls := .ref C, dict := none, data := .fields #[.ref t1, .none, .none, .none, .bool false, .none] } : Obj) → Q .none ⟨h', g, d, t, os⟩) :
    wpAny (model prog w) A (call (.ref u) rest) Q E ⟨h, g, d, t, os⟩ := by
  refine wpAny_call (codeAny_of_tree ?_)
  show wpAny _ A.in1 (callAny (.ref u) ⟨rest, []⟩) _ _ _
  simp only [callAny]
  refine wpAny_bind (wpAny_load hu ?_)
  simp only [PySem.W.kxs_mw, show (Value.type "method-wrapper" == Value.type "method" || Value.type "method-wrapper" == Value.type "builtin_function_or_method" || Value.type "method-wrapper" == Value.type "method-wrapper") = true by decide, if_true]
  refine PySem.W.KFB.if_so (by decide) ?_
  refine wpAny_bind (PySem.W.check_bound_init F.excBase_ValueError.toExcCallFacts hC he rfl ?_)
  refine wpAny_bind (wpAny_pure (wpAny_pure ?_))
  refine ⟨plainId_quiet F.excBase_ValueError.init.plain _, codeAny_builtin F.excBase_ValueError.initEntry ?_⟩
  exact PySem.W.exc_init_tree (cls := .ref C) (t0 := t0) (dv := none) (c2 := .none) (c3 := .none) (b4 := .bool false) he hz fun h' k e' _ => hq h' _ k e'
end
section
variable {X : Cx} {pins : List (Addr × Obj)} {σ : L2.St} {H : Hp} {s : Shared} {a u C : Addr}
theorem bw_ok {us : List Value} {Q : Value → Shared → Prop} (T : OexC X.K C) (I : Inv X pins σ H s) (e : H a = some (exo a C none)) (hu : s.heap.get? u = some (PySem.W.kxs_mw "ValueError.__init__" a)) (hl : us.length ≤ sizeLine) (h : ∀ s', Inv X pins σ H s' → Q .none s') :
    wpAny (model X.prog X.w) X.A (call (.ref u) us) Q X.xe s := by
  obtain ⟨nm, q, N, bs, bm, sn, sub, ab, col, dd, k0, k1, k2, k3, k5, hC, hbm⟩ := T.cls
  obtain ⟨t1, ho⟩ := exo_at I.hok e
  obtain ⟨hp, g, d, t, os⟩ := s
  refine call_bwVE (I.kIn _ _ hC) ho hu hl fun h' t2 k hx => ?_
  have J := I.write (t' := t) (x := a) (e := a) (o := exo a C none) (by rw [e]; exact True.intro) (.inl rfl) k ⟨_, hx⟩ (exo_ok hx)
  have eu : upd H a (exo a C none) = H := by
    funext b
    by_cases hb : b = a
    · rw [hb, upd_same, e]
    · rw [upd_ne hb]
  rw [eu] at J
  exact h _ J
end
section
variable {M : Model} {A : Around} {E : Value → Shared → Prop} {s : Shared}
theorem callWith_bw {pos : Pos} {u x : Addr} {env : Env} {e : Expr} {rest : List Expr} {Q : Value → Shared → Prop}
    (h : wpAny M A (spliced (backTo pos (starEach (e :: rest) env))) (fun vs s₁ => PySem.W.KxsAt "ValueError.__init__" u x s₁.heap ∧ wpAny M A (call (.ref u) vs) Q E s₁) E s)
    (he : starEach (e :: rest) env = (false, eval e env) :: starEach rest env) (hplain : (backTo pos (starEach rest env)).any (·.1) = false) :
    wpAny M A (callWith pos (.ref u) [] (backTo pos (starEach (e :: rest) env)) []) Q E s := by
  rw [he] at h ⊢
  refine PySem.W.kxs_callWith (i := "ValueError.__init__") (x := x) (by show (false || (backTo pos (starEach rest env)).any (·.1)) = false; rw [hplain]; rfl) ?_
  exact Calls.evalArgs_plain h
end
section
variable {CX : CXT} {P : Program} {w : World} {K : PySem.W.Frag} {mg : Str → Option Value} {base : Heap} {N ps : List Str} {x qual : Str} {st : Stmt} {D f : Addr} {fd : FuncData} {k : Nat} {sp : Sp} {p0 p1 p2 p3 p4 : Pos} {e : Expr} {es : List Expr} {rest : List Stmt} {apar : Arg}
/-- a method whose first statement is super().__init__(..) -/
theorem fngC_of (F : FunC P K x qual st D f fd) (S : FnScopeC N ps (defScope st)) (ar : ∀ vs H Q E, sp vs H Q E → vs.length = ps.length)
    (hb : defBody st = .Expr (.Call (.Attribute (.Call (.Name "super" p0) [] [] p1) "__init__" p2) (e :: es) [] p3) p4 :: rest)
    (hp : ((defArgs st).posonlyargs ++ (defArgs st).args).head? = some apar) (h0 : N[0]? = some apar.arg) (h00 : ps[0]? = some apar.arg)
    (body : ∀ (cda cc : Addr) (A : Around) (outer : List Env) (s : Shared) (H : Hp) (vs : List V) (Q : VK) (E : XK), Room k (A.deeper (PySem.W.ksEnv qual (defScope st) s.heap.objs.size f (.ref cda) cc)) → A.guards = some [] → sp vs H Q E →
      ∃ (ta : TA) (t : TS) (a C : Addr) (vs' : List V), PA (cxC CX P w K mg base N qual (defScope st) f cda cc A outer s H E) (e :: es) ta ∧ PSs (cxC CX P w K mg base N qual (defScope st) f cda cc A outer s H E) rest t ∧
        vs = .ref a :: vs' ∧ OexC K C ∧ SupVE P K mg D C ∧ H a = some (exo a C none) ∧
        ta (L2.start N vs) H fun ws H1 => ws.length ≤ 1000 ∧ H1 a = some (exo a C none) ∧ t { nx := fun _ H' => Q .non H', rt := Q } (L2.start N vs) H1)
    (hev : ∀ env : Env, ∃ pl : Sem Bool, eval (.Call (.Attribute (.Call (.Name "super" p0) [] [] p1) "__init__" p2) (e :: es) [] p3) env = (do
      let ov ← attributeBase (.Call (.Name "super" p0) [] [] p1) "__init__" env (eval (.Call (.Name "super" p0) [] [] p1) env)
      standAt p2.atName
      let (f, first) ← holding [ov] (getMethod ov "__init__" pl)
      callWith p3 f first (backTo p3 (starEach (e :: es) env)) []) := by exact fun env => ⟨_, rfl⟩)
    (he : ∀ env : Env, starEach (e :: es) env = (false, eval e env) :: starEach es env := by intro _; rfl) (hpl : ∀ env : Env, (backTo p3 (starEach es env)).any (·.1) = false := by intro _; rfl) :
    FnG P w K mg base CX (k + 1) f fd ps sp := by
  obtain ⟨oc, kV, doc, pm, ct, ccl, cl, od, an, cdd, cld, cda, cc, osl, ccs, csl, vsF, file, tf, rfl, look, code, lc, lcda, hv2, hfile⟩ := F.ex
  refine ⟨ar, fun A room gd outer s H args us vs Q E env bind rel want => ?_⟩
  have inK : K.In s.heap := env.mod.kin.keeps (fun b o h => (env.bs b o h).1)
  have free : s.heap.NoLimit := env.mod.nolimit.keeps (fun b o h => (env.bs b o h).1)
  have hv := ar vs H Q E want
  obtain ⟨ta, t, a, C, vs', hta, ht, rfl, T, SV, ea, reads⟩ := body cda cc A outer s H vs Q E (room.deeper _) gd want
  refine ks_codeAny_call_defAt (body := defBody st) (binds := ps.zip us) room.depth (inK _ _ look) rfl free (PySem.W.codeRec_of inK code) rfl bind S.nocell (fun y hy => ?_) (fun h₀ hns hk => ?_) S.co S.gen S.kind
  · exact S.par y.1 (List.of_mem_zip (show (y.1, y.2) ∈ ps.zip us from hy)).1
  have I := inv_startC (CX := CX) (E := E) (f := f) (cda := cda) (qual := qual) (tk := s.toks + (ps.zip us).length) S room.hd env hv rel lc hns hk
  have slot0 : (L2.start N (V.ref a :: vs'))[0]? = some (some (.ref a)) := rfl
  have inK' : K.In h₀ := inK.keeps hk
  show _root_.PySem.wpAt (model P w) (A.deeper (PySem.W.ksEnv qual (defScope st) s.heap.objs.size f (.ref cda) cc)) (.func (defBody st) (PySem.W.ksEnv qual (defScope st) s.heap.objs.size f (.ref cda) cc)) (execs (defBody st) (PySem.W.ksEnv qual (defScope st) s.heap.objs.size f (.ref cda) cc)) _ _ _
  obtain ⟨pl, ev⟩ := hev (PySem.W.ksEnv qual (defScope st) s.heap.objs.size f (.ref cda) cc)
  have noI : interactive (PySem.W.ksEnv qual (defScope st) s.heap.objs.size f (.ref cda) cc) = false := by
    unfold interactive
    simp [S.kind]
  rw [hb]
  refine ks_wpAt_execs_cons (ks_wpAt_Expr_any (hi := noI) (ks_wpAt_MethodCall (he := ev) (ks_wpAt_super_base (ar := apar) S.sup S.cls rfl rfl (inK' _ _ look) rfl hp rfl (inK' _ _ lcda) rfl hv2 hfile SV.main ?_)))
  obtain ⟨mb, hb1, hb2⟩ := I.mod.blt
  obtain ⟨cdD, hD⟩ := SV.clsD
  obtain ⟨oD, hD1, hD2⟩ : ∃ oD, h₀.get? D = some oD ∧ oD.data = .cls cdD := by
    unfold PySem.W.clsIn at hD
    split at hD
    · rename_i c d cd' sl ho
      cases hD
      exact ⟨_, inK' _ _ ho, rfl⟩
    · cases hD
  have par0 := S.par _ (List.mem_of_getElem? h00)
  obtain ⟨m, nsL, locs⟩ := I.loc
  obtain ⟨u, ru, lk⟩ := locs 0 apar.arg (.ref a) h0 slot0 (.inl par0)
  cases (show u = .ref a from ru)
  have mv : m apar.arg = some (.ref a) := by
    rcases lk with ⟨_, z⟩ | ⟨z, _⟩
    · exact z
    · have z' : (defScope st).names.lookup apar.arg = some .cell ∨ (defScope st).names.lookup apar.arg = some .free := z
      rw [par0] at z'
      rcases z' with z' | z' <;> cases z'
  refine PySem.W.ks_loadName_global S.kind S.sup (Calls.loadGlobal_builtin (env := PySem.W.ksEnv qual (defScope st) s.heap.objs.size f (.ref cda) cc) (I.mod.glob.keeps I.bk) SV.glob (hb1.keeps I.bk) ((hb2 "super" (by decide +kernel)).trans PyProof.Rows.Boot.«super») ⟨rfl, ?_⟩)
  refine wpAny_loadName_free S.kind S.cls rfl ⟨_, inK' _ _ lc, rfl⟩ ?_
  refine wpAny_loadName_local S.kind par0 nsL mv ?_
  refine ks_wpAny_isType_cls hD1 hD2 ⟨rfl, ?_⟩
  obtain ⟨t1, ho⟩ := exo_at I.hok ea
  refine ks_wpAny_call_super hD1 hD2 ho rfl (fun c e => nomatch e) (PySem.W.looks_mroIn inK' SV.sub) (fun h' so kk => ?_)
  have inK2 : K.In h' := inK'.keeps kk
  have inst : PySem.W.InstAt h' a _ C none := ⟨kk _ _ ho, rfl, rfl, trivial⟩
  cases hc : PySem.W.clsIn K C with
  | none =>
    have z := SV.init
    unfold PySem.W.ks_superIn at z
    rw [hc] at z
    cases z
  | some cd =>
    have hin := SV.init
    unfold PySem.W.ks_superIn at hin
    rw [hc] at hin
    refine PySem.W.kxs_getMethod PySem.W.kxs_ValueError so (PySem.W.looks_opaque inK2 SV.opq) (l₀ := cd.mro) ?_ rfl inK2 hin (inst.type.andThen (PySem.W.looks_subIn inK2 SV.isVE)) (PySem.W.ks_ne inK2 inst hc) (by decide) ?_
    · exact fun A Q E s k q => wpAny_bind ((PySem.W.looks_clsIn inK2 hc) A _ E s k (wpAny_pure q))
    · have I1 := I.kept (t' := s.toks + (ps.zip us).length) kk
      have ltL : s.heap.objs.size < h'.objs.size := by
        obtain ⟨o, _, _, e1, _⟩ := nsL
        exact Heap.lt_size (kk _ _ e1)
      have I2 := (I1.kept (t' := s.toks + (ps.zip us).length + 1) (h' := h'.push (PySem.W.kxs_mw "ValueError.__init__" a)) (fun b o e => Heap.get?_push_of_some _ e)).pins_of (pins' := [(h'.objs.size, PySem.W.kxs_mw "ValueError.__init__" a)]) (fun p hp => by
        rcases List.mem_singleton.mp hp with rfl
        exact ⟨Heap.get?_push_size _ rfl, I1.hok.fresh (Nat.le_refl _), Nat.ne_of_gt ltL, I1.nofs (Nat.le_refl _), fun v z => nomatch z⟩)
      refine callWith_bw (x := a) (thn (hta.run p3 _ _ _ H _ I2 reads) ?_) (he _) (hpl _)
      rintro us2 s1 ⟨ws, H1, I3, r1, hl, ea1, q⟩
      have hm := (I3.pin (h'.objs.size, PySem.W.kxs_mw "ValueError.__init__" a) (by simp)).1
      refine ⟨hm, bw_ok T I3 ea1 hm ?_ fun s' J => ?_⟩
      · rw [← Paired.length r1, sizeLine_eq]
        omega
      · refine wpAt_of_wpAny (wpAny_mono (ht.run _ s' _ H1 _ J q) ?_ (fun _ _ left => left))
        intro flow s2 post
        cases flow with
        | brk => exact (post.choose_spec.choose_spec).2.elim
        | cont => exact (post.choose_spec.choose_spec).2.elim
        | next =>
          obtain ⟨_, H2, J2, q2⟩ := post
          exact ⟨.non, H2, J2.os, J2.bare, J2.base, J2.hok, rfl, q2⟩
        | ret u =>
          obtain ⟨v, _, H2, J2, rv, q2⟩ := post
          exact ⟨v, H2, J2.os, J2.bare, J2.base, J2.hok, rv, q2⟩
end
end Ex
/-! C(.., k = v) for an exception's class C with its own __init__: what __new__ does with keywords (nothing), then __init__. -/
namespace Ex
open PySem PySem.Spec PyProof.Rows L2 Gd PySem.HandSPX
section
variable {prog : Program} {w : World} {M : Model} {A : Around} {E : Value → Shared → Prop} {R : Result → Shared → Prop} {hp : Heap} {gs : Array GenState} {dr : Drawn} {tk : Nat} {os : OsState}
variable {nm qn : Str} {C N fI : Addr} {bs bm : List Value} {hd : Bool} {sn : List Str} {sub : List Value} {ab : Bool} {col : Option Bool} {dd : Option Addr} {k0 k1 k2 k3 k5 : Option Value} {ps : List Value} {kw : List (Str × Value)}
theorem mayNew (T : ∀ X : String, bm.contains (.type X) = veTail.contains (.type X)) {Q : Unit → Shared → Prop} (at_ : hp.get? C = some (excClassObj nm qn C N bs bm hd sn sub ab col dd k0 k1 k2 k3 k5 "ValueError.__new__")) (q : Q () ⟨hp, gs, dr, tk, os⟩) :
    wpAny M A (checkBuiltinCall "ValueError.__new__" ⟨.ref C :: ps, kw⟩) Q E ⟨hp, gs, dr, tk, os⟩ := by
  have F := F.excBase_ValueError
  have has : (Value.ref C :: bm).contains (.type "ValueError") = true := by rw [List.contains_cons, T, F.hasB, Bool.or_true]
  have st := F.noStar
  simp only [checkBuiltinCall, F.newKind, F.newSplit, F.newRow]
  repeat (first | refine wpAny_loadPart_at at_ ?_ | (refine wpAny_isSubtype_exc at_ ?_; rw [has]) | refine wpAny_staticBase_exc at_ ?_ | refine wpAny_madeBy_exc at_ ?_ | simp only [bne_self_eq_false, Bool.false_eq_true, if_false] | wp_step)
  exact q
theorem doesNew (T : ∀ X : String, bm.contains (.type X) = veTail.contains (.type X)) (at_ : hp.get? C = some (excClassObj nm qn C N bs bm hd sn sub ab col dd k0 k1 k2 k3 k5 "ValueError.__new__")) (few : ps.length ≤ sizeLine)
    (q : R (.ok (.ret (.ref (hp.objs.size + 1)))) ⟨(hp.push (W.kdv_tup ps)).push (excO C hp.objs.size), gs, dr, tk, os⟩) :
    codeAny (model prog w) A (.builtin "ValueError.__new__" ⟨.ref C :: ps, kw⟩) R ⟨hp, gs, dr, tk, os⟩ := by
  have F := F.excBase_ValueError
  have ends := F.ends
  have cV : (Value.ref C :: bm).contains (.type "ValueError") = true := by rw [List.contains_cons, T, F.hasB, Bool.or_true]
  have cA : (Value.ref C :: bm).contains (.type "AttributeError") = false := by rw [List.contains_cons, T, F.noAttr]; rfl
  have cN : (Value.ref C :: bm).contains (.type "NameError") = false := by rw [List.contains_cons, T, F.noName]; rfl
  refine codeAny_builtinAt F.entry ?_
  unfold Builtin.«BaseException.__new__»
  refine _root_.PySem.wpAt_bind ?_
  show _root_.PySem.wpAt _ _ _ (stack >>= _) _ _ _
  refine _root_.PySem.wpAt_bind (_root_.PySem.wpAt_stack fun p below => _root_.PySem.wpAt_of_wpAny ?_)
  wp_walk
  refine _root_.PySem.wpAt_of_wpAny ?_
  rw [F.owner]
  repeat (first | with_reducible refine wpAny_madeHere_exc F.canon at_ ?_ | with_reducible refine wpAny_loadPart_at at_ ?_ | (with_reducible refine wpAny_isSubtype_exc at_ ?_; first | rw [cV] | rw [cA] | rw [cN]) | wp_step)
  show R _ _
  rw [Heap.size_push]
  exact q
theorem typeCalls (T : ∀ X : String, bm.contains (.type X) = veTail.contains (.type X)) {Q : Fin → Shared → Prop} (at_ : hp.get? C = some (excClassObj nm qn C N bs bm hd sn sub ab col dd k0 k1 k2 k3 k5 "ValueError.__new__"))
    (ini : W.Looks (model prog w) hp (typeLookup (.ref C) "__init__") (some (.ref fI))) (bound : ∀ self, W.Looks (model prog w) hp (bindSpecial (.ref fI) self) (.ref fI, [self])) (few : ps.length ≤ sizeLine)
    (q : codeAny (model prog w) A (.call (.ref fI) ⟨.ref (hp.objs.size + 1) :: ps, kw⟩) (fun r s' => match r with | .ok (.ret v) => v = .none ∧ Q (.done (.ret (.ref (hp.objs.size + 1)))) s' | .ok _ => False | .error e => E e s')
      ⟨(hp.push (W.kdv_tup ps)).push (excO C hp.objs.size), gs, dr, tk, os⟩) : wpAny (model prog w) A (Builtin.«type.__call__» ⟨.ref C :: ps, kw⟩) Q E ⟨hp, gs, dr, tk, os⟩ := by
  repeat (first | with_reducible refine wpAny_loadPart_at at_ ?_ | with_reducible refine wpAny_madeBy_exc at_ ?_ | wp_step)
  refine codeAny_call_builtin_code (Code.quiet_builtin _ F.excBase_ValueError.quiet) (mayNew T at_ ?_)
  refine doesNew T at_ few ?_
  show wpAny _ _ _ _ _ _
  have kept : ∀ b o, hp.get? b = some o → ((hp.push (W.kdv_tup ps)).push (excO C hp.objs.size)).get? b = some o := fun b o e => Heap.get?_push_of_some _ (Heap.get?_push_of_some _ e)
  have at1 := kept _ _ at_
  have new : ((hp.push (W.kdv_tup ps)).push (excO C hp.objs.size)).get? (hp.objs.size + 1) = some (excO C hp.objs.size) := by heap_get
  have self : (Value.ref C :: bm).contains (.ref C) = true := by simp
  have i1 := ini.keeps kept
  have b1 := (bound (.ref (hp.objs.size + 1))).keeps kept
  unfold isInstance
  repeat (first | with_reducible refine wpAny_loadPart_at new ?_ | (with_reducible refine wpAny_isSubtype_exc at1 ?_; rw [self]) | wp_step)
  show wpAny _ _ (typeLookup (.ref C) _) _ _ _
  refine i1.at ?_
  refine wpAny_holding (wpAny_bind (b1.at ?_))
  refine wpAny_bind (wpAny_call (codeAny_mono q fun r s' z => ?_))
  rcases r with e | (v | _ | _ | _) <;> first | exact z | exact z.elim | skip
  obtain ⟨rfl, z⟩ := z
  first
    | exact wpAny_pure (wpAny_pure z)
    | (wp_walk; exact z)
theorem mayCall {Q : Unit → Shared → Prop} {newId : String} (at_ : hp.get? C = some (excClassObj nm qn C N bs bm hd sn sub ab col dd k0 k1 k2 k3 k5 newId)) (q : Q () ⟨hp, gs, dr, tk, os⟩) :
    wpAny M A (checkBuiltinCall "type.__call__" ⟨.ref C :: ps, kw⟩) Q E ⟨hp, gs, dr, tk, os⟩ := by
  have f3 := tc_sub
  have ty : (⟨hp, gs, dr, tk, os⟩ : Shared).TypeIs (.ref C) "type" := ⟨_, at_, rfl⟩
  simp only [checkBuiltinCall, tc_kind, tc_split]
  repeat (any_goals (first | assumption | with_reducible refine wpAny_loadPart_at at_ ?_ | with_reducible refine wpAny_onRaise ?_ | with_reducible refine wpAny_map ?_ | wp_step))
/-- the class called with keywords: its __init__ gets them -/
theorem classCalled (T : ∀ X : String, bm.contains (.type X) = veTail.contains (.type X)) (at_ : hp.get? C = some (excClassObj nm qn C N bs bm hd sn sub ab col dd k0 k1 k2 k3 k5 "ValueError.__new__"))
    (ini : W.Looks (model prog w) hp (typeLookup (.ref C) "__init__") (some (.ref fI))) (bound : ∀ self, W.Looks (model prog w) hp (bindSpecial (.ref fI) self) (.ref fI, [self])) (few : ps.length ≤ sizeLine)
    (q : codeAny (model prog w) (A.under (.builtin "type.__call__" ⟨.ref C :: ps, kw⟩)) (.call (.ref fI) ⟨.ref (hp.objs.size + 1) :: ps, kw⟩) (W.InitBack (hp.objs.size + 1) R) ⟨(hp.push (W.kdv_tup ps)).push (excO C hp.objs.size), gs, dr, tk, os⟩) :
    codeAny (model prog w) A (.call (.ref C) ⟨ps, kw⟩) R ⟨hp, gs, dr, tk, os⟩ := by
  have f1 := tc_lookup
  have f2 := tc_bind (.ref C)
  have ty : (⟨hp, gs, dr, tk, os⟩ : Shared).TypeIs (.ref C) "type" := ⟨_, at_, rfl⟩
  refine codeAny_of_tree ?_
  show wpAny _ _ (callAny (.ref C) _) _ _ _
  repeat (any_goals (first | assumption | with_reducible refine wpAny_loadPart_at at_ ?_ | wp_step))
  refine ⟨rfl, ?_⟩
  refine codeAny_call_builtin_at (Code.quiet_builtin _ (by decide +kernel)) entry_typeCall (mayCall at_ (typeCalls T at_ ini bound few ?_))
  refine codeAny_mono q fun r s' z => ?_
  rcases r with e | (v | _ | _ | _) <;> exact z
end
end Ex
/-! An own exception made as a value: C(e, ..), C(k = e, ..), C(), C's __init__ keeping a promise where no repr is under way. -/
namespace Ex
open PySem PySem.Spec PyProof.Rows L2 Gd
section
variable {X : Cx} {CX : CXT} {k : Nat} {fI C : Addr} {fd : FuncData} {ps : List Str} {sp : Sp} {x : Str} {p pos : Pos} {e : Expr} {es : List Expr} {ta tk : TA}
/-- what the written part says of the class: it is one of ours, its __init__ is the function at fI -/
structure Own (K : PySem.W.Frag) (C fI : Addr) : Prop where
  oex : OexC K C
  ini : PySem.W.findIn K (.ref C) "__init__" = some (some (.ref fI))
  fn : PySem.W.typeIn K (.ref fI) = some (.type "function")
theorem run_newE {pins : List (Addr × Obj)} {σ : L2.St} {H : Hp} {s : Shared} {Q : VK} {us gs : List Value} {kw : List (Str × Value)} {vs : List V} (O : Own X.K C fI) (Fn : FnG X.prog X.w X.K X.mg X.base CX k fI fd ps sp) (room : Room (k + 1) X.A) (gd : X.A.guards = some [])
    (pass : Passes CX X fun _ _ _ => False) (bind : ∀ (s : Shared) (self : Value), X.K.In s.heap → BindsTo s fd ⟨self :: us, kw⟩ (ps.zip (self :: gs))) (I : Inv X pins σ H s) (rel : Vals vs gs) (few : us.length ≤ sizeLine)
    (want : ∀ a, H a = none → sp (.ref a :: vs) (upd H a (exo a C none)) (fun v H2 => v = .non ∧ Q (.ref a) H2) fun _ _ _ => False) :
    wpAny (model X.prog X.w) X.A (call (.ref C) us kw) (EP X pins σ Q) X.xe s := by
  obtain ⟨nm, qn, N, bs, bm, sn, sub, ab, col, dd, k0, k1, k2, k3, k5, at_, ve⟩ := O.oex.cls
  obtain ⟨hp, g, dr, tk, os⟩ := s
  have le : hp.objs.size ≤ hp.objs.size + 1 := Nat.le_succ _
  have fresh : H (hp.objs.size + 1) = none := I.hok.fresh le
  have q := want (hp.objs.size + 1) fresh
  have kept : ∀ b o, hp.get? b = some o → ((hp.push (PySem.W.kdv_tup us)).push (PySem.HandSPX.excO C hp.objs.size)).get? b = some o := fun b o e => Heap.get?_push_of_some _ (Heap.get?_push_of_some _ e)
  have new : ((hp.push (PySem.W.kdv_tup us)).push (PySem.HandSPX.excO C hp.objs.size)).get? (hp.objs.size + 1) = some (PySem.HandSPX.excO C hp.objs.size) := by heap_get
  have I2 : Inv X pins σ (upd H (hp.objs.size + 1) (exo (hp.objs.size + 1) C none)) ⟨(hp.push (PySem.W.kdv_tup us)).push (PySem.HandSPX.excO C hp.objs.size), g, dr, tk, os⟩ :=
    I.laid (t' := tk) (o := exo (hp.objs.size + 1) C none) kept le (exo_ok new)
  refine wpAny_call (classCalled (fun Y => PySem.HandSPX.refsVE_contains Y bm ve) (I.kIn _ _ at_) (PySem.W.looks_findIn I.kIn O.ini) (fun self => PySem.W.bind_fn I.kIn self O.fn) few ?_)
  refine codeAny_mono (Fn.go _ (room.make C us kw) ?_ X.stack _ _ _ (.ref (hp.objs.size + 1) :: gs) _ _ (fun _ _ _ => False) (I2.env0.make C us kw) (bind _ _ I2.kIn) (.cons (show RelV (V.ref (hp.objs.size + 1)) (.ref (hp.objs.size + 1)) from rfl) rel) q) fun r s' got => ?_
  · rw [PySem.Around.under, gd]
    rfl
  · rcases r with er | fl
    · exact pass pins σ _ _ er s' I2 got
    · cases fl with
      | next => exact False.elim got
      | brk => exact False.elim got
      | cont => exact False.elim got
      | ret u =>
        obtain ⟨v, H2, os2, bare2, un2, hok2, rv, ev, q2⟩ := got
        subst ev
        exact ⟨rv, .ref (hp.objs.size + 1), H2, I2.call' (ch := []) os2 un2 hok2 bare2 (fun b z => absurd z (by simp)), rfl, q2⟩
/-- C(e, ..) -/
def tNewE (C : Addr) (sp : Sp) (ta : TA) : TE := fun σ H Q => ta σ H fun vs H1 => vs.length ≤ 1000 ∧ ∀ a, H1 a = none → sp (.ref a :: vs) (upd H1 a (exo a C none)) (fun v H2 => v = .non ∧ Q (.ref a) H2) fun _ _ _ => False
theorem few_of {vs : List V} {us : List Value} (r : Vals vs us) (h : vs.length ≤ 1000) : us.length ≤ sizeLine := by
  rw [← Paired.length r, sizeLine_eq]
  omega
theorem pe_newE (O : Own X.K C fI) (kC : PySem.W.keepIn X.K (.ref C) = true) (Fn : FnG X.prog X.w X.K X.mg X.base CX k fI fd ps sp) (room : Room (k + 1) X.A) (gd : X.A.guards = some []) (pass : Passes CX X fun _ _ _ => False)
    (isGl : Gl X x) (at_ : X.mg x = some (.ref C)) (bind : ∀ (s : Shared) (self : Value) (us : List Value), us.length + 1 = ps.length → X.K.In s.heap → BindsTo s fd ⟨self :: us, []⟩ (ps.zip (self :: us))) (args : PA X (e :: es) ta)
    (nodbg : (x == ("__debug__" : Str)) = false := by decide) (star : starEach (e :: es) X.env = (false, eval e X.env) :: starEach es X.env := by rfl) (plain : (backTo pos (starEach es X.env)).any (·.1) = false := by rfl) :
    PE X (.Call (.Name x p) (e :: es) [] pos) (tNewE C sp ta) := by
  constructor
  intro pins s σ H Q I want
  refine wpAny_Call_Name_kw (ld_glob I isGl at_ ?_ nodbg)
  refine PySem.W.callWith_K (h₀ := X.base) I.ok.mod.kin kC (thn (args.run pos pins s σ H _ I want) ?_) star plain
  rintro us s1 ⟨vs, H1, I1, rel, few, q⟩
  refine ⟨I1.kIn, run_newE O Fn room gd pass (fun s self inK => bind s self us ?_ inK) I1 rel (few_of rel few) q⟩
  have n := Fn.arity _ _ _ _ (q (s1.heap.objs.size) (I1.hok.fresh (Nat.le_refl _)))
  rw [← n, List.length_cons, Paired.length rel]
/-- C(k = e, ..): the values in the parameters' order -/
def tNewK (C : Addr) (sp : Sp) (gV : List V → List V) (tk : TA) : TE := fun σ H Q => tk σ H fun zs H1 => ∀ a, H1 a = none → sp (.ref a :: gV zs) (upd H1 a (exo a C none)) (fun v H2 => v = .non ∧ Q (.ref a) H2) fun _ _ _ => False
theorem pe_newK {ks : List Str} {kws : List Keyword} {g : List Value → List Value} {gV : List V → List V} (O : Own X.K C fI) (kC : PySem.W.keepIn X.K (.ref C) = true) (Fn : FnG X.prog X.w X.K X.mg X.base CX k fI fd ps sp) (room : Room (k + 1) X.A) (gd : X.A.guards = some []) (pass : Passes CX X fun _ _ _ => False)
    (isGl : Gl X x) (at_ : X.mg x = some (.ref C)) (bind : ∀ (s : Shared) (self : Value) (ws : List Value), (g ws).length + 1 = ps.length → X.K.In s.heap → BindsTo s fd ⟨[self], ks.zip ws⟩ (ps.zip (self :: g ws))) (turn : ∀ {zs : List V} {ws : List Value}, Vals zs ws → Vals (gV zs) (g ws))
    (words : PK X kws tk) (every : (backToKw pos (keywordEach kws X.env)).all (·.1.isSome) = true := by rfl) (names : (backToKw pos (keywordEach kws X.env)).filterMap (·.1) = ks := by rfl) (nodbg : (x == ("__debug__" : Str)) = false := by decide)
    (plain : ((backTo pos (starEach [] X.env)).any (·.1) || (backToKw pos (keywordEach kws X.env)).any (·.1.isNone)) = false := by rfl) :
    PE X (.Call (.Name x p) [] kws pos) (tNewK C sp gV tk) := by
  constructor
  intro pins s σ H Q I want
  refine wpAny_Call_Name_kw (ld_glob I isGl at_ ?_ nodbg)
  refine PySem.W.callWith_KW0 (h₀ := X.base) I.ok.mod.kin kC every ?_ plain
  refine thn (words.run pos pins s σ H _ I want) ?_
  rintro ws s2 ⟨zs, H2, I2, rel, q⟩
  refine ⟨I2.kIn, ?_⟩
  rw [names]
  refine run_newE (us := []) O Fn room gd pass (fun s self inK => bind s self ws ?_ inK) I2 (turn rel) (Nat.zero_le _) q
  have n := Fn.arity _ _ _ _ (q (s2.heap.objs.size) (I2.hok.fresh (Nat.le_refl _)))
  rw [← n, List.length_cons, Paired.length (turn rel)]
/-- C() -/
theorem pe_new0 (O : Own X.K C fI) (kC : PySem.W.keepIn X.K (.ref C) = true) (Fn : FnG X.prog X.w X.K X.mg X.base CX k fI fd ps sp) (room : Room (k + 1) X.A) (gd : X.A.guards = some []) (pass : Passes CX X fun _ _ _ => False)
    (isGl : Gl X x) (at_ : X.mg x = some (.ref C)) (bind : ∀ (s : Shared) (self : Value), X.K.In s.heap → BindsTo s fd ⟨[self], []⟩ (ps.zip [self])) (nodbg : (x == ("__debug__" : Str)) = false := by decide) :
    PE X (.Call (.Name x p) [] [] pos) (tNewE C sp tNil) := by
  constructor
  intro pins s σ H Q I want
  refine wpAny_Call_Name_kw (ld_glob I isGl at_ ?_ nodbg)
  exact PySem.W.callWith_K0 I.kIn kC (run_newE (us := []) O Fn room gd pass bind I .nil (Nat.zero_le _) want.2)
end
end Ex
/-! Data that may hold dicts with one text as their key: how it is read, shown; what an own exception says of itself. -/
namespace Ex
open PySem PySem.Spec PyProof.Rows L2 Gd
mutual
/-- data that stands off the addresses av -/
inductive Dq (av : List Addr) (H : Hp) : V → PyData → Prop
  | non : Dq av H .non .none
  | bl (b : Bool) : Dq av H (.bl b) (.bool b)
  | int (i : Int) : Dq av H (.int i) (.int i)
  | str (x : Str) : Dq av H (.str x) (.str x)
  | lst {a : Addr} {xs : List V} {ds : List PyData} : a ≠ sysModules → a ∉ av → H a = some (.lst xs) → DqAll av H xs ds → Dq av H (.ref a) (.list ds)
  | tup {a : Addr} {xs : List V} {ds : List PyData} : a ∉ av → H a = some (.tup xs) → DqAll av H xs ds → Dq av H (.ref a) (.tuple ds)
  | dnil {a : Addr} : a ∉ av → H a = some (.dK []) → Dq av H (.ref a) (.dict [])
  | done {a : Addr} {k : Str} {x : V} {d : PyData} : a ∉ av → H a = some (.dK [(.inr k, x)]) → Dq av H x d → Dq av H (.ref a) (.dict [(.str k, d)])
inductive DqAll (av : List Addr) (H : Hp) : List V → List PyData → Prop
  | nil : DqAll av H [] []
  | cons {v : V} {vs : List V} {d : PyData} {ds : List PyData} : Dq av H v d → DqAll av H vs ds → DqAll av H (v :: vs) (d :: ds)
end
/-- the old objects stand as they stood, but perhaps those at av -/
def But (av : List Addr) (H H' : Hp) : Prop := ∀ b o, b ∉ av → H b = some o → H' b = some o
theorem But.of {av : List Addr} {H H' : Hp} (e : ∀ b o, H b = some o → H' b = some o) : But av H H' := fun b o _ h => e b o h
mutual
theorem Dq.keep {av : List Addr} {H H' : Hp} (e : But av H H') : ∀ {v : V} {d : PyData}, Dq av H v d → Dq av H' v d
  | _, _, .non => .non
  | _, _, .bl b => .bl b
  | _, _, .int i => .int i
  | _, _, .str x => .str x
  | _, _, .lst n q h r => .lst n q (e _ _ q h) (DqAll.keep e r)
  | _, _, .tup q h r => .tup q (e _ _ q h) (DqAll.keep e r)
  | _, _, .dnil q h => .dnil q (e _ _ q h)
  | _, _, .done q h r => .done q (e _ _ q h) (Dq.keep e r)
theorem DqAll.keep {av : List Addr} {H H' : Hp} (e : But av H H') : ∀ {vs : List V} {ds : List PyData}, DqAll av H vs ds → DqAll av H' vs ds
  | _, _, .nil => .nil
  | _, _, .cons a b => .cons (Dq.keep e a) (DqAll.keep e b)
end
section
variable {av : List Addr} {X : Cx} {pins : List (Addr × Obj)} {σ : L2.St} {H : Hp} {s : Shared}
mutual
theorem Dq.reads (I : Inv X pins σ H s) : ∀ {v : V} {d : PyData} {u : Value}, Dq av H v d → RelV v u → ∃ as, Reads s.heap u d as ∧ sysModules ∉ as
  | _, _, _, .non, r => by
    cases (show _ = Value.none from r)
    exact ⟨_, .none, by simp⟩
  | _, _, _, .bl b, r => by
    cases (show _ = Value.bool b from r)
    exact ⟨_, .bool b, by simp⟩
  | _, _, _, .int i, r => by
    obtain ⟨t, rfl⟩ := (show ∃ t, _ = Value.int i t from r)
    exact ⟨_, .int i t, by simp⟩
  | _, _, _, .str x, r => by
    obtain ⟨t, rfl⟩ := (show ∃ t, _ = Value.str x t from r)
    exact ⟨_, .str x t, by simp⟩
  | _, _, _, @Dq.lst _ _ a _ _ n _ h m, r => by
    cases (show _ = Value.ref a from r)
    obtain ⟨its, rv, ⟨o, k, ho, hc, _, hd⟩, _⟩ := I.list (.inl (.inl h))
    obtain ⟨as, hr, q⟩ := DqAll.reads I m rv
    refine ⟨_, .list ho hc hd hr, fun z => ?_⟩
    rcases List.mem_cons.mp z with z | z
    · exact n z.symm
    · exact q z
  | _, _, _, @Dq.tup _ _ a _ _ _ h m, r => by
    cases (show _ = Value.ref a from r)
    obtain ⟨its, rv, ⟨o, ho, hc, k, hd⟩, _⟩ := I.tuple (.inl (.inl h))
    obtain ⟨as, hr, q⟩ := DqAll.reads I m rv
    exact ⟨_, .tuple ho hc hd hr, q⟩
  | _, _, _, @Dq.dnil _ _ a _ h, r => by
    cases (show _ = Value.ref a from r)
    obtain ⟨_, ns, vs, kv, o, es, ep, ho, hx, hd, _, hp, _⟩ := dk_of I.hok h
    cases kv
    generalize hl : es.toList = l at hp
    cases hp
    refine ⟨_, .dict ho hx.1 hd (kvs := []) (by rw [hl]; exact .nil) (by rw [hl]; exact .nil), fun z => ?_⟩
    have z' : sysModules = a := by simpa using z
    rw [z'] at ns
    simp at ns
  | _, _, _, @Dq.done _ _ a k x d _ h m, r => by
    cases (show _ = Value.ref a from r)
    obtain ⟨_, ns, vs, kv, o, es, ep, ho, hx, hd, _, hp, _⟩ := dk_of I.hok h
    cases kv with
    | @cons _ q _ _ q1 q2 =>
      cases q2
      generalize hl : es.toList = l at hp
      cases hp with
      | @cons e _ _ _ h1 h2 h3 =>
        cases h3
        obtain ⟨e1, e2⟩ := q1
        have hk : ∃ t, e.key = Value.str k t := by
          rw [← e1] at h1
          rcases keyIs_shape (show keyIs (.inr k) e.key = true from h1) with ⟨i, t, z, _⟩ | ⟨y, t, z, w⟩
          · cases z
          · cases z
            exact ⟨t, w⟩
        obtain ⟨t, hk⟩ := hk
        obtain ⟨as, hr, n⟩ := Dq.reads I m (show RelV x e.val by rw [h2]; exact e2)
        refine ⟨_, .dict ho hx.1 hd (kvs := [(.str k, d)]) (by rw [hl]; show ReadsAll _ [e.key] _ _; rw [hk]; exact .cons (.str k t) .nil) (by rw [hl]; exact .cons hr .nil), fun z => ?_⟩
        have z' : sysModules = a ∨ sysModules ∈ as := by simpa using z
        rcases z' with z' | z'
        · rw [z'] at ns
          simp at ns
        · exact n z'
theorem DqAll.reads (I : Inv X pins σ H s) : ∀ {vs : List V} {ds : List PyData} {us : List Value}, DqAll av H vs ds → Vals vs us → ∃ as, ReadsAll s.heap us ds as ∧ sysModules ∉ as
  | _, _, _, .nil, r => by
    cases r
    exact ⟨_, .nil, by simp⟩
  | _, _, _, .cons a b, r => by
    cases r with
    | cons r1 r2 =>
      obtain ⟨as, q1, n1⟩ := Dq.reads I a r1
      obtain ⟨bs, q2, n2⟩ := DqAll.reads I b r2
      exact ⟨_, .cons q1 q2, fun z => (List.mem_append.mp z).elim n1 n2⟩
end
end
end Ex
namespace Ex
open PySem PySem.Spec PyProof.Rows L2 Gd
section
variable {X : Cx}
/-- data that can be shown -/
def Shows (av : List Addr) (H : Hp) (x : V) (d : PyData) : Prop := Dq av H x d ∧ d.showable = true ∧ d.depth ≤ 40 ∧ d.shown.length ≤ sizeLine
def rReprQ : List V → Hp → VK → Prop := fun xs H Q => ∃ av x d, xs = [x] ∧ Shows av H x d ∧ Q (.str d.shown) H
theorem call_reprQ (gd : X.A.guards = some []) (un : X.A.units + 64 < cLine) : CallR X (.builtin "repr") rReprQ := by
  rintro pins s σ H xs us Q I rel ⟨av, x, d, rfl, ⟨hd, sh, dep, sz⟩, q⟩
  obtain ⟨u, rfl, rv⟩ := vals1 rel
  obtain ⟨as, reads, nsys⟩ := Dq.reads I hd rv
  have big : ∀ {a : Addr}, u = .ref a → wpAny (model X.prog X.w) X.A (call (.builtin "repr") [u]) (EP X pins σ Q) X.xe s := fun e => by
    subst e
    exact repr_of_reads' reads sh (fun _ => nsys) gd (by omega) (fun _ _ e => e) (fun h2 u2 tk keep => ⟨.str _, H, I.kept keep, ⟨u2, rfl⟩, q⟩) sz
  cases hd with
  | non =>
    cases rv
    exact PySem.P.repr_of_none ⟨.str "None", H, I.tok _, ⟨_, rfl⟩, q⟩
  | bl b =>
    cases rv
    exact PySem.P.repr_of_bool ⟨.str (if b then "True" else "False"), H, I.tok _, ⟨_, rfl⟩, q⟩
  | int i =>
    obtain ⟨t, rfl⟩ := rv
    refine PySem.P.repr_of_int ?_ ⟨.str _, H, I.tok _, ⟨_, rfl⟩, q⟩
    simpa [PyData.showable] using sh
  | str z =>
    obtain ⟨t, rfl⟩ := rv
    exact PySem.P.repr_of_str ⟨.str _, H, I.tok _, ⟨_, rfl⟩, q⟩ sz
  | lst _ _ _ _ => exact big rv
  | tup _ _ _ => exact big rv
  | dnil _ _ => exact big rv
  | done _ _ _ => exact big rv
/-- {x!r} -/
def tFmtQ (te : TE) : TE := fun σ H Q => te σ H fun x H1 => ∃ av d, Shows av H1 x d ∧ Q (.str d.shown) H1
theorem pe_fmtQ {e : Expr} {te : TE} {pos : Pos} (gd : X.A.guards = some []) (un : X.A.units + 64 < cLine) (he : PE X e te) : PE X (.FormattedValue e 114 none pos) (tFmtQ te) := by
  constructor
  intro pins s σ H Q I want
  refine wpAny_FormattedValue_repr (thn (he.run pins s σ H _ I want) ?_)
  rintro u s1 ⟨x, H1, I1, rv, av, d, ⟨hd, sh, dep, sz⟩, q⟩
  obtain ⟨as, reads, nsys⟩ := Dq.reads I1 hd rv
  have big : ∀ {a : Addr}, u = .ref a → wpAny (model X.prog X.w) X.A (pyReprObj u) (fun v s2 => wpAny (model X.prog X.w) X.A (formatField v Str.empty) (EP X pins σ Q) X.xe s2) X.xe s1 := fun e => by
    subst e
    exact pyReprObj_of_reads reads sh (fun _ => nsys) gd (by omega) (fun _ _ e => e) (fun h2 u2 tk keep => wpAny_formatField_str ⟨.str _, H1, I1.kept keep, ⟨_, rfl⟩, q⟩ ⟨.str _, H1, I1.kept keep, ⟨_, rfl⟩, q⟩ sz) sz
  cases hd with
  | non =>
    cases rv
    exact pyReprObj_none (wpAny_formatField_str ⟨.str "None", H1, I1.tok _, ⟨_, rfl⟩, q⟩ ⟨.str "None", H1, I1.tok _, ⟨_, rfl⟩, q⟩ sz)
  | bl b =>
    cases rv
    exact pyReprObj_bool (wpAny_formatField_str ⟨.str (if b then "True" else "False"), H1, I1.tok _, ⟨_, rfl⟩, q⟩ ⟨.str (if b then "True" else "False"), H1, I1.tok _, ⟨_, rfl⟩, q⟩ sz)
  | int i =>
    obtain ⟨t, rfl⟩ := rv
    exact pyReprObj_int (by simpa [PyData.showable] using sh) (wpAny_formatField_str ⟨.str _, H1, I1.tok _, ⟨_, rfl⟩, q⟩ ⟨.str _, H1, I1.tok _, ⟨_, rfl⟩, q⟩ sz)
  | str z =>
    obtain ⟨t, rfl⟩ := rv
    exact pyReprObj_str (wpAny_formatField_str ⟨.str _, H1, I1.tok _, ⟨_, rfl⟩, q⟩ ⟨.str _, H1, I1.tok _, ⟨_, rfl⟩, q⟩ sz) sz
  | lst _ _ _ _ => exact big rv
  | tup _ _ _ => exact big rv
  | dnil _ _ => exact big rv
  | done _ _ _ => exact big rv
/-- err.f, err an exception of ours that is held as a value -/
def tEf (K : PySem.W.Frag) (f : Str) (te : TE) : TE := fun σ H Q => te σ H fun x H1 => ∃ (a C dd : Addr) (fs : List (Str × V)) (v : V), x = .ref a ∧ XfC K C ∧ PySem.W.findIn K (.ref C) f = some none ∧ H1 a = some (exo a C (some dd)) ∧ H1 dd = some (exd dd fs) ∧ fs.lookup f = some v ∧ Q v H1
theorem pe_ef {e : Expr} {te : TE} {pos : Pos} {f : Str} (he : PE X e te) (hb : attributeBase e f X.env (eval e X.env) = eval e X.env := by rfl) : PE X (.Attribute e f pos) (tEf X.K f te) := by
  constructor
  intro pins s σ H Q I want
  refine attr_of hb (thn (he.run pins s σ H _ I want) ?_)
  rintro u s1 ⟨x, H1, I1, rx, a, C, dd, fs, v, rfl, T, no, ea, ed, l, q⟩
  cases (show u = Value.ref a from rx)
  obtain ⟨t1, at_⟩ := exo_at I1.hok ea
  obtain ⟨mA, ns, rel⟩ := exd_at I1.hok ed
  obtain ⟨od, ho, hl⟩ := lookIn_ns ns
  obtain ⟨u2, hu, ru⟩ := RelO.some_of (v := v) (o := mA f) (by rw [← l]; exact rel f)
  have J : PySem.W.InstAt s1.heap a _ C (some od) := ⟨at_, rfl, rfl, ho⟩
  exact HandSPX.exc_get I1.kIn J T.ga T.gg T.exC (PySem.W.findObj_own T.hdC no rfl (by rw [hl, hu])) (handed_of ru) ⟨v, H1, I1.tok _, ru, q⟩
/-- an exception of the class at C stands at a -/
def Held (H : Hp) (a C : Addr) : Prop := H a = some (exo a C none) ∨ ∃ dd fs, H a = some (exo a C (some dd)) ∧ H dd = some (exd dd fs)
def rIsiE (K : PySem.W.Frag) : List V → Hp → VK → Prop := fun xs H Q => ∃ (a C : Addr) (c : V) (u : Value) (b : Bool), xs = [.ref a, c] ∧ ClsV c u ∧ Held H a C ∧ ExcC K C ∧ PySem.W.kitOne K (.ref C) u = some b ∧ Q (.bl b) H
theorem call_isiE : CallR X (.builtin "isinstance") (rIsiE X.K) := by
  rintro pins s σ H xs us Q I rel ⟨a, C, c, w, b, rfl, k, held, T, e, q⟩
  obtain ⟨u1, u2, rfl, r1, r2⟩ := vals2 rel
  have e2 := k.eq r2
  subst e2
  cases (show u1 = Value.ref a from r1)
  have cl : (PySem.W.clsIn X.K C).isSome = true := by
    obtain ⟨cd, hc, _⟩ := PySem.W.any_some T.hd
    rw [hc]
    rfl
  rcases held with ea | ⟨dd, fs, ea, ed⟩
  · obtain ⟨t1, at_⟩ := exo_at I.hok ea
    exact PySem.W.kia_one (PySem.W.kitx_exc (od := none) cl T.hg T.hk T.hs T.ha T.hn T.ht T.hm) I.kIn ⟨at_, rfl, rfl, trivial⟩ e (fun z => nomatch z) fun tk => ⟨.bl b, H, I.tok tk, rfl, q⟩
  · obtain ⟨t1, at_⟩ := exo_at I.hok ea
    obtain ⟨mA, ns, rel2⟩ := exd_at I.hok ed
    obtain ⟨od, ho, hl⟩ := lookIn_ns ns
    exact PySem.W.kia_one (PySem.W.kitx_exc (od := some od) cl T.hg T.hk T.hs T.ha T.hn T.ht T.hm) I.kIn ⟨at_, rfl, rfl, ho⟩ e (fun z => nomatch z) fun tk => ⟨.bl b, H, I.tok tk, rfl, q⟩
/-- C(), a class of ours over ValueError without its own __init__ -/
def tBare (C : Addr) : TE := fun _ H Q => ∀ a, H a = none → Q (.ref a) (upd H a (exo a C none))
theorem pe_bare {C : Addr} {x : Str} {p pos : Pos} {bmB : List Value} {B newId initId : String} (F : ExcBaseFacts B newId initId bmB) (cls : PySem.W.excIn X.K C bmB newId = true) (isGl : Gl X x) (at_ : X.mg x = some (.ref C)) (kC : PySem.W.keepIn X.K (.ref C) = true) (nodbg : (x == ("__debug__" : Str)) = false := by decide) :
    PE X (.Call (.Name x p) [] [] pos) (tBare C) := by
  constructor
  intro pins s σ H Q I want
  refine wpAny_Call_Name_kw (ld_glob I isGl at_ ?_ nodbg)
  refine PySem.W.callWith_K0 I.kIn kC ?_
  obtain ⟨bm, N, nm, qn, bs, hdct, sn, sub, ab, col, dd, k0, k1, k2, k3, k5, mN, hC, hN, hni, T⟩ := exc_obj I.kIn cls
  refine wpAny_call_exc_subT F T hC hN hni (fun h' a hm => ?_) (Nat.zero_le _)
  have n : H a = none := I.hok.gone hm.new
  obtain ⟨t, ht, _, _⟩ := hm.there
  exact ⟨.ref a, upd H a (exo a C none), I.laidN hm.keeps hm.new n (exo_ok ht), rfl, want a n⟩
end
end Ex
/-! An exception that was caught and is kept by a name: try: body / except C as n: y = n. -/
namespace Ex
open PySem PySem.Spec PyProof.Rows L2 Gd
/-- an exception's object that was in the air: its class and its dict are known -/
def exz (e : Addr) (cls : Value) (d : Option Addr) : HO := .ext fun h => ∃ (o : Obj) (vs : Array Value), h.get? e = some o ∧ Zc cls d o ∧ o.data = .fields vs
theorem exz_ok {P : Program} {w : World} {H : Hp} {h : Heap} {e : Addr} {cls : Value} {d : Option Addr} {o : Obj} {vs : Array Value} (he : h.get? e = some o) (hz : Zc cls d o) (hd : o.data = .fields vs) : ObjOk P w H h e (exz e cls d) :=
  ⟨⟨o, vs, he, hz, hd⟩, ⟨o, he⟩, fun h1 h2 ⟨o, vs, a, b, c⟩ st => ⟨o, vs, st _ a, b, c⟩⟩
theorem exz_at {P : Program} {w : World} {H : Hp} {h : Heap} {e : Addr} {cls : Value} {d : Option Addr} (hok : HOk P w H h) (he : H e = some (exz e cls d)) : ∃ (o : Obj) (vs : Array Value), h.get? e = some o ∧ Zc cls d o ∧ o.data = .fields vs := (hok _ _ he).1
theorem exz_no {e : Addr} {cls : Value} {d : Option Addr} {u : HO} (h : match u with | .ext _ => False | _ => True) : exz e cls d ≠ u := fun z => by
  unfold exz at z
  rw [← z] at h
  exact h
section
variable {X : Cx} {pins : List (Addr × Obj)} {σ : L2.St} {H : Hp} {s : Shared}
/-- what was not there when the def began may be known from now on -/
theorem learn {a : Addr} {o : HO} (I : Inv X pins σ H s) (new : X.s_0.heap.get? a = none) (na : H a = none) (nL : a ≠ X.env.locals) (nC : ∀ x c, X.env.cells.lookup x = some c → c ≠ a) (nP : ∀ p ∈ X.pn ++ pins, p.1 ≠ a) (ok : ObjOk X.prog X.w (upd H a o) s.heap a o) : Inv X pins σ (upd H a o) s := by
  have same : ∀ b u, H b = some u → upd H a o b = some u := fun b u e => by rw [upd_ne (ne_of_none e na)]; exact e
  refine ⟨I.ok, I.os, I.bare, ⟨I.base.keep, I.base.slot, fun b u e n hx => ?_, I.base.there, fun b xs e => same _ _ (I.base.tups b xs e), fun b u v e => same _ _ (I.base.frzs b u v e), fun b qs e => ?_⟩, I.loc, I.cell, ?_, fun x c e => ?_, fun p hp => ?_, fun b u e => ?_, I.len⟩
  · by_cases z : b = a
    · rw [z, new] at e
      cases e
    · rw [upd_ne z]
      exact I.base.free b u e n hx
  · obtain ⟨more, q⟩ := I.base.tbls b qs e
    exact ⟨more, same _ _ q⟩
  · rw [upd_ne (Ne.symm nL)]
    exact I.free
  · rw [upd_ne (nC x c e)]
    exact I.freeC x c e
  · obtain ⟨e, n, r⟩ := I.pin p hp
    exact ⟨e, by rw [upd_ne (nP p hp)]; exact n, r⟩
  · by_cases z : b = a
    · rw [z, upd_same] at e
      cases e
      rw [z]
      exact ok
    · rw [upd_ne z] at e
      exact (I.hok b u e).stay (fun _ _ _ q => q) (fun _ q => same _ _ q) fun _ _ q => same _ _ q
end
/-- what 'except x as n: y = n' wishes: slot i is n's, slot j is y's -/
def wKept (K : PySem.W.Frag) (c : Value) (i j : Nat) (Wout : WX) (D : Ends) : WX := fun cls d σ H =>
  ∃ b, PySem.W.exmOne K cls c = some b ∧ (b = true → ∀ a, H a = none → D.nx ((σ.set j (some (.ref a))).set i none) (upd H a (exz a cls d))) ∧ (b = false → Wout cls d σ H)
section
variable {X : Cx} {x n y : Str} {c : Value} {i j : Nat} {body : List Stmt} {np q1 q2 q3 pos pos' : Pos} {tb : WX → TS} {Wout : WX}
theorem ps_tryK (hs : X.stack = X.env :: X.outer) (hf : X.env.frame = some X.env.locals) (hex : X.ex = []) (hN : X.N.Nodup) (hi : X.N[i]? = some n) (hj : X.N[j]? = some y) (hij : j ≠ i) (hln : X.env.kindOf n = some .local) (hvn : Vis X.env.scope n) (hly : X.env.kindOf y = some .local) (hdn : (n == ("__debug__" : Str)) = false := by decide) (hcn : (n == ("__classdict__" : Str)) = false := by decide) (hc : Names X x c) (tk : Takes X Wout)
    (hb : ∀ (W : WX) (pn : List (Addr × Obj)) (xe : Value → Shared → Prop), Takes (X.tr pn xe) W → PassesOwn (model X.prog X.w) X.A X.env xe → PSs (X.tr pn xe) body (tb W)) :
    PS X (.Try body [.ExceptHandler (some (.Name x np)) (some n) [.Assign [.Name y q1] (.Name n q2) q3] pos'] [] [] pos) (fun D σ H => tb (wKept X.K c i j Wout D) D σ H) := by
  refine ⟨fun pins s σ H D I want => ?_⟩
  have ok := I.ok
  have top : X.A.frames = some (X.env :: X.outer) := by rw [ok.frames, hs]
  have locN : Loc X.env.scope n := .inl hln
  have locY : Loc X.env.scope y := .inl hly
  refine wpAny_Try_except ?_
  refine wpAny_mono ((hb (wKept X.K c i j Wout D) (X.pn ++ pins) _ (fun u s2 air => ?_) PassesOwn.looking).run [] s σ H D (I.toTry _) want) (fun f s1 post => ?_) (fun _ _ bad => bad)
  · obtain ⟨a, B, s3, pins3, σ3, H3, cls, d, rfl, J3, inB, upTo, sky, free3, os3, ag3, b, isC, caught, passed⟩ := air
    have J : Inv X pins σ3 H3 s3 := J3.ofTry ok
    have skyT : Sky B (X.env :: X.outer) a (Zc cls d) X.env.locals s2.heap := by rw [← hs]; exact sky
    show wpAny (model X.prog X.w) X.A (noteFrame (.ref a) X.env) _ _ _
    refine Sky.land Zc.steady top hf skyT fun h3 air3 up3 => ?_
    have J4 : Inv X pins σ3 H3 { s2 with heap := h3 } := J.landed inB air3.1 (upTo.trans up3) os3 ag3
    obtain ⟨o3, vs3, at3, z3, dt3⟩ := air3.there
    have noFrame : a ∉ frs (X.env :: X.outer) := fun hm => by
      obtain ⟨_, o', e', nf⟩ := air3.2.2.1.mem hm
      rw [at3] at e'
      cases e'
      exact nf _ dt3
    have noB : B.get? a = none := air3.2.1
    have nL : a ≠ X.env.locals := fun z => noFrame (List.mem_filterMap.mpr ⟨X.env, List.mem_cons_self, by rw [hf, z]⟩)
    have nF : a ∉ X.fs := fun hm => by
      obtain ⟨e, he, q⟩ := List.mem_filterMap.mp hm
      exact noFrame (List.mem_filterMap.mpr ⟨e, List.mem_cons_of_mem _ he, q⟩)
    have notIn : ∀ {o : Obj}, s3.heap.get? a = some o → False := fun {o} e => by
      have := inB a o e (by rw [hs]; exact noFrame)
      rw [noB] at this
      cases this
    have notOld : X.s_0.heap.get? a = none := by
      cases e : X.s_0.heap.get? a with
      | none => rfl
      | some o =>
        obtain ⟨o', e'⟩ := J.base.there a o e (by rw [hex]; exact List.not_mem_nil)
        exact (notIn e').elim
    have noPin : ∀ p ∈ X.pn ++ pins, p.1 ≠ a := fun p hp z => by
      obtain ⟨e, _⟩ := J.pin p hp
      rw [z] at e
      exact notIn e
    have S4 := J4.suite at3 dt3 free3 nL nF
    refine wpAny_handleBy_cons (codeAny_handlers_test ?_) (by intro q; cases q)
    have ty : PySem.W.Looks (model X.prog X.w) h3 (typeOf (.ref a)) cls := fun A Q E s k q => wpAny_typeOf_ref (k _ _ at3) (by rw [z3.1]; exact q)
    have matched := PySem.W.exm_one (M := model X.prog X.w) (J4.kIn) ty isC
    have named : ∀ {Q : Value → Shared → Prop} {E : Value → Shared → Prop}, Q c { s2 with heap := h3 } → wpAny (model X.prog X.w) (X.A.mark (some (.ref a))) (eval (.Name x np) X.env) Q E { s2 with heap := h3 } := fun {Q E} q => by
      obtain ⟨hg, hdbg, hm | ⟨hm, hv, hnn⟩⟩ := hc
      · exact ld_glob (X := X.suite a ((a, o3) :: (X.pn ++ pins))) S4 hg hm q hdbg
      · exact ld_blt (X := X.suite a ((a, o3) :: (X.pn ++ pins))) S4 hg hm hv q hnn hdbg
    refine named (matched.here ?_)
    cases b with
    | true =>
      refine codeAny_handlers_suite_as ?_
      refine HandSPX.lands_againZ air3 fun h5 air5 up5 => ?_
      have J5 : Inv X pins σ3 H3 { s2 with heap := h5 } := J.landed inB air5.1 ((upTo.trans up3).trans up5) os3 ag3
      obtain ⟨o5, vs5, at5, z5, dt5⟩ := air5.there
      have S5 := J5.suite at5 dt5 free3 nL nF
      refine store_ok (X := X.suite a ((a, o5) :: (X.pn ++ pins))) (v := .ref a) S5 hN hi locN rfl (fun s6 S6 => ?_) (.inr hln)
      have lenS : i < σ3.length := by
        rw [J.len]
        exact (List.getElem?_eq_some_iff.mp hi).1
      have body := pss_one (ps_set (X := X.suite a ((a, o5) :: (X.pn ++ pins))) (i := j) (pos := q3) (pos' := q1) hN hj (.inl hly) (pe_var (pos := q2) (i := i) hi hvn hdn hcn) rfl (.inr hly))
      refine wpAny_mono (body.run [] s6 _ H3 { nx := fun σ' H' => σ' = (σ3.set i (some (.ref a))).set j (some (.ref a)) ∧ H' = H3, rt := fun _ _ => False, bk := fun _ _ => False, ct := fun _ _ => False } S6 ?_) (fun f s7 post => ?_) (fun _ _ z => False.elim z)
      · exact ⟨.ref a, by rw [List.getElem?_set_self lenS], rfl, rfl⟩
      · cases f with
        | brk => exact (post.choose_spec.choose_spec).2.elim
        | cont => exact (post.choose_spec.choose_spec).2.elim
        | ret u =>
          obtain ⟨_, _, _, _, _, z⟩ := post
          exact z.elim
        | next =>
          obtain ⟨σ7, H7, S7, rfl, rfl⟩ := post
          have pinA := S7.pin (a, o5) (List.mem_append_left _ List.mem_cons_self)
          have J7 : Inv X ((a, o5) :: pins) ((σ3.set i (some (.ref a))).set j (some (.ref a))) H7 s7 := (S7.unsuite ok).pins_of (pins' := (a, o5) :: pins) (fun p hp => by
            rcases List.mem_cons.mp hp with rfl | hp
            · exact pinA
            · exact (S7.unsuite ok).pin p (List.mem_append_right _ hp))
          refine gone_ok J7 hN hi hln fun s8 J8 => ?_
          obtain ⟨at8, _⟩ := J8.pin (a, o5) (List.mem_append_right _ List.mem_cons_self)
          have J9 : Inv X pins _ H7 s8 := J8.pins_of fun p hp => J8.pin p (List.mem_append_right _ (List.mem_cons_of_mem _ hp))
          have nC : ∀ z cc, X.env.cells.lookup z = some cc → cc ≠ a := fun z cc hz e => by
            obtain ⟨v, o, ho, hd⟩ := J9.cell z cc hz
            rw [e, at8] at ho
            cases ho
            rw [dt5] at hd
            cases hd
          have J10 := learn (a := a) (o := exz a cls d) J9 notOld free3 nL nC noPin (exz_ok at8 z5 dt5)
          have ec : ((σ3.set i (some (V.ref a))).set j (some (V.ref a))).set i none = (σ3.set j (some (V.ref a))).set i none := by
            rw [List.set_comm _ _ (Ne.symm hij), List.set_set]
          rw [ec] at J10
          exact ⟨_, _, J10, caught rfl a free3⟩
    | false =>
      show wpAny _ X.A (handleBy (.ref a) X.env []) _ _ _
      refine wpAny_handleBy_nil ?_
      obtain ⟨k1, k2, k3, oe, vs, T, oT, ts', he, hz, hd, h1, hr⟩ := id air3
      unfold PySem.passOn
      refine wpAny_bind (wpAny_field he hd h1 ?_)
      rw [if_neg (show ¬ ((Value.ref T == Value.none) = true) from by simp)]
      have last : wpAny (model X.prog X.w) X.A (setFlight (.ref a) X.env.frame) (fun _ s5 => wpAny (model X.prog X.w) X.A (throw (.ref a) : Sem Flow) (SP X pins D) X.xe s5) X.xe { s2 with heap := h3 } := by
        rw [hf]
        exact HandSPX.setFlight_upZ air3 fun h5 held5 up5 => wpAny_throw (tk _ _ ⟨a, B, s3, pins, σ3, H3, cls, d, rfl, J, inB, (upTo.trans up3).trans up5, .inr (.inr (by rw [hs]; exact held5)), free3, os3, ag3, passed rfl⟩)
      first
        | exact wpAny_bind (wpAny_pure (wpAny_bind last))
        | exact wpAny_bind last
  · cases f with
    | next =>
      obtain ⟨σ2, H2, J2, q⟩ := post
      exact wpAny_execs_nil ⟨σ2, H2, J2.ofTry ok, q⟩
    | brk =>
      obtain ⟨σ2, H2, J2, q⟩ := post
      exact ⟨σ2, H2, J2.ofTry ok, q⟩
    | cont =>
      obtain ⟨σ2, H2, J2, q⟩ := post
      exact ⟨σ2, H2, J2.ofTry ok, q⟩
    | ret u =>
      obtain ⟨v, σ2, H2, J2, r, q⟩ := post
      exact ⟨v, σ2, H2, J2.ofTry ok, r, q⟩
end
section
variable {X : Cx}
/-- an exception of the class at C, that was in the air, stands at a -/
def Kept (H : Hp) (a C : Addr) : Prop := H a = some (exz a (.ref C) none) ∨ ∃ dd fs, H a = some (exz a (.ref C) (some dd)) ∧ H dd = some (.xd fs)
def rIsiZ (K : PySem.W.Frag) : List V → Hp → VK → Prop := fun xs H Q => ∃ (a C : Addr) (c : V) (u : Value) (b : Bool), xs = [.ref a, c] ∧ ClsV c u ∧ Kept H a C ∧ ExcC K C ∧ PySem.W.kitOne K (.ref C) u = some b ∧ Q (.bl b) H
theorem call_isiZ : CallR X (.builtin "isinstance") (rIsiZ X.K) := by
  rintro pins s σ H xs us Q I rel ⟨a, C, c, w, b, rfl, k, held, T, e, q⟩
  obtain ⟨u1, u2, rfl, r1, r2⟩ := vals2 rel
  have e2 := k.eq r2
  subst e2
  cases (show u1 = Value.ref a from r1)
  have cl : (PySem.W.clsIn X.K C).isSome = true := by
    obtain ⟨cd, hc, _⟩ := PySem.W.any_some T.hd
    rw [hc]
    rfl
  rcases held with ea | ⟨dd, fs, ea, ed⟩
  · obtain ⟨o, vs, at_, z, dt⟩ := exz_at I.hok ea
    exact PySem.W.kia_one (PySem.W.kitx_exc (od := none) cl T.hg T.hk T.hs T.ha T.hn T.ht T.hm) I.kIn ⟨at_, z.1, by unfold PySem.W.notCls; rw [dt], by rw [z.2]; trivial⟩ e (fun z => nomatch z) fun tk => ⟨.bl b, H, I.tok tk, rfl, q⟩
  · obtain ⟨o, vs, at_, z, dt⟩ := exz_at I.hok ea
    obtain ⟨mA, ns, rel2⟩ := (show ObjOk X.prog X.w H s.heap dd (.xd fs) from I.hok _ _ ed)
    obtain ⟨od, ho, hl⟩ := lookIn_ns ns
    exact PySem.W.kia_one (PySem.W.kitx_exc (od := some od) cl T.hg T.hk T.hs T.ha T.hn T.ht T.hm) I.kIn ⟨at_, z.1, by unfold PySem.W.notCls; rw [dt], by rw [z.2]; exact ho⟩ e (fun z => nomatch z) fun tk => ⟨.bl b, H, I.tok tk, rfl, q⟩
def rIsiZT (K : PySem.W.Frag) : List V → Hp → VK → Prop := fun xs H Q => ∃ (a C tp : Addr) (cs : List V) (us : List Value) (b : Bool), xs = [.ref a, .ref tp] ∧ H tp = some (.tup cs) ∧ Paired ClsV cs us ∧ Kept H a C ∧ ExcC K C ∧ PySem.W.kitAny K (.ref C) us = some b ∧ Q (.bl b) H
theorem call_isiZT : CallR X (.builtin "isinstance") (rIsiZT X.K) := by
  rintro pins s σ H xs us Q I rel ⟨a, C, tp, cs, ws, b, rfl, hT, k, held, T, e, q⟩
  obtain ⟨u1, u2, rfl, r1, r2⟩ := vals2 rel
  cases (show u2 = Value.ref tp from r2)
  cases (show u1 = Value.ref a from r1)
  obtain ⟨_, its, rv, o, h1, h2, n, h3⟩ := (show ObjOk X.prog X.w H s.heap tp (.tup cs) from I.hok tp _ hT)
  have e3 := ClsV.all k rv
  subst e3
  obtain ⟨oc, od, dt, sl⟩ := o
  simp only at h2 h3
  subst h2 h3
  have cl : (PySem.W.clsIn X.K C).isSome = true := by
    obtain ⟨cd, hc, _⟩ := PySem.W.any_some T.hd
    rw [hc]
    rfl
  rcases held with ea | ⟨dd, fs, ea, ed⟩
  · obtain ⟨o, vs, at_, z, dt⟩ := exz_at I.hok ea
    exact PySem.W.kia_tup (PySem.W.kitx_exc (od := none) cl T.hg T.hk T.hs T.ha T.hn T.ht T.hm) I.kIn ⟨at_, z.1, by unfold PySem.W.notCls; rw [dt], by rw [z.2]; trivial⟩ h1 e (fun z => nomatch z) fun tk => ⟨.bl b, H, I.tok tk, rfl, q⟩
  · obtain ⟨o, vs, at_, z, dt⟩ := exz_at I.hok ea
    obtain ⟨mA, ns, rel2⟩ := (show ObjOk X.prog X.w H s.heap dd (.xd fs) from I.hok _ _ ed)
    obtain ⟨od, ho, hl⟩ := lookIn_ns ns
    exact PySem.W.kia_tup (PySem.W.kitx_exc (od := some od) cl T.hg T.hk T.hs T.ha T.hn T.ht T.hm) I.kIn ⟨at_, z.1, by unfold PySem.W.notCls; rw [dt], by rw [z.2]; exact ho⟩ h1 e (fun z => nomatch z) fun tk => ⟨.bl b, H, I.tok tk, rfl, q⟩
/-- err.f -/
def tEz (K : PySem.W.Frag) (f : Str) (te : TE) : TE := fun σ H Q => te σ H fun x H1 => ∃ (a C dd : Addr) (fs : List (Str × V)) (v : V), x = .ref a ∧ XfC K C ∧ PySem.W.findIn K (.ref C) f = some none ∧ H1 a = some (exz a (.ref C) (some dd)) ∧ H1 dd = some (.xd fs) ∧ fs.lookup f = some v ∧ Q v H1
theorem pe_ez {e : Expr} {te : TE} {pos : Pos} {f : Str} (he : PE X e te) (hb : attributeBase e f X.env (eval e X.env) = eval e X.env := by rfl) : PE X (.Attribute e f pos) (tEz X.K f te) := by
  constructor
  intro pins s σ H Q I want
  refine attr_of hb (thn (he.run pins s σ H _ I want) ?_)
  rintro u s1 ⟨x, H1, I1, rx, a, C, dd, fs, v, rfl, T, no, ea, ed, l, q⟩
  cases (show u = Value.ref a from rx)
  obtain ⟨o, vs, at_, z, dt⟩ := exz_at I1.hok ea
  obtain ⟨mA, ns, rel⟩ := (show ObjOk X.prog X.w H1 s1.heap dd (.xd fs) from I1.hok _ _ ed)
  obtain ⟨od, ho, hl⟩ := lookIn_ns ns
  obtain ⟨u2, hu, ru⟩ := RelO.some_of (v := v) (o := mA f) (by rw [← l]; exact rel f)
  have J : PySem.W.InstAt s1.heap a _ C (some od) := ⟨at_, z.1, by unfold PySem.W.notCls; rw [dt], by rw [z.2]; exact ho⟩
  exact HandSPX.exc_get I1.kIn J T.ga T.gg T.exC (PySem.W.findObj_own T.hdC no rfl (by rw [hl, hu])) (handed_of ru) ⟨v, H1, I1.tok _, ru, q⟩
end
end Ex
/-! raise C(e, ..) where C's __init__ says super().__init__(..): the promise is kept where no repr is under way. -/
namespace Ex
open PySem PySem.Spec PyProof.Rows L2 Gd
section
variable {X : Cx} {CX : CXT} {k : Nat} {fI C : Addr} {fd : FuncData} {ps : List Str} {sp : Sp} {x : Str} {p pos : Pos} {e : Expr} {es : List Expr} {ta tk : TA}
/-- what is wanted of the __init__ of an exception that is to be raised -/
def Raised (sp : Sp) (C : Addr) (vs : List V) (H1 : Hp) (Q : XK) : Prop := ∀ a, H1 a = none → sp (.ref a :: vs) (upd H1 a (exo a C none))
  (fun v H2 => v = .non ∧ ∃ (d : Addr) (fs : List (Str × V)), H2 a = some (exo a C (some d)) ∧ H2 d = some (exd d fs) ∧ H1 d = none ∧ Q (.ref C) (some d) (upd (del H2 a) d (.xd fs))) fun _ _ _ => False
theorem run_mkE {pins : List (Addr × Obj)} {σ : L2.St} {H : Hp} {s : Shared} {Q : XK} {us gs : List Value} {kw : List (Str × Value)} {vs : List V} (O : Own X.K C fI) (Fn : FnG X.prog X.w X.K X.mg X.base CX k fI fd ps sp) (room : Room (k + 1) X.A) (gd : X.A.guards = some [])
    (pass : Passes CX X fun _ _ _ => False) (bind : ∀ (s : Shared) (self : Value), X.K.In s.heap → BindsTo s fd ⟨self :: us, kw⟩ (ps.zip (self :: gs))) (I : Inv X pins σ H s) (rel : Vals vs gs) (few : us.length ≤ sizeLine) (want : Raised sp C vs H Q) :
    wpAny (model X.prog X.w) X.A (call (.ref C) us kw) (MkP X pins σ Q) X.xe s := by
  obtain ⟨nm, qn, N, bs, bm, sn, sub, ab, col, dd, k0, k1, k2, k3, k5, at_, ve⟩ := O.oex.cls
  obtain ⟨hp, g, dr, tk, os⟩ := s
  have le : hp.objs.size ≤ hp.objs.size + 1 := Nat.le_succ _
  have fresh : H (hp.objs.size + 1) = none := I.hok.fresh le
  have q := want (hp.objs.size + 1) fresh
  have kept : ∀ b o, hp.get? b = some o → ((hp.push (PySem.W.kdv_tup us)).push (PySem.HandSPX.excO C hp.objs.size)).get? b = some o := fun b o e => Heap.get?_push_of_some _ (Heap.get?_push_of_some _ e)
  have new : ((hp.push (PySem.W.kdv_tup us)).push (PySem.HandSPX.excO C hp.objs.size)).get? (hp.objs.size + 1) = some (PySem.HandSPX.excO C hp.objs.size) := by heap_get
  have I2 : Inv X pins σ (upd H (hp.objs.size + 1) (exo (hp.objs.size + 1) C none)) ⟨(hp.push (PySem.W.kdv_tup us)).push (PySem.HandSPX.excO C hp.objs.size), g, dr, tk, os⟩ :=
    I.laid (t' := tk) (o := exo (hp.objs.size + 1) C none) kept le (exo_ok new)
  refine wpAny_call (classCalled (fun Y => PySem.HandSPX.refsVE_contains Y bm ve) (I.kIn _ _ at_) (PySem.W.looks_findIn I.kIn O.ini) (fun self => PySem.W.bind_fn I.kIn self O.fn) few ?_)
  refine codeAny_mono (Fn.go _ (room.make C us kw) ?_ X.stack _ _ _ (.ref (hp.objs.size + 1) :: gs) _ _ (fun _ _ _ => False) (I2.env0.make C us kw) (bind _ _ I2.kIn) (.cons (show RelV (V.ref (hp.objs.size + 1)) (.ref (hp.objs.size + 1)) from rfl) rel) q) fun r s' got => ?_
  · rw [PySem.Around.under, gd]
    rfl
  · rcases r with er | fl
    · exact pass pins σ _ _ er s' I2 got
    · cases fl with
      | next => exact False.elim got
      | brk => exact False.elim got
      | cont => exact False.elim got
      | ret u =>
        obtain ⟨v, H2, os2, bare2, un2, hok2, rv, ev, d, fs, ea, ed, hd1, q2⟩ := got
        subst ev
        obtain ⟨h2, g2, d2, t2, os'⟩ := s'
        exact ⟨rv, mk_end (raises_own O.oex.exC O.oex.tyC) I le kept un2 hok2 os2 bare2 ea ed hd1 q2⟩
/-- C(e, ..) to be raised -/
def tMkE (C : Addr) (sp : Sp) (ta : TA) : L2.St → Hp → XK → Prop := fun σ H Q => ta σ H fun vs H1 => vs.length ≤ 1000 ∧ Raised sp C vs H1 Q
theorem pmk_newE (O : Own X.K C fI) (kC : PySem.W.keepIn X.K (.ref C) = true) (Fn : FnG X.prog X.w X.K X.mg X.base CX k fI fd ps sp) (room : Room (k + 1) X.A) (gd : X.A.guards = some []) (pass : Passes CX X fun _ _ _ => False)
    (isGl : Gl X x) (at_ : X.mg x = some (.ref C)) (bind : ∀ (s : Shared) (self : Value) (us : List Value), us.length + 1 = ps.length → X.K.In s.heap → BindsTo s fd ⟨self :: us, []⟩ (ps.zip (self :: us))) (args : PA X (e :: es) ta)
    (nodbg : (x == ("__debug__" : Str)) = false := by decide) (star : starEach (e :: es) X.env = (false, eval e X.env) :: starEach es X.env := by rfl) (plain : (backTo pos (starEach es X.env)).any (·.1) = false := by rfl) :
    PMk X (.Call (.Name x p) (e :: es) [] pos) (tMkE C sp ta) := by
  intro pins s σ H Q I want
  refine wpAny_Call_Name_kw (ld_glob I isGl at_ ?_ nodbg)
  refine PySem.W.callWith_K (h₀ := X.base) I.ok.mod.kin kC (thn (args.run pos pins s σ H _ I want) ?_) star plain
  rintro us s1 ⟨vs, H1, I1, rel, few, q⟩
  refine ⟨I1.kIn, run_mkE O Fn room gd pass (fun s self inK => bind s self us ?_ inK) I1 rel (few_of rel few) q⟩
  have n := Fn.arity _ _ _ _ (q (s1.heap.objs.size) (I1.hok.fresh (Nat.le_refl _)))
  rw [← n, List.length_cons, Paired.length rel]
end
end Ex
/-! an error with a value: any value that can be shown -/
namespace Sn
open PySem PySem.Spec PyProof.Rows L2 Evl Gd Ex
structure Shw (e : PyData) : Prop where
  sh : e.showable = true
  dp : e.depth ≤ 40
  ln : e.shown.length ≤ 10000000
theorem repA_of {K : PySem.W.Frag} {d : Addr → Prop} {x : V} {e : PyData} {H : Hp} {Q : VK} (h : Av K d H x e) (s : Shw e) (q : Q (.str e.shown) H) : rReprA K [x] H Q :=
  ⟨d, x, e, rfl, h, s.sh, s.dp, Nat.le_trans s.ln (by rw [sizeLine_eq]; decide), q⟩
section
variable {X : Cx}
/-- {x!r} -/
def tFmtA (K : PySem.W.Frag) (te : TE) : TE := fun σ H Q => te σ H fun x H1 => ∃ d e, Av K d H1 x e ∧ Shw e ∧ Q (.str e.shown) H1
theorem pe_fmtA {e : Expr} {te : TE} {pos : Pos} (gd : X.A.guards = some []) (un : X.A.units + 64 < cLine) (he : PE X e te) : PE X (.FormattedValue e 114 none pos) (tFmtA X.K te) := by
  constructor
  intro pins s σ H Q I want
  refine wpAny_FormattedValue_repr (thn (he.run pins s σ H _ I want) ?_)
  rintro u s1 ⟨x, H1, I1, rv, d, e, hd, ⟨sh, dep, sz'⟩, q⟩
  have sz : e.shown.length ≤ sizeLine := by rw [sizeLine_eq]; omega
  obtain ⟨as, reads, nsys⟩ := Av.reads I1 hd rv
  have big : ∀ {a : Addr}, u = .ref a → wpAny (model X.prog X.w) X.A (pyReprObj u) (fun v s2 => wpAny (model X.prog X.w) X.A (formatField v Str.empty) (EP X pins σ Q) X.xe s2) X.xe s1 := fun e => by
    subst e
    exact pyReprObj_of_reads reads sh (fun _ => nsys) gd (by omega) (fun _ _ e => e) (fun h2 u2 tk keep => wpAny_formatField_str ⟨.str _, H1, I1.kept keep, ⟨_, rfl⟩, q⟩ ⟨.str _, H1, I1.kept keep, ⟨_, rfl⟩, q⟩ sz) sz
  cases hd with
  | non =>
    cases rv
    exact pyReprObj_none (wpAny_formatField_str ⟨.str "None", H1, I1.tok _, ⟨_, rfl⟩, q⟩ ⟨.str "None", H1, I1.tok _, ⟨_, rfl⟩, q⟩ sz)
  | bl b =>
    cases rv
    exact pyReprObj_bool (wpAny_formatField_str ⟨.str (if b then "True" else "False"), H1, I1.tok _, ⟨_, rfl⟩, q⟩ ⟨.str (if b then "True" else "False"), H1, I1.tok _, ⟨_, rfl⟩, q⟩ sz)
  | int i =>
    obtain ⟨t, rfl⟩ := rv
    exact pyReprObj_int (by simpa [PyData.showable] using sh) (wpAny_formatField_str ⟨.str _, H1, I1.tok _, ⟨_, rfl⟩, q⟩ ⟨.str _, H1, I1.tok _, ⟨_, rfl⟩, q⟩ sz)
  | str z =>
    obtain ⟨t, rfl⟩ := rv
    exact pyReprObj_str (wpAny_formatField_str ⟨.str _, H1, I1.tok _, ⟨_, rfl⟩, q⟩ ⟨.str _, H1, I1.tok _, ⟨_, rfl⟩, q⟩ sz) sz
  | lst _ _ _ _ => exact big rv
  | tup _ _ _ => exact big rv
  | dnil _ _ => exact big rv
  | done _ _ _ => exact big rv
end
/-- C(x): x is kept under f -/
def spInitA (K : PySem.W.Frag) (C : Addr) (f : Str) : Sp := fun vs H Q _ => ∃ (a : Addr) (d : Addr → Prop) (x : V) (e : PyData), vs = [.ref a, x] ∧ H a = some (exo a C none) ∧ Av K d H x e ∧ Shw e ∧
  ∀ dx, H dx = none → dx ≠ a → Q .non (upd (upd H dx (exd dx [(f, x)])) a (exo a C (some dx)))
end Sn
/-! looks that come to True iff something holds -/
namespace Kn
open PySem PySem.Spec PyProof.Rows L2 Evl Gd Sn
theorem orv_of {ta tb : TE} {σ : L2.St} {H : Hp} {Q : VK} (h : ta σ H fun x H1 => ∃ c, x = .bl c ∧ if c = true then Q (.bl true) H1 else tb σ H1 Q) : tOrV ta tb σ H Q := h
theorem chain_of {r r' : R2} {ta tb tc : TE} {σ : L2.St} {H : Hp} {Q : VK} (h : ta σ H fun x H1 => tb σ H1 fun y H2 => r x y H2 fun z H3 => ∃ k, z = .bl k ∧ (if k = true then tc σ H3 fun w' H4 => r' y w' H4 Q else Q (.bl false) H3)) : tChain r r' ta tb tc σ H Q := h
theorem slS_of {r : V → Option Int → Option Int → Hp → VK → Prop} {te tl : TE} {σ : L2.St} {H : Hp} {Q : VK} (h : te σ H fun x H1 => tl σ H1 fun y H2 => ∃ i, y = .int i ∧ r x (some i) none H2 Q) : L2.tSl r te (tPart tl) tNoPart σ H Q := h
/-- the look comes to True iff G -/
def Says (σ : L2.St) (H : Hp) (te : TE) (G : Prop) : Prop := ∀ Q : VK, (∀ H' (b : Bool), Ex H H' → (b = true ↔ G) → Q (.bl b) H') → te σ H Q
def SaysT (σ : L2.St) (H : Hp) (t : TT) (G : Prop) : Prop := ∀ Q : Bool → Hp → Prop, (∀ H' (b : Bool), Ex H H' → (b = true ↔ G) → Q b H') → t σ H Q
section
variable {σ : L2.St} {H : Hp} {ta tb : TE} {t u : TT} {A B : Prop} {D : Ends}
theorem Says.imp (h : Says σ H ta A) (e : A ↔ B) : Says σ H ta B := fun Q q => h Q fun H' b x hb => q H' b x (hb.trans e)
theorem SaysT.imp (h : SaysT σ H t A) (e : A ↔ B) : SaysT σ H t B := fun Q q => h Q fun H' b x hb => q H' b x (hb.trans e)
theorem tf {b : Bool} (h : b = true ↔ A) : (b = true ∧ A) ∨ (b = false ∧ ¬ A) := by
  cases b with
  | true => exact .inl ⟨rfl, h.mp rfl⟩
  | false => exact .inr ⟨rfl, fun a => by have := h.mpr a; cases this⟩
theorem t_iff (a : A) : true = true ↔ A := ⟨fun _ => a, fun _ => rfl⟩
theorem f_iff (a : ¬ A) : false = true ↔ A := ⟨fun z => (by cases z), fun z => absurd z a⟩
theorem Says.and (ha : Says σ H ta A) (hb : ∀ H', Ex H H' → A → Says σ H' tb B) : Says σ H (tAndV ta tb) (A ∧ B) := fun Q q => andv_of (ha _ fun H1 b x h => ⟨b, rfl, by
  rcases tf h with ⟨rfl, a⟩ | ⟨rfl, a⟩
  · rw [if_pos rfl]
    exact hb H1 x a Q fun H2 c y g => q H2 c (x.trans y) (g.trans ⟨fun z => ⟨a, z⟩, fun z => z.2⟩)
  · rw [if_neg Bool.false_ne_true]
    exact q H1 false x (f_iff fun z => a z.1)⟩)
theorem Says.or (ha : Says σ H ta A) (hb : ∀ H', Ex H H' → ¬ A → Says σ H' tb B) : Says σ H (tOrV ta tb) (A ∨ B) := fun Q q => orv_of (ha _ fun H1 b x h => ⟨b, rfl, by
  rcases tf h with ⟨rfl, a⟩ | ⟨rfl, a⟩
  · rw [if_pos rfl]
    exact q H1 true x (t_iff (.inl a))
  · rw [if_neg Bool.false_ne_true]
    exact hb H1 x a Q fun H2 c y g => q H2 c (x.trans y) (g.trans ⟨.inr, fun z => z.resolve_left a⟩)⟩)
theorem SaysT.and (ha : SaysT σ H t A) (hb : ∀ H', Ex H H' → A → SaysT σ H' u B) : SaysT σ H (tAnd t u) (A ∧ B) := fun Q q => and_of (ha _ fun H1 b x h => by
  rcases tf h with ⟨rfl, a⟩ | ⟨rfl, a⟩
  · rw [if_pos rfl]
    exact hb H1 x a Q fun H2 c y g => q H2 c (x.trans y) (g.trans ⟨fun z => ⟨a, z⟩, fun z => z.2⟩)
  · rw [if_neg Bool.false_ne_true]
    exact q H1 false x (f_iff fun z => a z.1))
theorem SaysT.or (ha : SaysT σ H t A) (hb : ∀ H', Ex H H' → ¬ A → SaysT σ H' u B) : SaysT σ H (tOr t u) (A ∨ B) := fun Q q => or_of (ha _ fun H1 b x h => by
  rcases tf h with ⟨rfl, a⟩ | ⟨rfl, a⟩
  · rw [if_pos rfl]
    exact q H1 true x (t_iff (.inl a))
  · rw [if_neg Bool.false_ne_true]
    exact hb H1 x a Q fun H2 c y g => q H2 c (x.trans y) (g.trans ⟨.inr, fun z => z.resolve_left a⟩))
theorem SaysT.not (ha : SaysT σ H t A) : SaysT σ H (tNot t) (¬ A) := fun Q q => not_of (ha _ fun H1 b x h => q H1 _ x (by
  rcases tf h with ⟨rfl, a⟩ | ⟨rfl, a⟩
  · exact f_iff fun z => z a
  · exact t_iff a))
theorem Says.test (ha : Says σ H ta A) : SaysT σ H (tTest ta) A := fun Q q => test_of (ha _ fun H1 b x h => ⟨b, rfl, q H1 b x h⟩)
theorem Says.val (ha : Says σ H ta A) : SaysT σ H (tB ta) A := ha.test
theorem SaysT.ifS {ts tz : TS} (h : SaysT σ H t A) (y : ∀ H', Ex H H' → A → ts D σ H') (n : ∀ H', Ex H H' → ¬ A → tz D σ H') : tIfS t ts tz D σ H := ifS_of (h _ fun H1 b x g => by
  rcases tf g with ⟨rfl, a⟩ | ⟨rfl, a⟩
  · rw [if_pos rfl]
    exact y H1 x a
  · rw [if_neg Bool.false_ne_true]
    exact n H1 x a)
theorem Says.ret (h : Says σ H ta A) (q : ∀ H' (b : Bool), Ex H H' → (b = true ↔ A) → D.rt (.bl b) H') : tRet ta D σ H := ret_of (h _ q)
theorem says_true (a : A) : Says σ H (tC (.bl true)) A := fun Q q => k_of (q H true (Ex.refl H) (t_iff a))
theorem says_false (a : ¬ A) : Says σ H (tC (.bl false)) A := fun Q q => k_of (q H false (Ex.refl H) (f_iff a))
theorem b_iff {p : Prop} [Decidable p] : decide p = true ↔ p := decide_eq_true_iff
theorem nb_iff {p : Prop} [Decidable p] : (!decide p) = true ↔ ¬ p := by rw [Bool.not_eq_true', decide_eq_false_iff_not]
end
end Kn
/-! data of tuples that are known -/
namespace Sn
open PySem PySem.Spec PyProof.Rows L2
mutual
inductive Tk (K : PySem.W.Frag) (H : Hp) : V → PyData → Prop
  | non : Tk K H .non .none
  | int (i : Int) : Tk K H (.int i) (.int i)
  | str (x : Str) : Tk K H (.str x) (.str x)
  | tup {a : Addr} {xs : List V} {ds : List PyData} : H a = some (.tup xs) → TkAll K H xs ds → Tk K H (.ref a) (.tuple ds)
inductive TkAll (K : PySem.W.Frag) (H : Hp) : List V → List PyData → Prop
  | nil : TkAll K H [] []
  | cons {v : V} {vs : List V} {d : PyData} {ds : List PyData} : Tk K H v d → TkAll K H vs ds → TkAll K H (v :: vs) (d :: ds)
end
section
variable {K : PySem.W.Frag} {H H' : Hp} {x : V} {xs ys : List V} {d : PyData} {ds es : List PyData}
/-- what H' keeps of the tuples that are known -/
def KeepK (K : PySem.W.Frag) (H H' : Hp) : Prop := ∀ a xs, H a = some (HO.tup xs) → H' a = some (HO.tup xs)
theorem KeepK.of (e : ∀ a o, H a = some o → H' a = some o) : KeepK K H H' := fun a xs h => e a _ h
theorem KeepK.off {p : Addr} {u : HO} (hp : H p = some u) (hu : (∀ xs, u ≠ .tup xs) ∧ ∀ o v, u ≠ .frz o v) (e : ∀ a o, a ≠ p → H a = some o → H' a = some o) : KeepK K H H' := fun a xs h => e a _ (fun q => by
  rw [q, hp] at h
  exact hu.1 _ (Option.some.inj h)) h
theorem KeepK.lst {p : Addr} {zs : List V} (hp : H p = some (.lst zs)) (e : ∀ a o, a ≠ p → H a = some o → H' a = some o) : KeepK K H H' := .off hp ⟨(fun _ z => nomatch z), (fun _ _ z => nomatch z)⟩ e
mutual
theorem Tk.keep (k : KeepK K H H') : ∀ {x : V} {d : PyData}, Tk K H x d → Tk K H' x d
  | _, _, .non => .non
  | _, _, .int i => .int i
  | _, _, .str x => .str x
  | _, _, .tup h a => .tup (k _ _ h) (TkAll.keep k a)
theorem TkAll.keep (k : KeepK K H H') : ∀ {xs : List V} {ds : List PyData}, TkAll K H xs ds → TkAll K H' xs ds
  | _, _, .nil => .nil
  | _, _, .cons h a => .cons (Tk.keep k h) (TkAll.keep k a)
end
theorem Tk.ex (e : ∀ a o, H a = some o → H' a = some o) (h : Tk K H x d) : Tk K H' x d := h.keep (.of e)
theorem TkAll.ex (e : ∀ a o, H a = some o → H' a = some o) (h : TkAll K H xs ds) : TkAll K H' xs ds := h.keep (.of e)
theorem TkAll.len : ∀ {xs : List V} {ds : List PyData}, TkAll K H xs ds → xs.length = ds.length
  | _, _, .nil => rfl
  | _, _, .cons _ a => by rw [List.length_cons, List.length_cons, TkAll.len a]
theorem TkAll.snoc : ∀ {xs : List V} {ds : List PyData} {x : V} {d : PyData}, TkAll K H xs ds → Tk K H x d → TkAll K H (xs ++ [x]) (ds ++ [d])
  | _, _, _, _, .nil, h => .cons h .nil
  | _, _, _, _, .cons a b, h => .cons a (b.snoc h)
theorem TkAll.app : ∀ {xs ys : List V} {ds es : List PyData}, TkAll K H xs ds → TkAll K H ys es → TkAll K H (xs ++ ys) (ds ++ es)
  | _, _, _, _, .nil, h => h
  | _, _, _, _, .cons a b, h => .cons a (b.app h)
theorem TkAll.get : ∀ {xs : List V} {ds : List PyData} {i : Nat} {x : V}, TkAll K H xs ds → xs[i]? = some x → ∃ d, ds[i]? = some d ∧ Tk K H x d
  | _, _, _, _, .nil, h => by simp at h
  | _, _, 0, _, .cons a _, h => ⟨_, rfl, by
    have e := Option.some.inj h
    rw [← e]
    exact a⟩
  | _, _, i + 1, _, .cons _ b, h => by
    obtain ⟨d, h1, h2⟩ := TkAll.get (i := i) b (by simpa using h)
    exact ⟨d, by simpa using h1, h2⟩
theorem TkAll.at : ∀ {xs : List V} {ds : List PyData} {i : Nat} {d : PyData}, TkAll K H xs ds → ds[i]? = some d → ∃ x, xs[i]? = some x ∧ Tk K H x d
  | _, _, _, _, .nil, h => by simp at h
  | _, _, 0, _, .cons a _, h => ⟨_, rfl, by
    have e := Option.some.inj h
    rw [← e]
    exact a⟩
  | _, _, i + 1, _, .cons _ b, h => by
    obtain ⟨d, h1, h2⟩ := TkAll.at (i := i) b (by simpa using h)
    exact ⟨d, by simpa using h1, h2⟩
end
mutual
theorem Tk.av {K : PySem.W.Frag} {H : Hp} {p : Addr} {zs : List V} (hp : H p = some (.lst zs)) : ∀ {x : V} {e : PyData}, Tk K H x e → Av K (· = p) H x e
  | _, _, .non => .non
  | _, _, .int i => .int i
  | _, _, .str x => .str x
  | _, _, .tup h a => .tup (fun z => by rw [show _ = p from z, hp] at h; cases h) h (TkAll.av hp a)
theorem TkAll.av {K : PySem.W.Frag} {H : Hp} {p : Addr} {zs : List V} (hp : H p = some (.lst zs)) : ∀ {xs : List V} {es : List PyData}, TkAll K H xs es → AvAll K (· = p) H xs es
  | _, _, .nil => .nil
  | _, _, .cons h a => .cons (Tk.av hp h) (TkAll.av hp a)
end
end Sn
namespace Sn
open PySem PySem.Spec PyProof.Rows L2 Evl Gd
/-- a top row of the program -/
def topS (i : Nat) : Stmt := PySem.Challenge.pw_crossheaps_k59_snapshots_of_any_value.main.body.getD i (.Pass ⟨0, 0, 0, 0⟩)
abbrev sSource : Stmt := topS 22
abbrev sTake : Stmt := topS 23
abbrev sOf : Stmt := topS 24
abbrev nSource : List Str := ["_law_script", "_law_k", "_law_cell", "_law_own"]
abbrev nTake : List Str := ["_law_jar_here", "_law_many", "_law_digit", "_law_prime", "_law_mixed"]
abbrev nOf : List Str := ["_law_jar_here", "_law_some"]
theorem scSource : FnScope nSource ["_law_script", "_law_k"] (defScope sSource) := ⟨rfl, rfl, rfl, by decide +kernel, rfl, by decide +kernel, by decide +kernel⟩
theorem scTake : FnScope nTake ["_law_jar_here", "_law_many"] (defScope sTake) := ⟨rfl, rfl, rfl, by decide +kernel, rfl, by decide +kernel, by decide +kernel⟩
theorem scOf : FnScope nOf ["_law_jar_here", "_law_some"] (defScope sOf) := ⟨rfl, rfl, rfl, by decide +kernel, rfl, by decide +kernel, by decide +kernel⟩
def CPowW (i j : Int) : Prop := 0 ≤ j ∧ (Builtin.Int.intBits i : Int) * j ≤ bitsLine
theorem op_powW {X : Cx} : OpR X (binaryOp .Pow) (rI CPowW fun i j => .int (i ^ j.toNat)) := opI fun _ _ _ _ _ _ _ hc q => pow_int hc.1 hc.2 q
def big : Int := 1000000000000000000000000000000000000000000000000000000000000 ^ 4
/-- the pot of draws: at most n draws so far -/
def Pot (H : Hp) (d : Addr) (n : Int) : Prop := ∃ g b m : Int, H d = some (.lst [.int g, .int b, .int m]) ∧ 0 ≤ g ∧ g < big ∧ 0 ≤ b ∧ b < 2305843009213693952 ∧ 0 ≤ m ∧ m ≤ n
theorem Pot.up {H : Hp} {d : Addr} {n k : Int} (h : Pot H d n) (e : n ≤ k) : Pot H d k := by
  obtain ⟨g, b, m, h0, h1, h2, h3, h4, h5, h6⟩ := h
  exact ⟨g, b, m, h0, h1, h2, h3, h4, h5, by omega⟩
theorem Pot.ex {H H' : Hp} {d : Addr} {n : Int} (e : Evl.Ex H H') (h : Pot H d n) : Pot H' d n := by
  obtain ⟨g, b, m, h0, h⟩ := h
  exact ⟨g, b, m, e d _ h0, h⟩
/-- all but the pot stays -/
def Off (d : Addr) (H H' : Hp) : Prop := ∀ a o, a ≠ d → H a = some o → H' a = some o
theorem Off.refl (d : Addr) (H : Hp) : Off d H H := fun _ _ _ h => h
theorem Off.of {d : Addr} {H H' : Hp} (e : Evl.Ex H H') : Off d H H' := fun a o _ h => e a o h
theorem Off.trans {d : Addr} {H H1 H2 : Hp} (a : Off d H H1) (b : Off d H1 H2) : Off d H H2 := fun x o n h => b x o n (a x o n h)
theorem Off.upd {d : Addr} {H H' : Hp} {o : HO} (e : Off d H H') : Off d H (upd H' d o) := fun a u n h => by
  rw [upd_ne n]
  exact e a u n h
def spSource (K : PySem.W.Frag) : Sp := fun vs H Q _ => ∃ (a : Addr) (ns : List Int) (k : Int), vs = [.ref a, .int k] ∧ SqL K H a (ns.map V.int) ∧ ns.length ≤ 63 ∧ 0 ≤ k ∧ k ≤ 2 ∧
  ∀ H' d, Evl.Ex H H' → H d = none → Pot H' d 0 → Q (.ref d) H'
def spTake : Sp := fun vs H Q _ => ∃ (d : Addr) (n many : Int), vs = [.ref d, .int many] ∧ Pot H d n ∧ n ≤ 1000000 ∧ 0 < many ∧ many ≤ 1000000000000 ∧
  ∀ H' r, Off d H H' → Pot H' d (n + 1) → 0 ≤ r → r < many → Q (.int r) H'
section
variable {P : Program} {w : World} {K : PySem.W.Frag} {mg : Str → Option Value} {base : Heap}
theorem ok_source {f : Addr} {fd : FuncData} (F : Fun K "_law_jar" "_law_jar" sSource f fd) (mL : mg "len" = none) (mA : mg "abs" = none) (mI : mg "int" = none) : FnOk P w K mg base CX0 1 f fd ["_law_script", "_law_k"] (spSource K) := by
  refine F.ok scSource (fun vs H Q E h => ?_) (fun cdv A outer s H vs Q E hr h => ?_)
  · obtain ⟨a, ns, k, rfl, _⟩ := h
    rfl
  · obtain ⟨a, ns, k, rfl, hS, hz, h0, h2, q⟩ := h
    refine ⟨_, pss_cons (ps_set (i := 2) scSource.nd rfl (.inl rfl) (pe_ifExp (pt_cmpR op_lt (pv 1) (pe_callB call_len_seq (by rfl) mL PySem.boot_len (pa_cons (pv 0) pa_nil)) (nomark _)) (pe_ix ix_list (pv 0) (pv 1) (fun _ _ => rfl)) (pe_op op_add (pe_op op_mul pe_int (pv 1)) pe_int)))
      (pss_cons (ps_set (i := 3) scSource.nd rfl (.inl rfl) (pe_op op_mul (pe_op op_mod (pe_callB call_abs (by rfl) mA (by decide +kernel) (pa_cons (pv 2) pa_nil)) (pe_op op_powW (pe_op op_pow pe_int pe_int) pe_int))
          (pe_callTy call_int1 (by rfl) mI (by decide +kernel) (pa_cons (pe_cmpR op_ge (pe_callB call_abs (by rfl) mA (by decide +kernel) (pa_cons (pv 2) pa_nil)) (pe_op op_pow pe_int pe_int) (nomark _)) pa_nil))))
      (pss_one (ps_ret (pe_lst (pa_cons (pv 3) (pa_cons (pe_op op_mod (pe_op op_add (pe_op op_add (pe_op op_mul (pe_op op_mod (pv 2) pe_int) pe_int) (pe_op op_mul (pe_op op_mul pe_int (pv 1)) (pv 1))) pe_int) pe_int) (pa_cons pe_int pa_nil))))))), ?_⟩
    let c : Int := if h : k.toNat < ns.length then ns[k.toNat] else 43 * k + 16
    refine s_asg (i := 2) (v := .int c) (ev_if (et_test (ev_op (ev_var rfl) (ev_len (ev_var rfl) hS) rv_I0)) (fun hb => ?_) (fun hb => ?_)) fun H1 e1 => ?_
    · have hk : k < ((ns.map V.int).length : Int) := of_decide_eq_true hb
      rw [List.length_map] at hk
      have hk2 : k.toNat < ns.length := by omega
      refine ev_op (ev_var rfl) (ev_var rfl) (rv_ixL hS ?_)
      have e0 : k = ((k.toNat : Nat) : Int) := by omega
      rw [e0]
      refine atI_nat ?_
      rw [List.getElem?_map, List.getElem?_eq_getElem hk2]
      show some (V.int _) = some (V.int c)
      rw [show c = ns[k.toNat] from dif_pos hk2]
    · have hk : ¬ k < ((ns.map V.int).length : Int) := of_decide_eq_false hb
      rw [List.length_map] at hk
      rw [show c = 43 * k + 16 from dif_neg (by omega)]
      exact ev_op (ev_op ev_c (ev_var rfl) (rv_I (.inl ⟨by decide, by decide⟩))) ev_c rv_I0
    clear_value c
    have evAbs : ∀ H2 : Hp, Ev (tCB (fun xs H Q => ∃ i, xs = [V.int i] ∧ Q (.int (if i < 0 then -i else i)) H) (tCons (tVar 2) tNil)) ((L2.start nSource [V.ref a, V.int k]).set 2 (some (.int c))) H2 (.int (if c < 0 then -c else c)) :=
      fun H2 => ev_cb (ea_cons (ev_var rfl) ea_nil) fun H3 _ Q q => ⟨c, rfl, q H3 (Ex.refl H3)⟩
    let g : Int := (if c < 0 then -c else c) % big * (if decide ((10 : Int) ^ (18 : Int).toNat ≤ (if c < 0 then -c else c)) = true then 1 else 0)
    have hbig : (0 : Int) < big := by decide +kernel
    have hg : 0 ≤ g ∧ g < big := by
      have h1 := Int.emod_nonneg (if c < 0 then -c else c) (b := big) (by omega)
      have h2 := Int.emod_lt_of_pos (if c < 0 then -c else c) hbig
      show 0 ≤ _ * _ ∧ _ * _ < big
      generalize decide ((10 : Int) ^ (18 : Int).toNat ≤ (if c < 0 then -c else c)) = z
      cases z
      · rw [if_neg Bool.false_ne_true, Int.mul_zero]
        omega
      · rw [if_pos rfl, Int.mul_one]
        exact ⟨h1, h2⟩
    dsimp only
    refine st_seq (s_asg (i := 3) (v := .int g) (ev_op (ev_op (evAbs H1) (ev_op (ev_op ev_c ev_c (rv_I ⟨by decide, by decide, by decide⟩)) ev_c (rv_I ⟨by decide +kernel, by decide +kernel⟩)) (rv_I (by decide +kernel))) (ev_cb (ea_cons (ev_op (evAbs H1) (ev_op ev_c ev_c (rv_I ⟨by decide, by decide, by decide⟩)) rv_I0) ea_nil) fun H3 _ Q q => .inr ⟨_, rfl, q H3 (Ex.refl H3)⟩) (rv_I (.inr ?_))) fun H2 e2 => ?_)
    · generalize decide ((10 : Int) ^ (18 : Int).toNat ≤ (if c < 0 then -c else c)) = z
      cases z <;> decide
    clear_value g
    dsimp only
    let b : Int := (c % 2305843009213693951 * 59359 + 6703 * k * k + 67) % 2305843009213693921
    have hb1 := Int.emod_nonneg (c % 2305843009213693951 * 59359 + 6703 * k * k + 67) (b := 2305843009213693921) (by decide)
    have hb2 := Int.emod_lt_of_pos (c % 2305843009213693951 * 59359 + 6703 * k * k + 67) (b := 2305843009213693921) (by decide)
    refine s_retL (xs := [.int g, .int b, .int 0]) (el_lst (ea_cons (ev_var rfl) (ea_cons (ev_op (ev_op (ev_op (ev_op (ev_op (ev_var rfl) ev_c (rv_I (by decide))) ev_c (rv_I (.inr ⟨by decide, by decide⟩))) (ev_op (ev_op ev_c (ev_var rfl) (rv_I (.inl ⟨by decide, by decide⟩))) (ev_var rfl) (rv_I (.inr ⟨by omega, by omega⟩))) rv_I0) ev_c rv_I0) ev_c (rv_I (by decide))) (ea_cons ev_c ea_nil))) (by show 3 ≤ 100000; decide)) fun p H3 hp e3 h3 => ?_
    exact q H3 p ((e1.trans e2).trans e3) (fresh_back (e1.trans e2) hp) ⟨g, b, 0, h3, hg.1, hg.2, hb1, by omega, Int.le_refl 0, Int.le_refl 0⟩
theorem ok_take {f : Addr} {fd : FuncData} (F : Fun K "_law_take" "_law_take" sTake f fd) : FnOk P w K mg base CX0 1 f fd ["_law_jar_here", "_law_many"] spTake := by
  refine F.ok scTake (fun vs H Q E h => ?_) (fun cdv A outer s H vs Q E hr h => ?_)
  · obtain ⟨a, n, k, rfl, _⟩ := h
    rfl
  · obtain ⟨d, n, many, rfl, hP, hn, h0, h1, q⟩ := h
    refine ⟨_, pss_cons (ps_if (pt_cmpR op_gt (pe_ix ix_list (pv 0) pe_int (fun _ _ => rfl)) pe_int (nomark _))
        (pss_cons (ps_set (i := 2) scTake.nd rfl (.inl rfl) (pe_op op_mod (pe_ix ix_list (pv 0) pe_int (fun _ _ => rfl)) (pv 1)))
        (pss_cons (ps_asg (pe_op op_fdivW (pe_ix ix_list (pv 0) pe_int (fun _ _ => rfl)) (pv 1)) (pg_sub (pv 0) pe_int set_list))
        (pss_one (ps_ret (pv 2))))) pss_nil)
      (pss_cons (ps_asg (pe_op op_add (pe_ix ix_list (pv 0) pe_int (fun _ _ => rfl)) pe_int) (pg_sub (pv 0) pe_int set_list))
      (pss_cons (ps_set (i := 3) scTake.nd rfl (.inl rfl) (pe_ix ix_list (pe_lst (pa_cons pe_int (pa_cons pe_int (pa_cons pe_int (pa_cons pe_int (pa_cons pe_int pa_nil)))))) (pe_op op_mod (pe_ix ix_list (pv 0) pe_int (fun _ _ => rfl)) pe_int) (fun _ _ => rfl)))
      (pss_cons (ps_set (i := 4) scTake.nd rfl (.inl rfl) (pe_op op_mod (pe_op op_pow (pe_op op_add (pe_op op_add (pe_ix ix_list (pv 0) pe_int (fun _ _ => rfl)) (pe_op op_mul (pe_op op_mul pe_int (pe_ix ix_list (pv 0) pe_int (fun _ _ => rfl))) (pe_ix ix_list (pv 0) pe_int (fun _ _ => rfl)))) pe_int) pe_int) (pv 3)))
      (pss_one (ps_ret (pe_op op_mod (pe_op op_fdiv (pe_op op_mod (pe_op op_mul (pv 4) (pe_op op_add (pe_op op_mod (pv 4) pe_int) (pe_op op_mul pe_int (pe_ix ix_list (pv 0) pe_int (fun _ _ => rfl))))) pe_int) pe_int) (pv 1))))))), ?_⟩
    obtain ⟨g, b, m, hd, hg0, hg1, hb0, hb1, hm0, hm1⟩ := hP
    have at0 : ∀ x y z : Int, atI [V.int x, .int y, .int z] 0 = some (.int x) := fun x y z => atI_nat (j := 0) rfl
    have at1 : ∀ x y z : Int, atI [V.int x, .int y, .int z] 1 = some (.int y) := fun x y z => atI_nat (j := 1) rfl
    have at2 : ∀ x y z : Int, atI [V.int x, .int y, .int z] 2 = some (.int z) := fun x y z => atI_nat (j := 2) rfl
    refine s_if (b := decide (0 < g)) (et_test (ev_op (ev_op (ev_var rfl) ev_c (rv_ixL (sq_of hd) (at0 _ _ _))) ev_c rv_I0)) (fun hb H1 e1 => ?_) (fun hb H1 e1 => ?_)
    · have hg : 0 < g := of_decide_eq_true hb
      have d1 := e1 d _ hd
      refine st_seq (s_asg (i := 2) (v := .int (g % many)) (ev_op (ev_op (ev_var rfl) ev_c (rv_ixL (sq_of d1) (at0 _ _ _))) (ev_var rfl) (rv_I h0)) fun H2 e2 => ?_)
      have d2 := e2 d _ d1
      dsimp only
      have wd : CDivW g many := wide_div h0 (b := 64) (by omega) (by decide) (by decide)
      refine st_seq (s_setL (j := 0) d2 (ev_op (ev_op (ev_var rfl) ev_c (rv_ixL (sq_of d2) (at0 _ _ _))) (ev_var rfl) (rv_I wd)) (ev_var rfl) ev_c (show 0 < 3 by decide) fun H3 e3 => ?_)
      dsimp only
      refine s_ret (v := .int (g % many)) (ev_var rfl) fun H4 e4 => ?_
      have h5 : Off d H H3 := Off.of ((e1.trans e2).trans e3)
      have nn := Int.ediv_nonneg hg0 (show 0 ≤ many by omega)
      have le : g / many ≤ g := Int.ediv_le_self many hg0
      refine q H4 _ ((h5.upd).trans (Off.of e4)) ⟨g / many, b, m, e4 d _ upd_same, nn, by omega, hb0, hb1, hm0, by omega⟩ (Int.emod_nonneg _ (by omega)) (Int.emod_lt_of_pos _ h0)
    · have d1 := e1 d _ hd
      dsimp only [tNext]
      refine st_seq (s_setL (j := 2) d1 (ev_op (ev_op (ev_var rfl) ev_c (rv_ixL (sq_of d1) (at2 _ _ _))) ev_c rv_I0) (ev_var rfl) ev_c (show 2 < 3 by decide) fun H3 e3 => ?_)
      dsimp only
      have d3 : (upd H3 d (.lst ([V.int g, .int b, .int m].set 2 (.int (m + 1))))) d = some (.lst [V.int g, .int b, .int (m + 1)]) := upd_same
      have o3 : Off d H (upd H3 d (.lst ([V.int g, .int b, .int m].set 2 (.int (m + 1))))) := (Off.of (e1.trans e3)).upd
      generalize upd H3 d (.lst ([V.int g, .int b, .int m].set 2 (.int (m + 1)))) = H3' at d3 o3 ⊢
      have m0 : (0 : Int) ≤ m + 1 := by omega
      have hn4 : ∃ p : Int, atI [V.int 2147483647, .int 2147483629, .int 2147483587, .int 2147483579, .int 2147483563] ((m + 1) % 5) = some (.int p) ∧ 0 < p ∧ p < 2147483648 := by
        have l1 := Int.emod_nonneg (m + 1) (show (5 : Int) ≠ 0 by decide)
        have l2 := Int.emod_lt_of_pos (m + 1) (show (0 : Int) < 5 by decide)
        have cs : (m + 1) % 5 = 0 ∨ (m + 1) % 5 = 1 ∨ (m + 1) % 5 = 2 ∨ (m + 1) % 5 = 3 ∨ (m + 1) % 5 = 4 := by omega
        rcases cs with e | e | e | e | e <;> rw [e]
        · exact ⟨_, atI_nat (j := 0) rfl, by decide, by decide⟩
        · exact ⟨_, atI_nat (j := 1) rfl, by decide, by decide⟩
        · exact ⟨_, atI_nat (j := 2) rfl, by decide, by decide⟩
        · exact ⟨_, atI_nat (j := 3) rfl, by decide, by decide⟩
        · exact ⟨_, atI_nat (j := 4) rfl, by decide, by decide⟩
      obtain ⟨p, hp, p0, p1⟩ := hn4
      refine st_seq (s_asg (i := 3) (v := .int p) ?_ fun H4 e4 => ?_)
      · intro Ha ea Qa ka
        refine el_lst (ea_cons ev_c (ea_cons ev_c (ea_cons ev_c (ea_cons ev_c (ea_cons ev_c ea_nil))))) (by show 5 ≤ 100000; decide) Ha (Ex.refl Ha) _ fun l Hb _ eb hl => ?_
        have db := (ea.trans eb) d _ d3
        exact ⟨_, rfl, d, _, _, _, rfl, rfl, sq_of db, at2 _ _ _, m + 1, 5, rfl, rfl, (show (0 : Int) < 5 by decide), l, _, _, _, rfl, rfl, sq_of hl, hp, ka Hb eb⟩
      have d4 := e4 d _ d3
      dsimp only
      refine st_seq (s_asg (i := 4) (v := .int ((b + 77017 * (m + 1) * (m + 1) + 53) ^ (3 : Int).toNat % p)) (ev_op (ev_op (ev_op (ev_op (ev_op (ev_var rfl) ev_c (rv_ixL (sq_of d4) (at1 _ _ _))) (ev_op (ev_op ev_c (ev_op (ev_var rfl) ev_c (rv_ixL (sq_of d4) (at2 _ _ _))) (rv_I (.inl ⟨by decide, by decide⟩))) (ev_op (ev_var rfl) ev_c (rv_ixL (sq_of d4) (at2 _ _ _))) (rv_I (.inr ⟨by omega, by omega⟩))) rv_I0) ev_c rv_I0) ev_c (rv_I ⟨by decide, by decide, ?_⟩)) (ev_var rfl) (rv_I p0)) fun H5 e5 => ?_)
      · have t1 : (m + 1) * (m + 1) ≤ 1000001 * 1000001 := Int.mul_le_mul (by omega) (by omega) m0 (by decide)
        have t0 : 0 ≤ (m + 1) * (m + 1) := Int.mul_nonneg m0 m0
        have t2 : 77017 * (m + 1) * (m + 1) = 77017 * ((m + 1) * (m + 1)) := Int.mul_assoc _ _ _
        rw [t2]
        generalize (m + 1) * (m + 1) = z at t0 t1 ⊢
        omega
      generalize hy : (b + 77017 * (m + 1) * (m + 1) + 53) ^ (3 : Int).toNat % p = y
      have y0 : 0 ≤ y := by rw [← hy]; exact Int.emod_nonneg _ (by omega)
      have y1 : y < p := by rw [← hy]; exact Int.emod_lt_of_pos _ p0
      have d5 := e5 d _ d4
      dsimp only
      refine s_ret (v := .int (y * (y % 10039 + 73 * (m + 1)) % 2305843009213693907 / 101 % many)) (ev_op (ev_op (ev_op (ev_op (ev_var rfl) (ev_op (ev_op (ev_var rfl) ev_c (rv_I (by decide))) (ev_op ev_c (ev_op (ev_var rfl) ev_c (rv_ixL (sq_of d5) (at2 _ _ _))) (rv_I (.inl ⟨by decide, by decide⟩))) rv_I0) (rv_I (.inl ⟨by omega, by omega⟩))) ev_c (rv_I (by decide))) ev_c (rv_I ⟨by decide, by decide⟩)) (ev_var rfl) (rv_I h0)) fun H7 e7 => ?_
      have e47 := (e4.trans e5).trans e7
      exact q H7 _ (o3.trans (Off.of e47)) ⟨g, b, m + 1, e47 d _ d3, hg0, hg1, hb0, hb1, m0, by omega⟩ (Int.emod_nonneg _ (by omega)) (Int.emod_lt_of_pos _ h0)
theorem Pot.ne {H : Hp} {d p : Addr} {n : Int} (h : Pot H d n) (hp : H p = none) : p ≠ d := fun e => by
  obtain ⟨g, b, m, h0, _⟩ := h
  rw [e, h0] at hp
  cases hp
theorem rd_take {σ : L2.St} {H : Hp} {E : XK} {td tm : TE} {d : Addr} {n many : Int} {Q : VK} (hd : Ev td σ H (.ref d)) (hm : Ev tm σ H (.int many)) (hP : Pot H d n) (h1 : n ≤ 1000000) (h2 : 0 < many) (h3 : many ≤ 1000000000000)
    (k : ∀ H' r, Off d H H' → Pot H' d (n + 1) → 0 ≤ r → r < many → Q (.int r) H') : tCall spTake [] E (tCons td (tCons tm tNil)) σ H Q := by
  refine hd H (Ex.refl H) _ fun H1 e1 => hm H1 e1 _ fun H2 e2 => ?_
  exact ⟨d, n, many, rfl, hP.ex (e1.trans e2), h1, h2, h3, fun H' r o p a b => k H' r ((Off.of (e1.trans e2)).trans o) p a b⟩
/-- one of a list's items -/
def spOf : Sp := fun vs H Q _ => ∃ (d l : Addr) (n : Int) (xs : List V), vs = [.ref d, .ref l] ∧ Pot H d n ∧ n ≤ 1000000 ∧ l ≠ d ∧ H l = some (.lst xs) ∧ 0 < xs.length ∧ xs.length ≤ 1000 ∧
  ∀ H' x, x ∈ xs → Off d H H' → Pot H' d (n + 1) → Q x H'
theorem ok_of {f fT : Addr} {fd fdT : FuncData} (F : Fun K "_law_of" "_law_of" sOf f fd) (FT : Fun K "_law_take" "_law_take" sTake fT fdT) (bT : Binds K fdT ["_law_jar_here", "_law_many"] []) (gT : mg "_law_take" = some (.ref fT)) (mL : mg "len" = none) :
    FnOk P w K mg base CX0 2 f fd ["_law_jar_here", "_law_some"] spOf := by
  have GT : FnOk P w K mg base CX0 1 fT fdT ["_law_jar_here", "_law_many"] spTake := ok_take FT
  refine F.ok scOf (fun vs H Q E h => ?_) (fun cdv A outer s H vs Q E hr h => ?_)
  · obtain ⟨d, l, n, xs, rfl, _⟩ := h
    rfl
  · obtain ⟨d, l, n, xs, rfl, hP, hn, ne, hl, z0, z1, q⟩ := h
    refine ⟨_, pss_one (ps_ret (pe_ix ix_list (pv 1) (pe_call GT hr (by rfl) gT FT.kp bT .nil pass0 (pa_cons (pv 0) (pa_cons (pe_callB call_len_seq (by rfl) mL PySem.boot_len (pa_cons (pv 1) pa_nil)) pa_nil))) (fun _ _ => rfl))), ?_⟩
    refine ⟨_, rfl, ?_⟩
    refine rd_take (ev_var rfl) (ev_len (ev_var rfl) (sq_of hl)) hP hn (by omega) (by omega) fun H1 r o p r0 r1 => ?_
    obtain ⟨j, rfl⟩ : ∃ j : Nat, r = j := ⟨r.toNat, by omega⟩
    have jn : j < xs.length := by omega
    exact ⟨l, xs, j, _, rfl, rfl, sq_of (o l _ ne hl), atI_nat (List.getElem?_eq_getElem jn), q H1 _ (List.getElem_mem jn) o p⟩
end
end Sn
/-! any word of ASCII signs: what is a name, a number, a value, a place, as the signs say -/
namespace Qw
open PySem PySem.Spec PyProof.Rows L2 Evl Gd
def low (c : Nat) : Bool := decide (97 ≤ c) && decide (c ≤ 122)
def upp (c : Nat) : Bool := decide (65 ≤ c) && decide (c ≤ 90)
def dig (c : Nat) : Bool := decide (48 ≤ c) && decide (c ≤ 57)
/-- its signs are ASCII -/
def Asc (l : List Nat) : Prop := ∀ c ∈ l, c < 128
theorem ascii_signs : ∀ c : Fin 128, Unicode.isAlpha c.val = (low c.val || upp c.val) ∧ Unicode.isLower c.val = low c.val ∧ Unicode.isUpper c.val = upp c.val ∧ Unicode.isTitle c.val = false ∧ Unicode.isDigit c.val = dig c.val := by decide +kernel
theorem sign {c : Nat} (h : c < 128) : Unicode.isAlpha c = (low c || upp c) ∧ Unicode.isLower c = low c ∧ Unicode.isUpper c = upp c ∧ Unicode.isTitle c = false ∧ Unicode.isDigit c = dig c := ascii_signs ⟨c, h⟩
theorem low_upp {c : Nat} (h : low c = true) : upp c = false := by
  unfold low at h
  rw [Bool.and_eq_true] at h
  have h1 := of_decide_eq_true h.1
  unfold upp
  rw [decide_eq_false (show ¬ c ≤ 90 by omega), Bool.and_false]
theorem Asc.tail {c : Nat} {l : List Nat} (h : Asc (c :: l)) : Asc l := fun d hd => h d (List.mem_cons_of_mem _ hd)
theorem all_sign {p q : Nat → Bool} : ∀ {l : List Nat}, Asc l → (∀ c, c < 128 → p c = q c) → l.all p = l.all q
  | [], _, _ => rfl
  | c :: l, h, e => by rw [List.all_cons, List.all_cons, e c (h c List.mem_cons_self), all_sign h.tail e]
theorem any_sign {p q : Nat → Bool} : ∀ {l : List Nat}, Asc l → (∀ c, c < 128 → p c = q c) → l.any p = l.any q
  | [], _, _ => rfl
  | c :: l, h, e => by rw [List.any_cons, List.any_cons, e c (h c List.mem_cons_self), any_sign h.tail e]
variable {w : Str}
theorem isascii_is (h : Asc (TL.tl w)) : Txt.isascii w = true := by
  unfold Txt.isascii
  rw [← Array.all_toList, List.all_eq_true]
  exact fun c hc => decide_eq_true (h c hc)
theorem isalpha_is (h : Asc (TL.tl w)) : Txt.isalpha w = (decide (TL.tl w ≠ []) && (TL.tl w).all fun c => low c || upp c) := by
  unfold Txt.isalpha
  rw [← Array.all_toList, all_sign (q := fun c => low c || upp c) h fun c hc => (sign hc).1]
  congr 1
  have := TL.len_tl w
  refine decide_eq_decide.mpr ⟨fun z e => ?_, fun z => ?_⟩
  · rw [e] at this
    have : w.length = 0 := this
    omega
  · have := List.length_pos_iff.mpr z
    omega
theorem isdigit_is (h : Asc (TL.tl w)) : Txt.isdigit w = (decide (TL.tl w ≠ []) && (TL.tl w).all dig) := by
  unfold Txt.isdigit
  rw [← Array.all_toList, all_sign (q := dig) h fun c hc => (sign hc).2.2.2.2]
  congr 1
  have := TL.len_tl w
  refine decide_eq_decide.mpr ⟨fun z e => ?_, fun z => ?_⟩
  · rw [e] at this
    have : w.length = 0 := this
    omega
  · have := List.length_pos_iff.mpr z
    omega
theorem islower_is (h : Asc (TL.tl w)) : Txt.islower w = ((TL.tl w).any low && !(TL.tl w).any upp) := by
  unfold Txt.islower
  rw [← Array.any_toList, ← Array.any_toList]
  have e1 : w.cps.toList.any Unicode.isLower = (TL.tl w).any low := any_sign h fun c hc => (sign hc).2.1
  have e2 : (w.cps.toList.any fun c => Unicode.isUpper c || Unicode.isTitle c) = (TL.tl w).any upp := any_sign h fun c hc => by
    show (Unicode.isUpper c || Unicode.isTitle c) = upp c
    rw [(sign hc).2.2.1, (sign hc).2.2.2.1, Bool.or_false]
  rw [e1, e2]
/-! ### names -/
/-- letters, the first of either size, the rest small -/
def nameL : List Nat → Bool
  | [] => false
  | c :: l => (low c || upp c) && l.all low
theorem steps_low : ∀ {l : List Nat}, Asc l → l.all (fun c => low c || upp c) = true → (l.foldl titleStep (some (true, true))).any (·.2) = l.all low
  | [], _, _ => rfl
  | c :: l, h, a => by
    rw [List.all_cons, Bool.and_eq_true] at a
    obtain ⟨s1, s2, s3, s4, s5⟩ := sign (h c List.mem_cons_self)
    rw [List.foldl_cons, List.all_cons]
    cases z : low c with
    | true =>
      have : titleStep (some (true, true)) c = some (true, true) := by
        unfold titleStep
        simp [s2, s3, s4, z, low_upp z]
      rw [this, steps_low h.tail a.2, Bool.true_and]
    | false =>
      have u : upp c = true := by
        rw [z, Bool.false_or] at a
        exact a.1
      have n : titleStep (some (true, true)) c = none := by
        unfold titleStep
        simp [s2, s3, s4, z, u]
      rw [n, Bool.false_and]
      have all : ∀ l : List Nat, l.foldl titleStep none = none := fun l => by
        induction l with
        | nil => rfl
        | cons c l ih => rw [List.foldl_cons]; exact ih
      rw [all]
      rfl
theorem istitle_is {c : Nat} {l : List Nat} (h : Asc (c :: l)) (a : (c :: l).all (fun c => low c || upp c) = true) (e : TL.tl w = c :: l) (u : upp c = true) : Txt.istitle w = l.all low := by
  unfold Txt.istitle
  rw [← Array.foldl_toList]
  have e' : w.cps.toList = c :: l := e
  rw [List.all_cons, Bool.and_eq_true] at a
  obtain ⟨s1, s2, s3, s4, s5⟩ := sign (h c List.mem_cons_self)
  rw [e', List.foldl_cons]
  have : titleStep (some (false, false)) c = some (true, true) := by
    unfold titleStep
    simp [s2, s3, s4, u]
  rw [this, steps_low h.tail a.2]
theorem low_any {l : List Nat} (a : l.all (fun c => low c || upp c) = true) : (!l.any upp) = l.all low := by
  induction l with
  | nil => rfl
  | cons c l ih =>
    rw [List.all_cons, Bool.and_eq_true] at a
    rw [List.any_cons, List.all_cons, Bool.not_or, ih a.2]
    cases z : low c with
    | true => rw [low_upp z]; rfl
    | false =>
      have u : upp c = true := by
        have := a.1
        rw [z, Bool.false_or] at this
        exact this
      rw [u]
      rfl
/-- the program's look at a name: letters, ASCII, all small or a title -/
theorem name_is (h : Asc (TL.tl w)) : (Txt.isalpha w && (Txt.isascii w && (Txt.islower w || Txt.istitle w))) = nameL (TL.tl w) := by
  rw [isalpha_is h, isascii_is h, islower_is h, Bool.true_and]
  cases e : TL.tl w with
  | nil => rfl
  | cons c l =>
    rw [e] at h
    rw [decide_eq_true (List.cons_ne_nil c l), Bool.true_and]
    show _ = ((low c || upp c) && l.all low)
    cases a : (c :: l).all fun c => low c || upp c with
    | false =>
      rw [Bool.false_and]
      rw [List.all_cons] at a
      cases z : low c || upp c with
      | false => rfl
      | true =>
        rw [z, Bool.true_and] at a
        cases y : l.all low with
        | false => rfl
        | true =>
          have : l.all (fun c => low c || upp c) = true := List.all_eq_true.mpr fun d hd => by rw [List.all_eq_true.mp y d hd]; rfl
          rw [this] at a
          cases a
    | true =>
      rw [Bool.true_and, low_any a]
      have a' := a
      rw [List.all_cons, Bool.and_eq_true] at a'
      rw [a'.1, Bool.true_and]
      cases z : low c with
      | true =>
        rw [List.any_cons, z, Bool.true_or, Bool.true_and, List.all_cons, z, Bool.true_and]
        cases y : l.all low with
        | true => rfl
        | false =>
          rw [Bool.false_or]
          unfold Txt.istitle
          rw [← Array.foldl_toList]
          have e' : w.cps.toList = c :: l := e
          obtain ⟨s1, s2, s3, s4, s5⟩ := sign (h c List.mem_cons_self)
          rw [e', List.foldl_cons]
          have n : titleStep (some (false, false)) c = none := by
            unfold titleStep
            simp [s2, s3, s4, z, low_upp z]
          have all : ∀ l : List Nat, l.foldl titleStep none = none := fun l => by
            induction l with
            | nil => rfl
            | cons c l ih => rw [List.foldl_cons]; exact ih
          rw [n, all]
          rfl
      | false =>
        have u : upp c = true := by
          have := a'.1
          rw [z, Bool.false_or] at this
          exact this
        rw [istitle_is h a e u, List.all_cons, z, Bool.false_and, Bool.and_false, Bool.false_or]
/-! ### numbers -/
theorem dig_iff {c : Nat} : dig c = true ↔ 48 ≤ c ∧ c ≤ 57 := by
  unfold dig
  rw [Bool.and_eq_true, decide_eq_true_iff, decide_eq_true_iff]
theorem num_dig (n : Nat) : (TL.numL n).all dig = true := List.all_eq_true.mpr fun c hc => dig_iff.mpr (TL.numL_digits n c hc)
/-- signs of a number without idle zeros -/
theorem num_of : ∀ (k : Nat) {c : Nat} {l : List Nat}, l.length ≤ k → (c :: l).all dig = true → c ≠ 48 → ∃ n, (c :: l) = TL.numL n ∧ 0 < n := by
  intro k
  induction k with
  | zero =>
    intro c l hl a hc
    obtain rfl : l = [] := List.eq_nil_of_length_eq_zero (by omega)
    rw [List.all_cons, Bool.and_eq_true] at a
    have := dig_iff.mp a.1
    refine ⟨c - 48, ?_, by omega⟩
    rw [TL.numL_lt (by omega), show 48 + (c - 48) = c by omega]
  | succ k ih =>
    intro c l hl a hc
    rcases List.eq_nil_or_concat l with rfl | ⟨r, e, rfl⟩
    · rw [List.all_cons, Bool.and_eq_true] at a
      have := dig_iff.mp a.1
      refine ⟨c - 48, ?_, by omega⟩
      rw [TL.numL_lt (by omega), show 48 + (c - 48) = c by omega]
    · rw [List.concat_eq_append] at hl a ⊢
      rw [List.length_append, List.length_singleton] at hl
      rw [show c :: (r ++ [e]) = (c :: r) ++ [e] from rfl, List.all_append, Bool.and_eq_true] at a
      obtain ⟨n, hn, pos⟩ := ih (by omega) a.1 hc
      have he := dig_iff.mp (by
        have := a.2
        rw [List.all_cons, Bool.and_eq_true] at this
        exact this.1)
      refine ⟨10 * n + (e - 48), ?_, by omega⟩
      rw [TL.numL_step (by omega), show (10 * n + (e - 48)) / 10 = n by omega, show (10 * n + (e - 48)) % 10 = e - 48 by omega, ← hn, show 48 + (e - 48) = e by omega]
      rfl
/-- a number as it is written, m at most -/
def NumW (l : List Nat) (m : Nat) : Prop := ∃ n, n ≤ m ∧ l = TL.numL n
theorem num_zero : TL.numL 0 = [48] := TL.numL_lt (by decide)
theorem num_head {n : Nat} : ∃ c l, TL.numL n = c :: l ∧ (c = 48 → n = 0) := by
  induction n using Nat.strongRecOn with
  | _ n ih =>
    by_cases h : n < 10
    · exact ⟨48 + n, [], TL.numL_lt h, fun e => by omega⟩
    · obtain ⟨c, l, e, z⟩ := ih (n / 10) (by omega)
      refine ⟨c, l ++ [48 + n % 10], by rw [TL.numL_step (by omega), e]; rfl, fun hc => ?_⟩
      have := z hc
      omega
/-- written as a number, or no number at all -/
theorem canon {l : List Nat} (ne : l ≠ []) (a : l.all dig = true) : (l.head? ≠ some 48 ∨ l = [48]) ↔ ∃ n, l = TL.numL n := by
  constructor
  · rintro (h | rfl)
    · cases l with
      | nil => exact absurd rfl ne
      | cons c l =>
        obtain ⟨n, e, _⟩ := num_of l.length (Nat.le_refl _) a (fun z => h (by rw [z]; rfl))
        exact ⟨n, e⟩
    · exact ⟨0, num_zero.symm⟩
  · rintro ⟨n, rfl⟩
    obtain ⟨c, l, e, z⟩ := num_head (n := n)
    by_cases hc : c = 48
    · right
      rw [z hc, num_zero]
    · left
      rw [e]
      exact fun x => hc (Option.some.inj x)
theorem num_big {n k : Nat} (h : 10 ^ k ≤ n) : k < (TL.numL n).length := by
  induction k generalizing n with
  | zero => exact List.length_pos_iff.mpr (TL.numL_ne n)
  | succ k ih =>
    have h10 : 10 ≤ n := by
      have : 10 ^ 1 ≤ 10 ^ (k + 1) := Nat.pow_le_pow_right (by decide) (by omega)
      omega
    rw [TL.numL_step h10, List.length_append, List.length_singleton]
    have := ih (n := n / 10) (by
      rw [Nat.pow_succ] at h
      omega)
    omega
end Qw
/-! a dict of the top with text keys: any text is a key or none -/
namespace Gd
open PySem PySem.Spec PyProof.Rows L2
theorem keys_find {P : Params} {z : Str} : ∀ {l : List DictEntry} {ks : List Str}, l.map He.keyOf = He.keysIn P ks → (l.find? (·.key.isStr z)).isSome = decide (z ∈ ks) ∧ l.any (·.refKey) = false
  | [], [], _ => ⟨by simp, rfl⟩
  | [], k :: ks, h => by cases h
  | e :: r, [], h => by cases h
  | e :: r, k :: ks, h => by
    have h1 : He.keyOf e :: r.map He.keyOf = some (k, PyData.keyHash P k) :: He.keysIn P ks := h
    injection h1 with h2 h3
    obtain ⟨i1, i2⟩ := keys_find (z := z) h3
    unfold He.keyOf at h2
    split at h2
    · rename_i x t q
      have h4 := Option.some.inj h2
      obtain ⟨h5, h6⟩ := Prod.mk.inj h4
      subst h5
      refine ⟨?_, ?_⟩
      · by_cases c : x = z
        · subst c
          rw [List.find?_cons_of_pos (by rw [q]; show ((x == x) = true); exact beq_self_eq_true x)]
          simp
        · rw [List.find?_cons_of_neg (by rw [q]; show ¬ ((x == z) = true); exact fun y => c (eq_of_beq y)), i1]
          have : (z ∈ x :: ks) = (z ∈ ks) := by
            apply propext
            rw [List.mem_cons]
            exact ⟨fun y => y.resolve_left fun e => c e.symm, .inr⟩
          simp only [this]
      · rw [List.any_cons, i2, Bool.or_false]
        show DictEntry.refKey e = false
        unfold DictEntry.refKey
        rw [q]
    · cases h2
theorem dic_ns {K : PySem.W.Frag} {w : World} {a : Addr} {ks : List Str} (h : He.dicW K a = some (He.keysIn w.params ks)) (z : Str) : ∃ r, PySem.W.nsIn K a z = some r ∧ r.isSome = decide (z ∈ ks) := by
  unfold He.dicW at h
  unfold PySem.W.nsIn
  cases q : K.lookup a with
  | none =>
    rw [q] at h
    cases h
  | some o =>
    obtain ⟨oc, od, dt, osl⟩ := o
    rw [q] at h
    cases oc with
    | type c =>
      cases od with
      | none =>
        cases dt with
        | dict es n =>
          have h1 : (match decide (c = "dict") && (osl.isEmpty && !(a == sysModules)) with
            | true => some (es.toList.map He.keyOf)
            | false => none) = some (He.keysIn w.params ks) := h
          cases zz : decide (c = "dict") && (osl.isEmpty && !(a == sysModules)) with
          | false =>
            rw [zz] at h1
            cases h1
          | true =>
            rw [zz] at h1
            obtain ⟨f1, f2⟩ := keys_find (z := z) (Option.some.inj h1)
            show ∃ r, (match es.toList.find? (·.key.isStr z) with
              | some e => some (some e.val)
              | none => if es.toList.any (·.refKey) then none else some none) = some r ∧ r.isSome = decide (z ∈ ks)
            cases y : es.toList.find? (·.key.isStr z) with
            | some e =>
              rw [y] at f1
              exact ⟨_, rfl, f1⟩
            | none =>
              rw [y] at f1
              refine ⟨none, ?_, f1⟩
              show (if es.toList.any (·.refKey) = true then none else some none) = some none
              rw [f2, if_neg Bool.false_ne_true]
        | _ => cases h
      | some b => cases dt <;> cases h
    | _ => cases od <;> cases dt <;> cases h
end Gd
/-! the forms' words, any: is_name, is_local, whole_of, number_of -/
namespace Qw
open PySem PySem.Spec PyProof.Rows L2 Evl Gd Sn
abbrev sIsName : Stmt := topS 4
abbrev nIsName : List Str := ["word"]
abbrev nWhole : List Str := ["word", "digits"]
abbrev nNumber : List Str := ["word", "most", "number"]
abbrev nValue : List Str := ["word", "number"]
abbrev nSlot : List Str := ["word", "name", "_", "slot"]
theorem scIsName : FnScope nIsName ["word"] (defScope sIsName) := ⟨rfl, rfl, rfl, by decide +kernel, rfl, by decide +kernel, by decide +kernel⟩
theorem mt_istitle {X : Cx} : MtR X "str.istitle" (fun x xs H Q => ∃ a, x = .str a ∧ xs = [] ∧ True ∧ Q (.bl (Txt.istitle a)) H) := mt0 fun x _ s _ _ h => PySem.SC.istitle (h (PySem.Value.bool (PySem.Txt.istitle x)) s.toks rfl)
theorem m0_of {r : V → List V → Hp → VK → Prop} {to : TE} {σ : L2.St} {H : Hp} {Q : VK} (h : to σ H fun x H1 => (∃ a, x = V.str a) ∧ r x [] H1 Q) : tM0 r to σ H Q := h
theorem m1_of {r : V → List V → Hp → VK → Prop} {to te : TE} {σ : L2.St} {H : Hp} {Q : VK} (h : to σ H fun x H1 => (∃ a, x = V.str a) ∧ te σ H1 fun y H2 => r x [y] H2 Q) : tM1 r to te σ H Q := h
theorem orv_of {ta tb : TE} {σ : L2.St} {H : Hp} {Q : VK} (h : ta σ H fun x H1 => ∃ c, x = .bl c ∧ if c = true then Q (.bl true) H1 else tb σ H1 Q) : tOrV ta tb σ H Q := h
theorem slS_of {r : V → Option Int → Option Int → Hp → VK → Prop} {te tl : TE} {σ : L2.St} {H : Hp} {Q : VK} (h : te σ H fun x H1 => tl σ H1 fun y H2 => ∃ i, y = .int i ∧ r x (some i) none H2 Q) : tSl r te (tPart tl) tNoPart σ H Q := h
theorem un_of {r : V → Hp → VK → Prop} {ta : TE} {σ : L2.St} {H : Hp} {Q : VK} (h : ta σ H fun x H1 => r x H1 Q) : tUn r ta σ H Q := h
/-- a word: ASCII signs, not too many -/
structure Wd (w : Str) : Prop where
  asc : Asc (TL.tl w)
  few : w.length ≤ 99000
def takenL : List Str := ["none", "get", "at", "is", "then", "record", "weak", "map", "counted", "traced", "let", "drop", "hold", "release", "pin", "unpin", "say", "if", "else", "end", "repeat", "proc", "do", "minor", "rings", "begin", "slice", "compact", "finalize", "settle"]
/-- the tables and bounds of the forms that words are asked of -/
structure Tb (K : PySem.W.Frag) (w : World) (mg : Str → Option Value) (dT : Addr) : Prop where
  letters : ∃ t, mg "MOST_LETTERS" = some (.int 8 t)
  taken : mg "TAKEN" = some (.ref dT)
  tk : ∃ es n, KDict K w dT es n
  tn : ∀ z, ∃ r, PySem.W.nsIn K dT z = some r ∧ r.isSome = decide (z ∈ takenL)
def nameB (w : Str) : Bool := decide (w.length ≤ 8) && (!decide (w ∈ takenL) && nameL (TL.tl w))
def localB (w : Str) : Bool := nameB w && (TL.tl w).all low
def spIsName : Sp := fun vs H Q _ => ∃ w : Str, vs = [.str w] ∧ Wd w ∧ Q (.bl (nameB w)) H
def spIsLocal : Sp := fun vs H Q _ => ∃ w : Str, vs = [.str w] ∧ Wd w ∧ Q (.bl (localB w)) H
section
variable {P : Program} {w : World} {K : PySem.W.Frag} {mg : Str → Option Value} {base : Heap} {dT : Addr}
theorem ok_isname {f : Addr} {fd : FuncData} (F : Fun K "is_name" "is_name" sIsName f fd) (T : Tb K w mg dT) (mL : mg "len" = none) : FnOk P w K mg base CX0 1 f fd ["word"] spIsName := by
  obtain ⟨t8, g8⟩ := T.letters
  obtain ⟨es, n, kd⟩ := T.tk
  refine F.ok scIsName (fun vs H Q E h => ?_) (fun cdv A outer s H vs Q E hr h => ?_)
  · obtain ⟨w, rfl, _⟩ := h
    rfl
  · obtain ⟨w', rfl, wd, q⟩ := h
    have hu := hu_of hr
    have few := wd.few
    refine ⟨_, pss_cons (ps_if (pw_or (pt_cmpR op_gt (pe_callB call_len_str (by rfl) mL PySem.boot_len (pa_cons (pv 0) pa_nil)) (pe_glob (v := .int 8) (by rfl) g8 ⟨t8, rfl⟩) (nomark _)) (pw_or1 (pt_cmpR (op_in_kd kd) (pv 0) (pe_glob (v := .ref dT) (by rfl) T.taken rfl) (by rfl)))).pt (pss_one (ps_ret pe_bl)) pss_nil) <|
      pss_one (ps_ret (pe_and (pe_m0 PySem.F.slot_str_isalpha PySem.F.type_str_isalpha mt_isalpha (pv 0)) (pe_and (pe_m0 PySem.F.slot_str_isascii PySem.F.type_str_isascii mt_isascii (pv 0)) (pe_one (pe_or (pe_m0 PySem.F.slot_str_islower PySem.F.type_str_islower mt_islower (pv 0)) (pe_one (pe_m0 PySem.F.slot_str_istitle PySem.F.type_str_istitle mt_istitle (pv 0)))))))), ?_⟩
    obtain ⟨r, e1, e2⟩ := T.tn w'
    refine seq_of (ifS_of (or_of (test_of (op_of (cb_of (c_of (v_of rfl (n_of ⟨_, rfl, by rw [sizeLine_eq]; omega, k_of ⟨_, _, rfl, rfl, _, rfl, ?_⟩⟩))))))))
    by_cases l8 : w'.length ≤ 8
    · rw [decide_eq_false (by omega), if_neg Bool.false_ne_true]
      refine test_of (op_of (v_of rfl (k_of ⟨_, _, rfl, rfl, e1, _, rfl, ?_⟩)))
      rw [e2]
      by_cases tk : w' ∈ takenL
      · rw [if_pos (decide_eq_true tk)]
        refine ret_of (k_of ?_)
        unfold nameB at q
        rw [decide_eq_true tk, Bool.not_true, Bool.false_and, Bool.and_false] at q
        exact q
      · rw [if_neg (by rw [decide_eq_false tk]; exact Bool.false_ne_true)]
        unfold nameB at q
        rw [decide_eq_true l8, decide_eq_false tk, Bool.not_false, Bool.true_and, Bool.true_and, ← name_is wd.asc] at q
        dsimp only [tNext]
        refine ret_of (andv_of (m0_of (v_of rfl ⟨⟨_, rfl⟩, _, rfl, rfl, trivial, _, rfl, ?_⟩)))
        cases a2 : Txt.isalpha w' with
        | false =>
          rw [if_neg Bool.false_ne_true]
          rw [a2, Bool.false_and] at q
          exact q
        | true =>
          rw [if_pos rfl]
          rw [a2, Bool.true_and] at q
          refine andv_of (m0_of (v_of rfl ⟨⟨_, rfl⟩, _, rfl, rfl, trivial, _, rfl, ?_⟩))
          rw [isascii_is wd.asc, Bool.true_and] at q
          rw [isascii_is wd.asc, if_pos rfl]
          refine orv_of (m0_of (v_of rfl ⟨⟨_, rfl⟩, _, rfl, rfl, trivial, _, rfl, ?_⟩))
          cases c : Txt.islower w' with
          | true =>
            rw [if_pos rfl]
            rw [c, Bool.true_or] at q
            exact q
          | false =>
            rw [if_neg Bool.false_ne_true]
            rw [c, Bool.false_or] at q
            exact m0_of (v_of rfl ⟨⟨_, rfl⟩, _, rfl, rfl, trivial, q⟩)
    · rw [decide_eq_true (by omega), if_pos rfl]
      rw [if_pos rfl]
      refine ret_of (k_of ?_)
      unfold nameB at q
      rw [decide_eq_false l8, Bool.false_and] at q
      exact q
end
end Qw
/-! how large a value may grow that is bent a few times -/
namespace Sn
open PySem PySem.Spec PyProof.Rows L2 Gd
mutual
/-- ints below 10^30 + m, ASCII texts, no dict but {} -/
def fine (m : Nat) : PyData → Bool
  | .none | .bool _ => true
  | .int i => decide (i.natAbs ≤ 10 ^ 30 + m)
  | .str z => z.cps.toList.all (fun c => decide (c < 128))
  | .list xs | .tuple xs => fineAll m xs
  | .dict kvs => kvs.isEmpty
def fineAll (m : Nat) : List PyData → Bool
  | [] => true
  | x :: xs => fine m x && fineAll m xs
end
theorem fineAll_eq (m : Nat) : ∀ xs, fineAll m xs = xs.all (fine m)
  | [] => by rw [fineAll]; rfl
  | x :: xs => by rw [fineAll, fineAll_eq m xs, List.all_cons]
theorem fineAll_iff {m : Nat} {xs : List PyData} : fineAll m xs = true ↔ ∀ x ∈ xs, fine m x = true := by
  rw [fineAll_eq, List.all_eq_true]
mutual
theorem fine_mono {m m' : Nat} (h : m ≤ m') : ∀ e : PyData, fine m e = true → fine m' e = true
  | .none, _ => by rw [fine]
  | .bool _, _ => by rw [fine]
  | .int i, q => by
    rw [fine] at q ⊢
    exact decide_eq_true (Nat.le_trans (of_decide_eq_true q) (by omega))
  | .str z, q => by rw [fine] at q ⊢; exact q
  | .list xs, q => by rw [fine] at q ⊢; exact fineAll_mono h xs q
  | .tuple xs, q => by rw [fine] at q ⊢; exact fineAll_mono h xs q
  | .dict kvs, q => by rw [fine] at q ⊢; exact q
theorem fineAll_mono {m m' : Nat} (h : m ≤ m') : ∀ xs : List PyData, fineAll m xs = true → fineAll m' xs = true
  | [], _ => by rw [fineAll]
  | x :: xs, q => by
    rw [fineAll, Bool.and_eq_true] at q ⊢
    exact ⟨fine_mono h x q.1, fineAll_mono h xs q.2⟩
end
theorem log_small {n : Nat} (h : n ≤ 10 ^ 30 + 1000) : n.log2 < 1920 := by
  by_cases z : n = 0
  · rw [z]
    decide
  · refine (Nat.log2_lt z).mpr (Nat.lt_of_le_of_lt h ?_)
    calc 10 ^ 30 + 1000 < 2 ^ 101 := by decide
      _ ≤ 2 ^ 1920 := Nat.pow_le_pow_right (by decide) (by decide)
mutual
theorem fine_show {m : Nat} (h : m ≤ 1000) : ∀ e : PyData, fine m e = true → e.showable = true
  | .none, _ => by rw [PyData.showable]
  | .bool _, _ => by rw [PyData.showable]
  | .int i, q => by
    rw [fine] at q
    rw [PyData.showable]
    exact decide_eq_true (log_small (Nat.le_trans (of_decide_eq_true q) (by omega)))
  | .str z, q => by rw [PyData.showable]
  | .list xs, q => by
    rw [fine] at q
    rw [PyData.showable]
    exact fineAll_show h xs q
  | .tuple xs, q => by
    rw [fine] at q
    rw [PyData.showable]
    exact fineAll_show h xs q
  | .dict [], q => rfl
  | .dict (_ :: _), q => by
    rw [fine] at q
    cases q
theorem fineAll_show {m : Nat} (h : m ≤ 1000) : ∀ xs : List PyData, fineAll m xs = true → PyData.showableAll xs = true
  | [], _ => by rw [PyData.showableAll]
  | x :: xs, q => by
    rw [fineAll, Bool.and_eq_true] at q
    rw [PyData.showableAll, fine_show h x q.1, fineAll_show h xs q.2]
    rfl
end
/-- what a row of items takes, shown -/
def shsum : List PyData → Nat
  | [] => 0
  | x :: xs => x.shown.length + 2 + shsum xs
theorem shsum_app : ∀ a b : List PyData, shsum (a ++ b) = shsum a + shsum b
  | [], b => by rw [List.nil_append, shsum]; omega
  | x :: a, b => by
    rw [List.cons_append, shsum, shsum, shsum_app a b]
    omega
theorem shsum_take (n : Nat) (a : List PyData) : shsum (a.take n) ≤ shsum a := by
  have := shsum_app (a.take n) (a.drop n)
  rw [List.take_append_drop] at this
  omega
theorem shsum_drop (n : Nat) (a : List PyData) : shsum (a.drop n) ≤ shsum a := by
  have := shsum_app (a.take n) (a.drop n)
  rw [List.take_append_drop] at this
  omega
theorem shsum_rev : ∀ a : List PyData, shsum a.reverse = shsum a
  | [] => rfl
  | x :: a => by
    rw [List.reverse_cons, shsum_app, shsum_rev a, shsum, shsum, shsum]
    omega
theorem shsum_mem : ∀ {a : List PyData} {x : PyData}, x ∈ a → x.shown.length + 2 ≤ shsum a
  | [], _, h => absurd h List.not_mem_nil
  | y :: a, x, h => by
    rw [shsum]
    rcases List.mem_cons.mp h with rfl | h
    · omega
    · have := shsum_mem h
      omega
theorem join_len : ∀ xs : List PyData, xs ≠ [] → (Str.join ", " (PyData.shownAll xs)).length + 2 = shsum xs
  | [], h => absurd rfl h
  | [x], _ => by
    rw [PyData.shownAll_cons, PyData.shownAll_nil, shsum, shsum]
    rfl
  | x :: y :: r, _ => by
    have ih := join_len (y :: r) (by simp)
    rw [PyData.shownAll_cons, shsum, ← ih, PyData.shownAll_cons]
    show (x.shown ++ ", " ++ Str.join ", " (y.shown :: PyData.shownAll r)).length + 2 = _
    rw [Str.length_append, Str.length_append, show (", " : Str).length = 2 from by decide +kernel]
    omega
theorem tup_len (xs : List PyData) : (PyData.tuple xs).shown.length ≤ shsum xs + 2 ∧ shsum xs ≤ (PyData.tuple xs).shown.length := by
  rw [PyData.shown_tuple, Str.length_append, Str.length_append, show ("(" : Str).length = 1 from by decide +kernel]
  have tl : ((if (xs.length == 1) = true then (",)" : String) else ")" : String) : Str).length ≤ 2 ∧ 1 ≤ ((if (xs.length == 1) = true then (",)" : String) else ")" : String) : Str).length := by
    split <;> decide +kernel
  by_cases h : xs = []
  · subst h
    rw [PyData.shownAll_nil, shsum]
    have : (Str.join ", " []).length = 0 := by decide +kernel
    have : ((if (([] : List PyData).length == 1) = true then (",)" : String) else ")" : String) : Str).length = 1 := by
      show (Str.ofString ")").length = 1
      decide +kernel
    omega
  · have := join_len xs h
    omega
theorem lst_len (xs : List PyData) : (PyData.list xs).shown.length ≤ shsum xs + 2 := by
  rw [PyData.shown_list, Str.length_append, Str.length_append, show ("[" : Str).length = 1 from by decide +kernel, show ("]" : Str).length = 1 from by decide +kernel]
  by_cases h : xs = []
  · subst h
    rw [PyData.shownAll_nil, shsum]
    have : (Str.join ", " []).length = 0 := by decide +kernel
    omega
  · have := join_len xs h
    omega
structure Siz (m k L : Nat) (e : PyData) : Prop where
  f : fine m e = true
  d : e.depth ≤ k
  l : e.shown.length ≤ L
structure SizAll (m k : Nat) (xs : List PyData) : Prop where
  f : ∀ x ∈ xs, fine m x = true
  d : ∀ x ∈ xs, x.depth ≤ k
theorem depthAll_le {k : Nat} : ∀ {xs : List PyData}, (∀ x ∈ xs, x.depth ≤ k) → PyData.depthAll xs ≤ k
  | [], _ => by rw [PyData.depthAll]; exact Nat.zero_le _
  | x :: xs, h => by
    rw [PyData.depthAll]
    have := h x List.mem_cons_self
    have := depthAll_le fun y m => h y (List.mem_cons_of_mem _ m)
    omega
theorem Siz.up {m k L m' k' L' : Nat} {e : PyData} (h : Siz m k L e) (a : m ≤ m') (b : k ≤ k') (c : L ≤ L') : Siz m' k' L' e := ⟨fine_mono a e h.f, Nat.le_trans h.d b, Nat.le_trans h.l c⟩
theorem SizAll.tup {m k : Nat} {xs : List PyData} (h : SizAll m k xs) : Siz m (k + 1) (shsum xs + 2) (.tuple xs) := by
  refine ⟨?_, ?_, (tup_len xs).1⟩
  · rw [fine]
    exact fineAll_iff.mpr h.f
  · rw [PyData.depth]
    have := depthAll_le h.d
    omega
theorem SizAll.lst {m k : Nat} {xs : List PyData} (h : SizAll m k xs) : Siz m (k + 1) (shsum xs + 2) (.list xs) := by
  refine ⟨?_, ?_, lst_len xs⟩
  · rw [fine]
    exact fineAll_iff.mpr h.f
  · rw [PyData.depth]
    have := depthAll_le h.d
    omega
theorem depth_mem' : ∀ {ds : List PyData} {x : PyData}, x ∈ ds → x.depth ≤ PyData.depthAll ds
  | [], x, h => absurd h List.not_mem_nil
  | y :: ds, x, h => by
    rw [PyData.depthAll]
    rcases List.mem_cons.mp h with rfl | h
    · omega
    · have := depth_mem' h
      omega
theorem Siz.items {m k L : Nat} {xs : List PyData} (h : Siz m k L (.tuple xs)) : ∃ k', k = k' + 1 ∧ SizAll m k' xs ∧ shsum xs ≤ L := by
  have f := h.f
  rw [fine] at f
  have d := h.d
  rw [PyData.depth] at d
  refine ⟨k - 1, by omega, ⟨fun x hx => fineAll_iff.mp f x hx, fun x hx => ?_⟩, Nat.le_trans (tup_len xs).2 h.l⟩
  have := depth_mem' hx
  omega
theorem SizAll.sub {m k : Nat} {xs ys : List PyData} (h : SizAll m k xs) (s : ∀ y ∈ ys, y ∈ xs) : SizAll m k ys := ⟨fun y hy => h.f y (s y hy), fun y hy => h.d y (s y hy)⟩
theorem SizAll.app {m k : Nat} {xs ys : List PyData} (h : SizAll m k xs) (g : SizAll m k ys) : SizAll m k (xs ++ ys) := ⟨fun y hy => (List.mem_append.mp hy).elim (h.f y) (g.f y), fun y hy => (List.mem_append.mp hy).elim (h.d y) (g.d y)⟩
theorem SizAll.one {m k L : Nat} {x : PyData} (h : Siz m k L x) : SizAll m k [x] := ⟨fun y hy => by rw [List.mem_singleton.mp hy]; exact h.f, fun y hy => by rw [List.mem_singleton.mp hy]; exact h.d⟩
end Sn
/-! any value that is tame: looks at it -/
namespace Kn
open PySem PySem.Spec PyProof.Rows L2 Evl Gd Sn Qw
mutual
/-- texts short and ASCII, ints that can be shown -/
def tame : PyData → Bool
  | .none | .bool _ => true
  | .int i => decide (i.natAbs.log2 < 1900)
  | .str z => ((TL.tl z).all fun c => decide (c < 128)) && decide (z.length ≤ 90000)
  | .list xs | .tuple xs => tameAll xs && decide (xs.length ≤ 3000)
  | .dict kvs => tameKv kvs
def tameAll : List PyData → Bool
  | [] => true
  | x :: xs => tame x && tameAll xs
def tameKv : List (PyData × PyData) → Bool
  | [] => true
  | (_, x) :: xs => tame x && tameKv xs
end
theorem tame_mem : ∀ {xs : List PyData}, tameAll xs = true → ∀ x ∈ xs, tame x = true
  | [], _, x, h => nomatch h
  | y :: ys, a, x, h => by
    rw [tameAll, Bool.and_eq_true] at a
    rcases List.mem_cons.mp h with rfl | h
    · exact a.1
    · exact tame_mem a.2 x h
theorem tame_all : ∀ {xs : List PyData}, (∀ x ∈ xs, tame x = true) → tameAll xs = true
  | [], _ => rfl
  | y :: ys, h => by
    rw [tameAll, h y List.mem_cons_self, tame_all fun x hx => h x (List.mem_cons_of_mem _ hx)]
    rfl
theorem tame_tup {ds : List PyData} (h : tame (.tuple ds) = true) : (∀ x ∈ ds, tame x = true) ∧ ds.length ≤ 90000 := by
  rw [tame, Bool.and_eq_true] at h
  exact ⟨tame_mem h.1, Nat.le_trans (of_decide_eq_true h.2) (by decide)⟩
theorem tame_few {ds : List PyData} (h : tame (.tuple ds) = true) : ds.length ≤ 3000 := by
  rw [tame, Bool.and_eq_true] at h
  exact of_decide_eq_true h.2
theorem tame_str {z : Str} (h : tame (.str z) = true) : Wd z := by
  rw [tame, Bool.and_eq_true] at h
  exact ⟨fun c hc => of_decide_eq_true (List.all_eq_true.mp h.1 c hc), Nat.le_trans (of_decide_eq_true h.2) (by decide)⟩
/-- a look at any value -/
def spV (K : PySem.W.Frag) (G : PyData → Prop) : Sp := fun vs H Q _ => ∃ (D : Addr → Prop) (x : V) (e : PyData), vs = [x] ∧ Av K D H x e ∧ tame e = true ∧ ∀ H' (b : Bool), Ex H H' → (b = true ↔ G e) → Q (.bl b) H'
theorem _root_.Sn.Av.kept {K : PySem.W.Frag} {D : Addr → Prop} {H H' : Hp} {x : V} {e : PyData} (a : Av K D H x e) (y : Ex H H') : Av K D H' x e := a.keep fun a o _ z => y a o z
theorem _root_.Sn.AvAll.kept {K : PySem.W.Frag} {D : Addr → Prop} {H H' : Hp} {x : List V} {e : List PyData} (a : AvAll K D H x e) (y : Ex H H') : AvAll K D H' x e := a.keep fun a o _ z => y a o z
theorem _root_.Sn.Av.tup_at {K : PySem.W.Frag} {D : Addr → Prop} {H : Hp} {x : V} {ds : List PyData} (h : Av K D H x (.tuple ds)) : ∃ a xs, x = .ref a ∧ ¬ D a ∧ H a = some (.tup xs) ∧ AvAll K D H xs ds := by
  cases h with
  | tup a b c => exact ⟨_, _, rfl, a, b, c⟩
theorem _root_.Sn.Av.int_at {K : PySem.W.Frag} {D : Addr → Prop} {H : Hp} {x : V} {i : Int} (h : Av K D H x (.int i)) : x = .int i := by cases h; rfl
theorem _root_.Sn.Av.str_at {K : PySem.W.Frag} {D : Addr → Prop} {H : Hp} {x : V} {z : Str} (h : Av K D H x (.str z)) : x = .str z := by cases h; rfl
theorem _root_.Sn.AvAll.cons_at {K : PySem.W.Frag} {D : Addr → Prop} {H : Hp} {xs : List V} {e : PyData} {es : List PyData} (h : AvAll K D H xs (e :: es)) : ∃ y ys, xs = y :: ys ∧ Av K D H y e ∧ AvAll K D H ys es := by
  cases h with
  | cons a b => exact ⟨_, _, rfl, a, b⟩
theorem _root_.Sn.AvAll.nil_at {K : PySem.W.Frag} {D : Addr → Prop} {H : Hp} {xs : List V} (h : AvAll K D H xs []) : xs = [] := by cases h; rfl
/-- an expression that stands for a value: a variable, an item of a tuple -/
def At (K : PySem.W.Frag) (D : Addr → Prop) (σ : L2.St) (H : Hp) (te : TE) (e : PyData) : Prop := ∀ Q : VK, (∀ x, Av K D H x e → Q x H) → te σ H Q
section
variable {K : PySem.W.Frag} {D : Addr → Prop} {σ : L2.St} {H : Hp} {e : PyData} {te : TE}
theorem at_var {i : Nat} {x : V} (h : σ[i]? = some (some x)) (a : Av K D H x e) : At K D σ H (tVar i) e := fun Q q => Sn.v_of h (q x a)
theorem at_item {i k : Nat} {x : V} {ds : List PyData} {d : PyData} (h : σ[i]? = some (some x)) (a : Av K D H x (.tuple ds)) (g : ds[k]? = some d) : At K D σ H (tOp (rIxT K) (tVar i) (tC (.int k))) d := fun Q q => by
  obtain ⟨t, xs, rfl, _, ht, al⟩ := a.tup_at
  obtain ⟨v, hv, av⟩ := al.get' g
  exact Sn.op_of (Sn.v_of h (Sn.k_of ⟨t, xs, k, v, rfl, rfl, st_of ht, atI_nat (j := k) hv, q v av⟩))
/-- isinstance(.., T) -/
theorem says_isi {T : String} {B : PyData → Bool} (kt : ∀ e, kitB (tyName e) T = some (B e)) (h : At K D σ H te e) : Says σ H (tCB (rIsi K) (tCons te (tCons (tC (.ty T)) tNil))) (B e = true) := fun Q q =>
  Sn.cb_of (Sn.c_of (h _ fun x a => Sn.c_of (Sn.k_of (Sn.n_of ⟨x, .ty T, _, _, B e, rfl, .ty T, ty_av a, kit_ty (kt e), q H _ (Ex.refl H) Iff.rfl⟩))))
theorem says_call {G : PyData → Prop} {E : XK} (h : At K D σ H te e) (tm : tame e = true) : Says σ H (tCall (spV K G) [] E (tCons te tNil)) (G e) := fun Q q =>
  Sn.call_of (Sn.c_of (h _ fun x a => Sn.n_of ⟨D, x, e, rfl, a, tm, q⟩))
theorem SaysT.notT {t : TT} {A : Prop} (ha : SaysT σ H t A) : SaysT σ H (tNot t) (¬ A) := ha.not
theorem says_notv {ta : TE} {A : Prop} (h : Says σ H ta A) : Says σ H (tNotV ta) (¬ A) := fun Q q => Sn.notv_of (h _ fun H1 b x g => ⟨b, rfl, q H1 _ x (by
  rcases tf g with ⟨rfl, a⟩ | ⟨rfl, a⟩
  · exact f_iff fun z => z a
  · exact t_iff a)⟩)
end
abbrev sInt : Stmt := topS 6
abbrev sTupOf : Stmt := topS 12
abbrev nInt : List Str := ["value"]
abbrev nTupOf : List Str := ["value", "many"]
theorem scInt : FnScope nInt ["value"] (defScope sInt) := ⟨rfl, rfl, rfl, by decide +kernel, rfl, by decide +kernel, by decide +kernel⟩
theorem scTupOf : FnScope nTupOf ["value", "many"] (defScope sTupOf) := ⟨rfl, rfl, rfl, by decide +kernel, rfl, by decide +kernel, by decide +kernel⟩
def gInt (e : PyData) : Prop := ∃ i, e = .int i
theorem int_iff {e : PyData} : (Sn.isInt e = true ∧ ¬ isBool e = true) ↔ gInt e := by
  unfold gInt
  cases e <;> simp [Sn.isInt, isBool]
theorem tup_iff {e : PyData} : isTup e = true ↔ ∃ ds, e = .tuple ds := by cases e <;> simp [isTup]
theorem str_iff {e : PyData} : isStr e = true ↔ ∃ z, e = .str z := by cases e <;> simp [isStr]
def spTupOf (K : PySem.W.Frag) : Sp := fun vs H Q _ => ∃ (D : Addr → Prop) (x : V) (e : PyData) (k : Nat), vs = [x, .int k] ∧ Av K D H x e ∧ tame e = true ∧ ∀ H' (b : Bool), Ex H H' → (b = true ↔ ∃ ds, e = .tuple ds ∧ ds.length = k) → Q (.bl b) H'
section
variable {P : Program} {w : World} {K : PySem.W.Frag} {mg : Str → Option Value} {base : Heap}
theorem ok_int {f : Addr} {fd : FuncData} (F : Fun K "is_integer" "is_integer" sInt f fd) (mI : mg "isinstance" = none) (mN : mg "int" = none) (mB : mg "bool" = none) : FnOk P w K mg base CX0 1 f fd ["value"] (spV K gInt) := by
  refine F.ok scInt (fun vs H Q E h => ?_) (fun cdv A outer s H vs Q E hr h => ?_)
  · obtain ⟨D, x, e, rfl, _⟩ := h
    rfl
  · obtain ⟨D, x, e, rfl, av, tm, q⟩ := h
    refine ⟨_, pss_one (ps_ret (pe_and (pe_callB call_isi (by rfl) mI (by decide +kernel) (pa_cons (pv 0) (pa_cons (pe_bltn (v := .ty "int") (by rfl) mN (by decide +kernel) rfl) pa_nil))) (pe_one (pe_not (pe_callB call_isi (by rfl) mI (by decide +kernel) (pa_cons (pv 0) (pa_cons (pe_bltn (v := .ty "bool") (by rfl) mB (by decide +kernel) rfl) pa_nil))))))), ?_⟩
    exact Says.ret (.and (says_isi kit_int (at_var rfl av)) fun H1 x1 _ => says_notv (says_isi kit_bool (at_var rfl (av.kept x1)))) fun H' b x1 hb => q H' b x1 (hb.trans int_iff)
theorem ok_tupof {f : Addr} {fd : FuncData} (F : Fun K "is_tuple_of" "is_tuple_of" sTupOf f fd) (mI : mg "isinstance" = none) (mT : mg "tuple" = none) (mL : mg "len" = none) : FnOk P w K mg base CX0 1 f fd ["value", "many"] (spTupOf K) := by
  refine F.ok scTupOf (fun vs H Q E h => ?_) (fun cdv A outer s H vs Q E hr h => ?_)
  · obtain ⟨D, x, e, k, rfl, _⟩ := h
    rfl
  · obtain ⟨D, x, e, k, rfl, av, tm, q⟩ := h
    refine ⟨_, pss_one (ps_ret (pe_and (pe_callB call_isi (by rfl) mI (by decide +kernel) (pa_cons (pv 0) (pa_cons (pe_bltn (v := .ty "tuple") (by rfl) mT (by decide +kernel) rfl) pa_nil))) (pe_one (pe_cmpR op_eq (pe_callB call_len_seq (by rfl) mL PySem.boot_len (pa_cons (pv 0) pa_nil)) (pv 1) (nomark _))))), ?_⟩
    refine Says.ret (A := (isTup e = true) ∧ ∃ ds, e = .tuple ds ∧ ds.length = k) (.and (says_isi kit_tup (at_var rfl av)) fun H1 x1 it => ?_) fun H' b x1 hb => q H' b x1 (hb.trans ⟨fun z => z.2, fun z => ⟨tup_iff.mpr ⟨z.choose, z.choose_spec.1⟩, z⟩⟩)
    obtain ⟨ds, rfl⟩ := tup_iff.mp it
    obtain ⟨a, xs, rfl, _, ha, al⟩ := (av.kept x1).tup_at
    have ll := al.len
    exact fun Q' q' => Sn.op_of (Sn.cb_of (Sn.c_of (Sn.v_of rfl (Sn.n_of ⟨a, xs, rfl, .inr (st_of ha), Sn.v_of rfl ⟨rfl, q' H1 _ (Ex.refl H1) (b_iff.trans ⟨fun z => ⟨ds, rfl, by have := V.int.inj z; omega⟩, fun ⟨ds', e, h⟩ => by cases e; rw [ll, h]⟩)⟩⟩))))
end
end Kn
/-! set(list): a set of keys of one kind, many, with repeats -/
namespace Gd
open PySem PySem.Spec PyProof.Rows
section
variable {κ : Type} [DecidableEq κ]
/-- the keys met, each once -/
def onceF (m : List κ) (k : κ) : List κ := if k ∈ m then m else m ++ [k]
def once (l : List κ) : List κ := l.foldl onceF []
theorem once_snoc {l : List κ} {k : κ} : once (l ++ [k]) = onceF (once l) k := by
  unfold once
  rw [List.foldl_append]
  rfl
theorem once_fold : ∀ (l m : List κ), (l.foldl onceF m).length ≤ m.length + l.length ∧ ((l.foldl onceF m).length = m.length + l.length ↔ l.Nodup ∧ ∀ k ∈ l, k ∉ m) ∧ ∀ k, k ∈ l.foldl onceF m ↔ k ∈ m ∨ k ∈ l
  | [], m => ⟨Nat.le_refl _, ⟨fun _ => ⟨List.nodup_nil, fun k hk => nomatch hk⟩, fun _ => rfl⟩, fun k => ⟨.inl, fun h => h.elim id fun z => nomatch z⟩⟩
  | a :: r, m => by
    rw [List.foldl_cons, List.length_cons]
    by_cases c : a ∈ m
    · rw [show onceF m a = m from if_pos c]
      obtain ⟨h1, h2, h3⟩ := once_fold r m
      refine ⟨by omega, ⟨fun e => by omega, fun h => absurd c (h.2 a List.mem_cons_self)⟩, fun k => (h3 k).trans ?_⟩
      constructor
      · exact fun h => h.elim .inl fun z => .inr (List.mem_cons_of_mem _ z)
      · rintro (h | h)
        · exact .inl h
        · rcases List.mem_cons.mp h with rfl | h
          · exact .inl c
          · exact .inr h
    · rw [show onceF m a = m ++ [a] from if_neg c]
      obtain ⟨h1, h2, h3⟩ := once_fold r (m ++ [a])
      rw [List.length_append, List.length_singleton] at h1 h2
      refine ⟨by omega, ?_, fun k => (h3 k).trans ?_⟩
      · rw [show m.length + (r.length + 1) = m.length + 1 + r.length by omega, h2, List.nodup_cons]
        constructor
        · rintro ⟨n, h⟩
          refine ⟨⟨fun z => h a z (by simp), n⟩, fun k hk hm => ?_⟩
          rcases List.mem_cons.mp hk with rfl | hk
          · exact c hm
          · exact h k hk (List.mem_append_left _ hm)
        · rintro ⟨⟨na, n⟩, h⟩
          refine ⟨n, fun k hk hm => ?_⟩
          rcases List.mem_append.mp hm with hm | hm
          · exact h k (List.mem_cons_of_mem _ hk) hm
          · rw [List.mem_singleton.mp hm] at hk
            exact na hk
      · rw [List.mem_append, List.mem_singleton, List.mem_cons, or_assoc]
theorem once_le {l : List κ} : (once l).length ≤ l.length := by
  have := (once_fold l []).1
  rw [List.length_nil] at this
  unfold once
  omega
theorem once_lt {l : List κ} : (once l).length < l.length ↔ ¬ l.Nodup := by
  obtain ⟨h1, h2, _⟩ := once_fold l []
  rw [List.length_nil, Nat.zero_add] at h1 h2
  show (l.foldl onceF []).length < _ ↔ _
  constructor
  · intro h n
    have := h2.mpr ⟨n, fun k _ z => nomatch z⟩
    omega
  · intro n
    by_cases e : (l.foldl onceF []).length = l.length
    · exact absurd (h2.mp e).1 n
    · omega
theorem mem_once {l : List κ} {k : κ} : k ∈ once l ↔ k ∈ l := ((once_fold l []).2.2 k).trans ⟨fun h => h.elim (fun z => nomatch z) id, .inr⟩
end
section
variable {P : Program} {w : World} {κ : Type} [DecidableEq κ] {knd : KeyKind P w κ}
/-- the set of these keys -/
def SetIs (knd : KeyKind P w κ) (h : Heap) (a : Addr) (l : List κ) : Prop := h.SetOf knd a (fun k => decide (k ∈ l)) (once l).length
theorem SetIs.kept {h h' : Heap} {a : Addr} {l : List κ} (s : SetIs knd h a l) (e : ∀ o, h.get? a = some o → h'.get? a = some o) : SetIs knd h' a l := by
  obtain ⟨o, es, ep, t, ho, r⟩ := s
  exact ⟨o, es, ep, t, e o ho, r⟩
theorem SetIs.more {h : Heap} {a : Addr} {l : List κ} {k : κ} (s : h.SetOf knd a (fun k' => decide (k' ∈ l) || decide (k' = k)) (if decide (k ∈ l) = true then (once l).length else (once l).length + 1)) : SetIs knd h a (l ++ [k]) := by
  unfold SetIs
  have e1 : (fun k' => decide (k' ∈ l ++ [k])) = fun k' => decide (k' ∈ l) || decide (k' = k) := by
    funext k'
    rw [← Bool.decide_or]
    exact decide_eq_decide.mpr (by rw [List.mem_append, List.mem_singleton])
  have e2 : (once (l ++ [k])).length = if decide (k ∈ l) = true then (once l).length else (once l).length + 1 := by
    rw [once_snoc]
    unfold onceF
    by_cases c : k ∈ l
    · rw [if_pos (mem_once.mpr c), if_pos (decide_eq_true c)]
    · rw [if_neg fun z => c (mem_once.mp z), if_neg fun z => c (of_decide_eq_true z), List.length_append, List.length_singleton]
  rw [e1, e2]
  exact s
variable {A : Around} {R : Result → Shared → Prop} {it : Addr} {fp wr : List Addr} {G : Array GenState → Array GenState → Prop} {n : Nat} {Pv : Nat → Value → Prop} {St : Nat → Shared → Prop}
theorem set_loop (W : WalksS P w A.in1 it fp wr G n Pv St) {d : Addr} (out : d ∉ fp) {l : List κ} (kv : ∀ i v, Pv i v → ∃ k, l[i]? = some k ∧ knd.is k v = true ∧ v.scannable = true) (room : n + 1 < scanBound) (ln : l.length = n) :
    ∀ (m i : Nat) (s : Shared), i + m = n → St i s → SetIs knd s.heap d (l.take i) → (∀ s', Moved (d :: wr) G s s' → SetIs knd s'.heap d l → R (.ok (.ret .none)) s') →
      codeAny (model P w) A (.builtin "set.update.loop" ⟨[.ref d, .ref it], []⟩) R s
  | 0, i, s, e, st, hs, q => by
    have e : i = n := e
    subst e
    refine codeAny_builtin (F.entry_set_update_loop) (by
      rw [Around.under_plainId (F.plain_set_update_loop) _]
      show wpAny _ A.in1 (pyNext (.ref it) >>= _) _ _ s
      refine wpAny_bind (W.done s _ _ st fun s' mv => wpAny_pure (q s' (mv.mono fun b h => List.mem_cons_of_mem _ h) ?_))
      rw [List.take_of_length_le (Nat.le_of_eq ln)] at hs
      exact hs.kept fun o ho => mv.heap d o (fun z => out (W.sub _ z)) ho)
  | m + 1, i, s, e, st, hs, q => by
    refine codeAny_builtin (F.entry_set_update_loop) (by
      rw [Around.under_plainId (F.plain_set_update_loop) _]
      show wpAny _ A.in1 (pyNext (.ref it) >>= _) _ _ s
      refine wpAny_bind (W.item i s _ _ (by omega) st fun v s' pv st' mv => ?_)
      obtain ⟨k, hk, is, sc⟩ := kv i v pv
      have hs' := hs.kept fun o ho => mv.heap d o (fun z => out (W.sub _ z)) ho
      show wpAny _ A.in1 (holding [v] (setAdd d v) >>= _) _ _ s'
      refine wpAny_bind (wpAny_holding ?_)
      unfold setAdd
      refine wpAny_holding (wpAny_bind (knd.pyHash is ?_))
      have lt := once_le (l := l.take i)
      rw [List.length_take] at lt
      refine wpAny_setAddHashed_of (knd := knd) (s := { s' with toks := s'.toks + 1 }) is sc hs' (by omega) fun h' sb s2 => ?_
      have hn : SetIs knd h' d (l.take (i + 1)) := by
        rw [List.take_succ, hk]
        exact SetIs.more s2
      refine wpAny_pure ⟨plainId_quiet (F.plain_set_update_loop) _, set_loop W out kv room ln m (i + 1) _ (by omega) (W.frame _ s' _ _ st' (Nat.le_succ _) fun b hb o ho => ?_) hn fun s2 mv2 hs2 => q s2 (Moved.trans W.gtrans ((mv.mono fun b h => List.mem_cons_of_mem _ h).then_heap (Nat.le_succ _) fun b o hb ho => ?_) mv2) hs2⟩
      · rw [sb.2 b fun z : b = d => out (z ▸ hb)]
        exact ho
      · rw [sb.2 b fun z : b = d => hb (z ▸ List.mem_cons_self)]
        exact ho)
end
end Gd
/-! the call set(list of keys of one kind) -/
namespace Gd
open PySem PySem.Spec PyProof.Rows
section
variable {P : Program} {w : World} {κ : Type} [DecidableEq κ] {knd : KeyKind P w κ} {A : Around} {E : Value → Shared → Prop} {s : Shared}
/-- a new set without keys -/
abbrev bareSet (led : Bool) : Obj := { cls := .type "set", dict := none, data := .set #[] 0 (.fresh 0 0 led) }
theorem bare_is {h : Heap} {a : Addr} {led : Bool} (e : h.get? a = some (bareSet led)) : SetIs knd h a [] := by
  have r : h.SetOf knd a (fun _ => false) 0 := (setObjOf_fresh (knd := knd) led).setOf e (by unfold scanBound; omega)
  have f : (fun k : κ => decide (k ∈ ([] : List κ))) = fun _ => false := funext fun k => decide_eq_false List.not_mem_nil
  unfold SetIs
  rw [f]
  exact r
theorem set_of_list {l : Addr} {items : Array Value} {ks : List κ} {Q : Value → Shared → Prop} (hh : A.handled = none) (hl : s.heap.IsList l items) (ln : ks.length = items.size)
    (kv : ∀ (i : Nat) (v : Value), items[i]? = some v → ∃ k, ks[i]? = some k ∧ knd.is k v = true ∧ v.scannable = true) (room : items.size + 1 < scanBound)
    (q : ∀ (h' : Heap) (tk : Nat), SetIs knd h' s.heap.objs.size ks → (∀ b o, b < s.heap.objs.size → s.heap.get? b = some o → h'.get? b = some o) → Q (.ref s.heap.objs.size) { s with heap := h', toks := tk }) :
    wpAny (model P w) A (call (.type "set") [.ref l]) Q E s := by
  have f1 := PySem.F.called_set
  have m1 := f1.made
  have m2 := f1.sub
  have m3 := f1.notType
  have m4 := f1.canCreate
  have m5 := PySem.F.typeCall_set_1 (.ref l)
  obtain ⟨cls0, mro0, m6⟩ := f1.mro
  refine wpAny_call (codeAny_of_tree (by
    show wpAny _ _ (callAny (.type "set") _) _ _ _
    refine wpAny_pure ⟨Code.quiet_builtin _ (by decide +kernel), codeAny_builtin (PySem.F.entry_type_call) ?_⟩
    rw [Around.under_plain (weight_type_call_type "set" [.ref l] []) rfl]
    repeat (any_goals (first | assumption | wp_step))
    refine codeAny_mono (code_set_new_1 (.ref l) (E := E) (Q₁ := fun v s1 => ∃ led : Bool, v = .ref s.heap.objs.size ∧ s1 = { s with heap := s.heap.push (bareSet led) }) fun led => ⟨led, rfl, rfl⟩) fun r s1 hr => ?_
    match r with
    | .error e => exact hr
    | .ok (.ret v) =>
      obtain ⟨led, rfl, rfl⟩ := hr
      have hS : (s.heap.push (bareSet led)).get? s.heap.objs.size = some (bareSet led) := Heap.get?_push_size _ rfl
      have hT : Shared.TypeIs { s with heap := s.heap.push (bareSet led) } (.ref s.heap.objs.size) "set" := ⟨_, hS, rfl⟩
      have i1 := f1.init.lookup
      have i2 := f1.init.bind (.ref s.heap.objs.size)
      repeat (any_goals (first | assumption | wp_step))
      refine codeAny_mono (codeAny_call_builtin (R := wants (fun v s2 => v = .none ∧ ∃ h' tk, s2 = { s with heap := h', toks := tk } ∧ SetIs knd h' s.heap.objs.size ks ∧ ∀ b o, b < s.heap.objs.size → s.heap.get? b = some o → h'.get? b = some o) E) f1.init.plain (PySem.F.entry_set_init) (check_set_init_1 hT ?_)) fun r2 s2 hr2 => ?_
      · have lS : l < s.heap.objs.size := by
          obtain ⟨o, ho, _⟩ := hl
          exact Heap.lt_size ho
        obtain ⟨⟨c0, d0, b0, sl0⟩, ho, hc, n0, hd⟩ := hl
        simp only at hc hd
        subst hc
        subst hd
        have ho' : (s.heap.push (bareSet led)).get? l = some { cls := .type "list", dict := d0, data := .seq items n0, slots := sl0 } := Heap.get?_push_of_some _ ho
        have u1 := PySem.F.sub_list_set
        have u2 := PySem.F.sub_list_frozenset
        have u3 : (Value.type "list" == Value.type "dict") = false := by decide
        have hl1 : (s.heap.push (bareSet led)).IsList l items := ⟨_, ho', rfl, n0, rfl⟩
        unfold Builtin.«set.__init__» noKeywords Builtin.Frozenset.updateFrom
        generalize hPI : pyIter = PI
        wp_walk
        subst hPI
        refine wpAny_pyIter_list hl1 (wpAny_bind (wpAny_runValue ?_))
        have z1 : (s.heap.push (bareSet led)).objs.size = s.heap.objs.size + 1 := Heap.size_push ..
        have z2 : l ≠ (s.heap.push (bareSet led)).objs.size := by
          rw [z1]
          exact Nat.ne_of_lt (Nat.lt_succ_of_lt lS)
        have h3 : A.in1.in1.in1.handled = none := by simp [hh]
        refine set_loop (l := ks) (n := items.size) ((Walks.list h3 _ l z2 items).toS) (d := s.heap.objs.size) (fun z => ?_) kv room ln items.size 0 _ (Nat.zero_add _) ⟨⟨_, Heap.get?_push_size _ rfl, rfl, rfl⟩, hl1.push _⟩ (bare_is (Heap.get?_push_of_some _ hS)) fun s' mv hs => ?_
        · rcases List.mem_cons.mp z with z | z
          · rw [z1] at z
            exact Nat.ne_of_lt (Nat.lt_succ_self _) z
          · exact Nat.ne_of_gt lS (List.mem_singleton.mp z)
        · obtain ⟨h', g', dr', tk', os'⟩ := s'
          have e1 : g' = s.gens := mv.gens
          have e2 : dr' = s.drawn := mv.drawn
          have e3 : os' = s.os := mv.os
          subst e1 e2 e3
          show wpAny _ _ _ _ _ _
          refine wpAny_pure ?_
          show wpAny _ _ (ret Value.none) _ _ _
          refine wpAny_pure ⟨rfl, h', tk', rfl, hs, fun b o hb e => mv.heap b o (fun z => ?_) (Heap.get?_push_of_some _ (Heap.get?_push_of_some _ e))⟩
          rcases List.mem_cons.mp z with z | z
          · exact Nat.ne_of_lt hb z
          · have z := List.mem_singleton.mp z
            rw [z1] at z
            exact Nat.ne_of_lt (Nat.lt_succ_of_lt hb) z
      · match r2 with
        | .error e => exact hr2
        | .ok (.ret v2) =>
          obtain ⟨rfl, h', tk, rfl, hs, kp⟩ := hr2
          repeat (any_goals (first | assumption | wp_step))
          exact q _ _ hs kp))
end
end Gd
/-! sets of ints or texts whose items may be walked -/
namespace Gd
open PySem PySem.Spec PyProof.Rows L2
theorem perm_map {α β : Type} {f : α → β} : ∀ {zs : List α} {l : List β}, l.Perm (zs.map f) → ∃ ys : List α, l = ys.map f ∧ ys.Perm zs
  | [], l, h => by
    rw [List.map_nil] at h
    exact ⟨[], h.eq_nil, .nil⟩
  | z :: zs, l, h => by
    rw [List.map_cons] at h
    have m : f z ∈ l := h.mem_iff.mpr List.mem_cons_self
    obtain ⟨a, b, rfl⟩ := List.append_of_mem m
    have h2 : (a ++ b).Perm (zs.map f) := (List.perm_cons (f z)).mp (List.perm_middle.symm.trans h)
    obtain ⟨ys, e, p⟩ := perm_map h2
    obtain ⟨y1, y2, rfl, e1, e2⟩ := List.map_eq_append_iff.mp e.symm
    exact ⟨y1 ++ z :: y2, by rw [List.map_append, List.map_cons, e1, e2], List.perm_middle.trans (.cons z p)⟩
section
variable {P : Program} {w : World} {κ : Type} [DecidableEq κ] {knd : KeyKind P w κ}
/-- how an item stands in the set's table -/
def rowG (knd : KeyKind P w κ) (z : Value × κ) : Int × Value := (knd.hash z.2, z.1)
/-- the set of these keys, its items in some order -/
def SetG (knd : KeyKind P w κ) (h : Heap) (a : Addr) (l : List κ) : Prop := ∃ o es ep t, ∃ zs : List (Value × κ), h.get? a = some o ∧ o.ExactSet ∧ o.data = .set es ep t ∧ es.toList = zs.map (rowG knd) ∧ (∀ z ∈ zs, knd.is z.2 z.1 = true ∧ z.1.scannable = true) ∧ (zs.map (·.2)).Perm (once l) ∧
  es.size < scanBound ∧ t.fits es.size = true ∧ Ris t.place.toList ∧ (w.params.followText "set-order" = true ∨ t.led = true)
theorem SetG.kept {h h' : Heap} {a : Addr} {l : List κ} (s : SetG knd h a l) (e : ∀ o, h.get? a = some o → h'.get? a = some o) : SetG knd h' a l := by
  obtain ⟨o, es, ep, t, zs, ho, r⟩ := s
  exact ⟨o, es, ep, t, zs, e o ho, r⟩
theorem once_nd (l : List κ) : (once l).Nodup := by
  have key : ∀ (l m : List κ), m.Nodup → (l.foldl onceF m).Nodup := by
    intro l
    induction l with
    | nil => exact fun m h => h
    | cons a r ih =>
      intro m h
      rw [List.foldl_cons]
      refine ih _ ?_
      unfold onceF
      by_cases c : a ∈ m
      · rw [if_pos c]
        exact h
      · rw [if_neg c]
        exact List.nodup_append.mpr ⟨h, by simp, fun x hx y hy => by rw [List.mem_singleton.mp hy]; exact fun e => c (e ▸ hx)⟩
  exact key l [] List.nodup_nil
variable {A : Around} {E : Value → Shared → Prop} {s : Shared} {a : Addr} {l : List κ}
theorem once_old {k : κ} (h : k ∈ l) : once (l ++ [k]) = once l := by
  rw [once_snoc]
  exact if_pos (mem_once.mpr h)
theorem once_new {k : κ} (h : k ∉ l) : once (l ++ [k]) = once l ++ [k] := by
  rw [once_snoc]
  exact if_neg fun z => h (mem_once.mp z)
/-- the last steps of an add -/
theorem tailG {g : Bool → Sem Unit} (hg : ∀ (b : Bool) (s1 : Shared) (Q' : Unit → Shared → Prop), Q' () s1 → wpAny (model P w) A (g b) Q' E s1) {o : Obj} {es es1 : Array (Int × Value)} {ep : Nat} {t t1 : SetTable} (ho : s.heap.get? a = some o) (ex : o.ExactSet) (hd : o.data = .set es ep t)
    {zs : List (Value × κ)} {l' : List κ} (rows : es1.toList = zs.map (rowG knd)) (ok : ∀ z ∈ zs, knd.is z.2 z.1 = true ∧ z.1.scannable = true) (keys : (zs.map (·.2)).Perm (once l')) (few : es1.size < scanBound) (fit : t1.fits es1.size = true) (ris : Ris t1.place.toList) (led : w.params.followText "set-order" = true ∨ t1.led = true) {dummy : Bool} {R : Option Bool → Shared → Prop}
    (q : ∀ h', Heap.SameBut a s.heap h' → SetG knd h' a l' → R (some true) { s with heap := h' }) :
    wpAny (model P w) A (do
        storeSet a es1 t1
        if (!dummy && t1.tooFull) = true then do
            g (relayAll t1 es1 (SetTable.grown es1.size)).2.2
            storeSet a (relayAll t1 es1 (SetTable.grown es1.size)).1 (relayAll t1 es1 (SetTable.grown es1.size)).2.1
            pure (some true)
          else pure (some true)) R E s := by
  have at1 := store_at (es' := es1) (t' := t1) ho hd
  have same1 := Heap.SameBut.update s.heap a (Obj.putSet es1 t1)
  refine wpAny_bind (wpAny_storeSet_of ho hd ?_ (fits_of_scanBound few))
  by_cases c : (!dummy && t1.tooFull) = true
  · rw [if_pos c]
    have p2 := relayAll_perm t1 es1 (SetTable.grown es1.size)
    have f2 := relayAll_fits t1 es1 (SetTable.grown es1.size)
    have r2 := relayAll_ris t1 es1 (SetTable.grown es1.size)
    have l2 := relayAll_led t1 es1 (SetTable.grown es1.size)
    generalize relayAll t1 es1 (SetTable.grown es1.size) = Z at p2 f2 r2 l2 ⊢
    obtain ⟨es2, t2, gave⟩ := Z
    dsimp only at p2 f2 r2 l2 ⊢
    rw [rows] at p2
    obtain ⟨ys, e2, py⟩ := perm_map p2
    have sz : es2.size = es1.size := by rw [← Array.length_toList, e2, List.length_map, py.length_eq, ← List.length_map (f := rowG knd), ← rows, Array.length_toList]
    have few2 : es2.size < scanBound := by rw [sz]; exact few
    refine wpAny_bind (hg _ _ _ (wpAny_bind (wpAny_storeSet_of at1 rfl (wpAny_pure (q _ (same1.trans (Heap.SameBut.update _ a _)) ?_)) (fits_of_scanBound few2))))
    exact ⟨_, es2, _, t2, ys, store_at (es' := es2) (t' := t2) at1 rfl, ex, rfl, e2, fun z hz => ok z (py.mem_iff.mp hz), (py.map _).trans keys, few2, f2, r2, led.imp id fun z => by rw [l2]; exact z⟩
  · rw [if_neg c]
    exact wpAny_pure (q _ same1 ⟨_, es1, _, t1, zs, at1, ex, rfl, rows, ok, keys, few, fit, ris, led⟩)
/-- one key more -/
theorem addG {k : κ} {v : Value} {Q : Bool → Shared → Prop} (R : SetG knd s.heap a l) (is : knd.is k v = true) (sc : v.scannable = true) (room : l.length + 1 < scanBound)
    (q : ∀ h' b, Heap.SameBut a s.heap h' → SetG knd h' a (l ++ [k]) → Q b { s with heap := h' }) : wpAny (model P w) A (setAddHashed a v (knd.hash k)) Q E s := by
  obtain ⟨o, es, ep, t, zs, ho, ex, hd, rows, ok, keys, few, fit, ris, led⟩ := R
  have el : ElemsOf knd es.toList := fun e he => by
    rw [rows] at he
    obtain ⟨z, hz, rfl⟩ := List.mem_map.mp he
    exact ⟨⟨z.2, (ok z hz).1, rfl⟩, (ok z hz).2⟩
  unfold setAddHashed setAddHashedIn
  refine wpAny_holding (wpAny_bind (wpAny_setState_of ho hd fit ?_))
  dsimp only
  rw [byScan_of sc few el, if_pos rfl]
  unfold setAddByScan
  refine wpAny_bind (wpAny_bind (wpAny_rule (wpAny_bind (wpAny_setScan_of is ho hd fit el ?_))))
  cases fi : es.toList.findIdx? (fun e => knd.is k e.2) with
  | some j =>
    dsimp only
    obtain ⟨hj, pj, _⟩ := List.findIdx?_eq_some_iff_getElem.mp fi
    have mk : k ∈ l := by
      have m : es.toList[j] ∈ zs.map (rowG knd) := by
        rw [← rows]
        exact List.getElem_mem hj
      obtain ⟨z, hz, e⟩ := List.mem_map.mp m
      have e2 : es.toList[j].2 = z.1 := by rw [← e]; rfl
      rw [e2] at pj
      have := knd.inj _ _ _ pj (ok z hz).1
      rw [this]
      exact mem_once.mp (keys.mem_iff.mp (List.mem_map.mpr ⟨z, hz, rfl⟩))
    refine wpAny_pure (wpAny_pure (q s.heap false (Heap.SameBut.refl a s.heap) ⟨o, es, ep, t, zs, ho, ex, hd, rows, ok, ?_, few, fit, ris, led⟩))
    rw [once_old mk]
    exact keys
  | none =>
    dsimp only
    have mk : k ∉ l := fun m => by
      obtain ⟨z, hz, e⟩ := List.mem_map.mp (keys.mem_iff.mpr (mem_once.mpr m))
      have c := List.findIdx?_eq_none_iff.mp fi (rowG knd z) (by rw [rows]; exact List.mem_map.mpr ⟨z, hz, rfl⟩)
      rw [show (rowG knd z).2 = z.1 from rfl, ← e, (ok z hz).1] at c
      cases c
    have p1 := layNew_perm t es (knd.hash k) v
    have f1 := layNew_fits t es (knd.hash k) v
    have r1 := layNew_ris t es (knd.hash k) v ris
    have l1 := layNew_led t es (knd.hash k) v
    generalize layNew t es (knd.hash k) v = Z at p1 f1 r1 l1 ⊢
    obtain ⟨es1, t1, dummy, gave⟩ := Z
    dsimp only at p1 f1 r1 l1 ⊢
    rw [Array.toList_push, rows] at p1
    have p1' : es1.toList.Perm ((zs ++ [(v, k)]).map (rowG knd)) := by
      rw [List.map_append]
      exact p1
    obtain ⟨ys, e1, py⟩ := perm_map p1'
    have ok1 : ∀ z ∈ ys, knd.is z.2 z.1 = true ∧ z.1.scannable = true := fun z hz => by
      rcases List.mem_append.mp (py.mem_iff.mp hz) with h | h
      · exact ok z h
      · rw [List.mem_singleton.mp h]
        exact ⟨is, sc⟩
    have keys1 : (ys.map (·.2)).Perm (once (l ++ [k])) := by
      rw [once_new mk]
      refine (py.map _).trans ?_
      rw [List.map_append]
      exact keys.append_right _
    have few1 : es1.size < scanBound := by
      have a1 : es1.size = ys.length := by rw [← Array.length_toList, e1, List.length_map]
      have a2 := keys1.length_eq
      rw [List.length_map] at a2
      have a3 := once_le (l := l ++ [k])
      rw [List.length_append, List.length_singleton] at a3
      omega
    have led1 : w.params.followText "set-order" = true ∨ t1.led = true := led.imp id fun z => by rw [l1]; exact z
    have gw : ∀ (b : Bool) (s1 : Shared) (Q' : Unit → Shared → Prop), Q' () s1 → wpAny (model P w) A (match b with | true => rule "set.scan.the-table-gave-way" | false => pure ()) Q' E s1 := fun b s1 Q' z => by
      cases b
      · exact wpAny_pure z
      · exact wpAny_rule z
    refine wpAny_bind (gw _ _ _ ?_)
    have fin : ∀ (t2 : SetTable), t2.fits es1.size = true → Ris t2.place.toList → (w.params.followText "set-order" = true ∨ t2.led = true) → ∀ (g : Bool → Sem Unit), (∀ (b : Bool) (s1 : Shared) (Q' : Unit → Shared → Prop), Q' () s1 → wpAny (model P w) A (g b) Q' E s1) →
        wpAny (model P w) A (do
        storeSet a es1 t2
        if (!dummy && t2.tooFull) = true then do
            g (relayAll t2 es1 (SetTable.grown es1.size)).2.2
            storeSet a (relayAll t2 es1 (SetTable.grown es1.size)).1 (relayAll t2 es1 (SetTable.grown es1.size)).2.1
            pure (some true)
          else pure (some true)) (fun r s' => r = some true ∧ Q true s') E s := fun t2 f2 r2 l2 g hg => tailG hg ho ex hd e1 ok1 keys1 few1 f2 r2 l2 fun h' sb r => ⟨rfl, q h' true sb r⟩
    by_cases pl : t1.plain = true
    · rw [if_pos pl]
      refine wpAny_bind ?_
      rw [hashByValue_scannable 8 sc]
      refine wpAny_pure ?_
      have f2 : (if plainKind v = true then t1 else { t1 with plain := false }).fits es1.size = true := by
        split
        · exact f1
        · exact SetTable.fits_plain_off f1
      have r2 : Ris (if plainKind v = true then t1 else { t1 with plain := false }).place.toList := by split <;> exact r1
      have l2 : w.params.followText "set-order" = true ∨ (if plainKind v = true then t1 else { t1 with plain := false }).led = true := by split <;> exact led1
      generalize (if plainKind v = true then t1 else { t1 with plain := false }) = t2 at f2 r2 l2 ⊢
      refine wpAny_mono (fin t2 f2 r2 l2 _ gw) (fun r s' z => ?_) (fun _ _ z => z)
      obtain ⟨rfl, z⟩ := z
      exact wpAny_pure z
    · rw [if_neg pl]
      refine wpAny_bind (wpAny_pure ?_)
      rw [if_pos rfl]
      refine wpAny_mono (fin t1 f1 r1 led1 _ gw) (fun r s' z => ?_) (fun _ _ z => z)
      obtain ⟨rfl, z⟩ := z
      exact wpAny_pure z
end
end Gd
/-! set(list of ints or texts), its items may be walked -/
namespace Gd
open PySem PySem.Spec PyProof.Rows L2
section
variable {P : Program} {w : World} {κ : Type} [DecidableEq κ] {knd : KeyKind P w κ}
variable {A : Around} {R : Result → Shared → Prop} {it : Addr} {fp wr : List Addr} {G : Array GenState → Array GenState → Prop} {n : Nat} {Pv : Nat → Value → Prop} {St : Nat → Shared → Prop}
theorem set_loopG (W : WalksS P w A.in1 it fp wr G n Pv St) {d : Addr} (out : d ∉ fp) {l : List κ} (kv : ∀ i v, Pv i v → ∃ k, l[i]? = some k ∧ knd.is k v = true ∧ v.scannable = true) (room : n + 1 < scanBound) (ln : l.length = n) :
    ∀ (m i : Nat) (s : Shared), i + m = n → St i s → SetG knd s.heap d (l.take i) → (∀ s', Moved (d :: wr) G s s' → SetG knd s'.heap d l → R (.ok (.ret .none)) s') →
      codeAny (model P w) A (.builtin "set.update.loop" ⟨[.ref d, .ref it], []⟩) R s
  | 0, i, s, e, st, hs, q => by
    have e : i = n := e
    subst e
    refine codeAny_builtin (F.entry_set_update_loop) (by
      rw [Around.under_plainId (F.plain_set_update_loop) _]
      show wpAny _ A.in1 (pyNext (.ref it) >>= _) _ _ s
      refine wpAny_bind (W.done s _ _ st fun s' mv => wpAny_pure (q s' (mv.mono fun b h => List.mem_cons_of_mem _ h) ?_))
      rw [List.take_of_length_le (Nat.le_of_eq ln)] at hs
      exact hs.kept fun o ho => mv.heap d o (fun z => out (W.sub _ z)) ho)
  | m + 1, i, s, e, st, hs, q => by
    refine codeAny_builtin (F.entry_set_update_loop) (by
      rw [Around.under_plainId (F.plain_set_update_loop) _]
      show wpAny _ A.in1 (pyNext (.ref it) >>= _) _ _ s
      refine wpAny_bind (W.item i s _ _ (by omega) st fun v s' pv st' mv => ?_)
      obtain ⟨k, hk, is, sc⟩ := kv i v pv
      have hs' := hs.kept fun o ho => mv.heap d o (fun z => out (W.sub _ z)) ho
      show wpAny _ A.in1 (holding [v] (setAdd d v) >>= _) _ _ s'
      refine wpAny_bind (wpAny_holding ?_)
      unfold setAdd
      refine wpAny_holding (wpAny_bind (knd.pyHash is ?_))
      have lt : (l.take i).length + 1 < scanBound := by
        rw [List.length_take]
        omega
      refine addG (s := { s' with toks := s'.toks + 1 }) hs' is sc lt fun h' b sb s2 => ?_
      have hn : SetG knd h' d (l.take (i + 1)) := by
        rw [List.take_succ, hk]
        exact s2
      refine wpAny_pure ⟨plainId_quiet (F.plain_set_update_loop) _, set_loopG W out kv room ln m (i + 1) _ (by omega) (W.frame _ s' _ _ st' (Nat.le_succ _) fun b hb o ho => ?_) hn fun s2 mv2 hs2 => q s2 (Moved.trans W.gtrans ((mv.mono fun b h => List.mem_cons_of_mem _ h).then_heap (Nat.le_succ _) fun b o hb ho => ?_) mv2) hs2⟩
      · rw [sb.2 b fun z : b = d => out (z ▸ hb)]
        exact ho
      · rw [sb.2 b fun z : b = d => hb (z ▸ List.mem_cons_self)]
        exact ho)
end
section
variable {P : Program} {w : World} {κ : Type} [DecidableEq κ] {knd : KeyKind P w κ} {A : Around} {E : Value → Shared → Prop} {s : Shared}
theorem bareG {h : Heap} {a : Addr} (e : h.get? a = some (bareSet (!w.params.followText "set-order"))) : SetG knd h a [] :=
  ⟨_, #[], 0, _, [], e, ⟨rfl, rfl, rfl⟩, rfl, rfl, (fun z hz => nomatch hz), .nil, by decide, by rfl, List.Pairwise.nil, by
    show _ ∨ (!w.params.followText "set-order") = true
    cases w.params.followText "set-order"
    · exact .inr rfl
    · exact .inl rfl⟩
/-- a set is made: its maker's order is the world's -/
theorem new_led (x : Value) {Q : Value → Shared → Prop} (q : Q (.ref s.heap.objs.size) { s with heap := s.heap.push (bareSet (!w.params.followText "set-order")) }) : codeAny (model P w) A (.call (.builtin "set.__new__") ⟨[.type "set", x], []⟩) (wants Q E) s := by
  refine codeAny_of_tree (by
    show wpAny _ A.in1 (do checkBuiltinCall "set.__new__" ⟨[.type "set", x], []⟩; again (.builtin "set.__new__" ⟨[.type "set", x], []⟩)) _ _ s
    refine wpAny_bind (wpAny_of_eq (PySem.F.newCall_set_1 x) (wpAny_pure ⟨plainId_quiet PySem.F.plain_set_new _, codeAny_builtin PySem.F.entry_set_new (by
      rw [Around.under_plainId PySem.F.plain_set_new _]
      unfold Builtin.«set.__new__» Builtin.Frozenset.newClass
      have sub := sub_set_self
      obtain ⟨hp, g, d, tk, os⟩ := s
      dsimp only
      wp_walk
      refine wpAny_askSetting (wpAny_pure ?_)
      dsimp only
      simp only [newObj]
      exact wpAny_bind (wpAny_alloc (wpAny_pure (wpAny_pure q))))⟩)))
theorem set_of_listG {l : Addr} {items : Array Value} {ks : List κ} {Q : Value → Shared → Prop} (hh : A.handled = none) (hl : s.heap.IsList l items) (ln : ks.length = items.size)
    (kv : ∀ (i : Nat) (v : Value), items[i]? = some v → ∃ k, ks[i]? = some k ∧ knd.is k v = true ∧ v.scannable = true) (room : items.size + 1 < scanBound)
    (q : ∀ (h' : Heap) (tk : Nat), SetG knd h' s.heap.objs.size ks → (∀ b o, b < s.heap.objs.size → s.heap.get? b = some o → h'.get? b = some o) → Q (.ref s.heap.objs.size) { s with heap := h', toks := tk }) :
    wpAny (model P w) A (call (.type "set") [.ref l]) Q E s := by
  have f1 := PySem.F.called_set
  have m1 := f1.made
  have m2 := f1.sub
  have m3 := f1.notType
  have m4 := f1.canCreate
  have m5 := PySem.F.typeCall_set_1 (.ref l)
  obtain ⟨cls0, mro0, m6⟩ := f1.mro
  refine wpAny_call (codeAny_of_tree (by
    show wpAny _ _ (callAny (.type "set") _) _ _ _
    refine wpAny_pure ⟨Code.quiet_builtin _ (by decide +kernel), codeAny_builtin (PySem.F.entry_type_call) ?_⟩
    rw [Around.under_plain (weight_type_call_type "set" [.ref l] []) rfl]
    repeat (any_goals (first | assumption | wp_step))
    refine codeAny_mono (new_led (.ref l) (E := E) (Q := fun v s1 => v = .ref s.heap.objs.size ∧ s1 = { s with heap := s.heap.push (bareSet (!w.params.followText "set-order")) }) ⟨rfl, rfl⟩) fun r s1 hr => ?_
    match r with
    | .error e => exact hr
    | .ok (.ret v) =>
      obtain ⟨rfl, rfl⟩ := hr
      generalize hled : (!w.params.followText "set-order") = led
      have hS : (s.heap.push (bareSet led)).get? s.heap.objs.size = some (bareSet led) := Heap.get?_push_size _ rfl
      have hT : Shared.TypeIs { s with heap := s.heap.push (bareSet led) } (.ref s.heap.objs.size) "set" := ⟨_, hS, rfl⟩
      have i1 := f1.init.lookup
      have i2 := f1.init.bind (.ref s.heap.objs.size)
      repeat (any_goals (first | assumption | wp_step))
      refine codeAny_mono (codeAny_call_builtin (R := wants (fun v s2 => v = .none ∧ ∃ h' tk, s2 = { s with heap := h', toks := tk } ∧ SetG knd h' s.heap.objs.size ks ∧ ∀ b o, b < s.heap.objs.size → s.heap.get? b = some o → h'.get? b = some o) E) f1.init.plain (PySem.F.entry_set_init) (check_set_init_1 hT ?_)) fun r2 s2 hr2 => ?_
      · have lS : l < s.heap.objs.size := by
          obtain ⟨o, ho, _⟩ := hl
          exact Heap.lt_size ho
        obtain ⟨⟨c0, d0, b0, sl0⟩, ho, hc, n0, hd⟩ := hl
        simp only at hc hd
        subst hc
        subst hd
        have ho' : (s.heap.push (bareSet led)).get? l = some { cls := .type "list", dict := d0, data := .seq items n0, slots := sl0 } := Heap.get?_push_of_some _ ho
        have u1 := PySem.F.sub_list_set
        have u2 := PySem.F.sub_list_frozenset
        have u3 : (Value.type "list" == Value.type "dict") = false := by decide
        have hl1 : (s.heap.push (bareSet led)).IsList l items := ⟨_, ho', rfl, n0, rfl⟩
        unfold Builtin.«set.__init__» noKeywords Builtin.Frozenset.updateFrom
        generalize hPI : pyIter = PI
        wp_walk
        subst hPI
        refine wpAny_pyIter_list hl1 (wpAny_bind (wpAny_runValue ?_))
        have z1 : (s.heap.push (bareSet led)).objs.size = s.heap.objs.size + 1 := Heap.size_push ..
        have z2 : l ≠ (s.heap.push (bareSet led)).objs.size := by
          rw [z1]
          exact Nat.ne_of_lt (Nat.lt_succ_of_lt lS)
        have h3 : A.in1.in1.in1.handled = none := by simp [hh]
        refine set_loopG (l := ks) (n := items.size) ((Walks.list h3 _ l z2 items).toS) (d := s.heap.objs.size) (fun z => ?_) kv room ln items.size 0 _ (Nat.zero_add _) ⟨⟨_, Heap.get?_push_size _ rfl, rfl, rfl⟩, hl1.push _⟩ (bareG (Heap.get?_push_of_some _ (by rw [hled]; exact hS))) fun s' mv hs => ?_
        · rcases List.mem_cons.mp z with z | z
          · rw [z1] at z
            exact Nat.ne_of_lt (Nat.lt_succ_self _) z
          · exact Nat.ne_of_gt lS (List.mem_singleton.mp z)
        · obtain ⟨h', g', dr', tk', os'⟩ := s'
          have e1 : g' = s.gens := mv.gens
          have e2 : dr' = s.drawn := mv.drawn
          have e3 : os' = s.os := mv.os
          subst e1 e2 e3
          show wpAny _ _ _ _ _ _
          refine wpAny_pure ?_
          show wpAny _ _ (ret Value.none) _ _ _
          refine wpAny_pure ⟨rfl, h', tk', rfl, hs, fun b o hb e => mv.heap b o (fun z => ?_) (Heap.get?_push_of_some _ (Heap.get?_push_of_some _ e))⟩
          rcases List.mem_cons.mp z with z | z
          · exact Nat.ne_of_lt hb z
          · have z := List.mem_singleton.mp z
            rw [z1] at z
            exact Nat.ne_of_lt (Nat.lt_succ_of_lt hb) z
      · match r2 with
        | .error e => exact hr2
        | .ok (.ret v2) =>
          obtain ⟨rfl, h', tk, rfl, hs, kp⟩ := hr2
          repeat (any_goals (first | assumption | wp_step))
          exact q _ _ hs kp))
end
end Gd
/-! len(set(texts)), the texts in a list -/
namespace Gd
open PySem PySem.Spec PyProof.Rows L2
theorem text_at : ∀ {ws : List Str} {us : List Value}, Vals (ws.map V.str) us → us.length = ws.length ∧ ∀ (i : Nat) v, us[i]? = some v → ∃ k t, ws[i]? = some k ∧ v = .str k t
  | [], _, .nil => ⟨rfl, fun i v h => by simp at h⟩
  | a :: r, _, .cons e t => by
    obtain ⟨l, f⟩ := text_at t
    refine ⟨by rw [List.length_cons, List.length_cons, l], fun i v h => ?_⟩
    cases i with
    | zero =>
      obtain ⟨k, rfl⟩ := e
      cases h
      exact ⟨a, k, rfl, rfl⟩
    | succ i => exact f i v h
section
variable {X : Cx}
/-- len(set(words)) -/
def tLenOnce (K : PySem.W.Frag) (ta : TE) : TE := fun σ H Q => ta σ H fun x H1 => ∃ (l : Addr) (ws : List Str), x = .ref l ∧ SqL K H1 l (ws.map V.str) ∧ ws.length < 4000 ∧ Q (.int (once ws).length) H1
theorem pe_lenOnce {a : Expr} {ta : TE} {p1 p2 p3 p4 : Pos} (hc : X.calm = true) (gl : Gl X "len") (ml : X.mg "len" = none) (gs : Gl X "set") (ms : X.mg "set" = none) (ha : PE X a ta)
    (na : starEach [a] X.env = (false, eval a X.env) :: starEach [] X.env := by rfl) : PE X (.Call (.Name "len" p1) [.Call (.Name "set" p2) [a] [] p3] [] p4) (tLenOnce X.K ta) where
  run pins s σ H Q I h := by
    refine Call_ (ld_blt I gl ml boot_len (PyProof.Rows.callWith_builtin1 (PyProof.Rows.args_cons ?_ rfl) rfl rfl))
    refine Call_ (ld_blt I gs ms boot_set (PyProof.Rows.callWith_type1 (PyProof.Rows.args_cons (thn (ha.run pins s σ H _ I h) fun v s1 z => PyProof.Rows.args_nil ?_) na) na rfl))
    obtain ⟨x, H1, I1, r1, l, ws, rfl, hq, few, q⟩ := z
    cases r1
    obtain ⟨its, r, pl, hz⟩ := I1.list hq
    obtain ⟨ln, at_⟩ := text_at r
    have sz : its.toArray.size = ws.length := by rw [List.size_toArray, ln]
    refine set_of_list (knd := PySem.strKind X.prog X.w) (ks := ws) (I1.ok.hd hc) pl.isList sz.symm (fun i v hv => ?_) (by rw [sz]; unfold scanBound; omega) fun h' tk hs kp => PyProof.Rows.args_nil ?_
    · rw [List.getElem?_toArray] at hv
      obtain ⟨k, t, e1, e2⟩ := at_ i v hv
      exact ⟨k, e1, e2 ▸ strKind_is _ _ _ _, e2 ▸ rfl⟩
    · obtain ⟨o, es, ep, t, ho, hex, hd, _, _, _, hf, hn⟩ := hs
      have I2 : Inv X pins σ H1 { s1 with heap := h', toks := tk } := I1.kept fun b o e => kp b o (Heap.lt_size e) e
      have le := once_le (l := ws)
      exact call_len_set ho hex hd hf (by rw [hn]; omega) ⟨.int (once ws).length, H1, I2.tok _, ⟨_, by rw [hn]⟩, q⟩
end
end Gd
/-! sorted(set(ints)), sorted(set(texts)) of a list -/
namespace Gd
open PySem PySem.Spec PyProof.Rows L2
section
variable {P : Program} {w : World} {κ : Type} [DecidableEq κ] {knd : KeyKind P w κ} {A : Around} {E : Value → Shared → Prop} {s : Shared} {a : Addr} {l : List κ}
/-- sorted(a set): its items, each once -/
theorem sortedG {lt : Value → Value → Bool} (O : SrtO.Swo lt) (R : SetG knd s.heap a l) (hh : A.handled = none) (so : ∀ (s1 : Shared) (B : Around) (b : Addr) (vs : List Value), 2 ≤ vs.length → (∀ v ∈ vs, ∃ k, knd.is k v = true ∧ v.scannable = true) → SrtO.SortableO P w B s1 b vs lt) {Q : Value → Shared → Prop}
    (q : ∀ s' p c (out : List Value) (zs : List (Value × κ)), (∀ b o, s.heap.get? b = some o → s'.heap.get? b = some o) → s'.gens = s.gens → s'.os = s.os → s.heap.objs.size ≤ p → s'.heap.get? p = some (seqObj "list" out.toArray c) → SrtO.Srtd lt out → out = zs.map (·.1) → (∀ z ∈ zs, knd.is z.2 z.1 = true) → (zs.map (·.2)).Perm (once l) → Q (.ref p) s') :
    wpAny (model P w) A (call (.builtin "sorted") [.ref a]) Q E s := by
  obtain ⟨o, es, ep, t, zs, ho, ex, hd, rows, ok, keys, few, fit, ris, led⟩ := R
  refine Calls.call_function_entry kind_sorted plain_sorted entry_sorted (args_sorted1 _) (by
    unfold Builtin.«sorted»
    refine wpAny_bind (m := checkCount "sorted" 1 1 _) (wpAny_pure (wpAny_bind (collect_set (A := A.in1) hh ⟨o, ho, ex.1, hd⟩ fit few ris led fun s1 vs k1 z1 g1 o1 pm => ?_)))
    have pv : vs.Perm (zs.map (·.1)) := by
      rw [rows, List.map_map] at pm
      exact pm
    obtain ⟨ys, ev, py⟩ := perm_map pv
    have vl : vs.length ≤ sizeLine := by
      have h1 : vs.length = es.size := by rw [pm.length_eq, List.length_map, Array.length_toList]
      have := fits_of_scanBound few
      omega
    have okv : ∀ v ∈ vs, ∃ k, knd.is k v = true ∧ v.scannable = true := fun v hv => by
      rw [ev] at hv
      obtain ⟨z, hz, rfl⟩ := List.mem_map.mp hv
      exact ⟨z.2, ok z (py.mem_iff.mp hz)⟩
    refine wpAny_bind (wpAny_newList ?_ vl)
    have at1 : (s1.heap.push (seqObj "list" vs.toArray 0)).get? s1.heap.objs.size = some (seqObj "list" vs.toArray 0) := Heap.get?_push_size _ rfl
    refine wpAny_bind (wpAny_holding (wpAny_call_entry slot_list_sort ⟨_, at1, rfl⟩ entry_list_sort (SrtO.list_sort_ord O at1 vl (fun h2 => so _ _ _ vs h2 okv) fun out srt stb => ⟨_, rfl, ?_⟩) (args_list_sort _)))
    obtain ⟨c, hc⟩ := sortedHeap_at (vs := vs) (out := out.toArray) at1
    have po : out.Perm (ys.map (·.1)) := by
      have := stb.perm
      rw [ev] at this
      exact this
    obtain ⟨xs, eo, px⟩ := perm_map po
    refine wpAny_pure ⟨_, rfl, q _ _ c out xs (fun b u e => ?_) g1 o1 z1 hc srt eo (fun z hz => (ok z (py.mem_iff.mp (px.mem_iff.mp hz))).1) ((px.map _).trans ((py.map _).trans keys))⟩
    have e1 := k1 b u e
    have lt1 := Heap.lt_size e1
    show (sortedHeap (s1.heap.push (seqObj "list" vs.toArray 0)) s1.heap.objs.size vs out.toArray).get? b = some u
    rw [sortedHeap_old (Nat.ne_of_lt lt1) (by rw [size_push']; exact Nat.lt_succ_of_lt lt1)]
    exact Heap.get?_push_of_some _ e1)
theorem sort_ints : ∀ (s1 : Shared) (B : Around) (b : Addr) (vs : List Value), 2 ≤ vs.length → (∀ v ∈ vs, ∃ k, (intKind P w).is k v = true ∧ v.scannable = true) → SrtO.SortableO P w B s1 b vs SrtO.ltIv := fun s1 B b vs h2 ok =>
  SrtO.ints_sortable (ns := vs.map SrtO.iv) (SrtO.ints_iv fun v hv => by
    obtain ⟨k, hk, _⟩ := ok v hv
    cases v with
    | int i t => exact ⟨i, t, rfl⟩
    | _ => cases hk) h2
def tv : Value → Str
  | .str z _ => z
  | _ => Str.empty
def ltTv (v u : Value) : Bool := decide ((tv v).cps.toList < (tv u).cps.toList)
theorem swo_text : SrtO.Swo ltTv := ⟨fun x y h => kLt_as (a := .inr (tv x)) (b := .inr (tv y)) h, fun x y z h g => by
  have e1 : kLt (.inr (tv y)) (.inr (tv x)) = false := h
  have e2 : kLt (.inr (tv z)) (.inr (tv y)) = false := g
  show kLt (.inr (tv z)) (.inr (tv x)) = false
  cases c : kLt (.inr (tv z)) (.inr (tv x)) with
  | false => rfl
  | true =>
    cases d : kLt (.inr (tv x)) (.inr (tv y)) with
    | true =>
      rw [kLt_tr c d] at e2
      cases e2
    | false =>
      have := kLt_tri e1 d
      rw [this, c] at e2
      cases e2⟩
theorem is_text {v : Value} {k : Str} (h : (PySem.strKind P w).is k v = true) : ∃ t, v = .str k t := by
  cases v with
  | str z t =>
    have e : (z == k) = true := h
    exact ⟨t, by rw [eq_of_beq e]⟩
  | _ => cases h
theorem texts_are : ∀ {vs : List Value}, (∀ v ∈ vs, ∃ z t, v = Value.str z t) → StrsAre vs (vs.map tv)
  | [], _ => .nil
  | v :: vs, h => by
    obtain ⟨z, t, rfl⟩ := h v List.mem_cons_self
    exact .cons z t (texts_are fun u hu => h u (List.mem_cons_of_mem _ hu))
theorem sort_texts : ∀ (s1 : Shared) (B : Around) (b : Addr) (vs : List Value), 2 ≤ vs.length → (∀ v ∈ vs, ∃ k, (PySem.strKind P w).is k v = true ∧ v.scannable = true) → SrtO.SortableO P w B s1 b vs ltTv := fun s1 B b vs h2 ok h' _ => by
  have tx : ∀ v ∈ vs, ∃ z t, v = Value.str z t := fun v hv => by
    obtain ⟨k, hk, _⟩ := ok v hv
    obtain ⟨t, rfl⟩ := is_text hk
    exact ⟨k, t, rfl⟩
  refine ⟨oneType', fun Q E hq => ?_, fun p q hp hq => ?_⟩
  · match vs, h2, texts_are tx with
    | v1 :: v2 :: rest, _, hs =>
      rw [keyKind_strs hs]
      exact wpAny_pure hq
    | [], h, _ => exact absurd h (by decide)
    | [_], h, _ => exact absurd h (by simp)
  · obtain ⟨z1, t1, e1⟩ := tx _ hp
    obtain ⟨z2, t2, e2⟩ := tx _ hq
    show wpAny (model P w) B (keyLt' oneType' p.1 q.1) (fun r s' => s' = _ ∧ r = ltTv p.1 q.1) _ _
    rw [e1, e2, keyLt'_oneType]
    exact oneLt_strs true ⟨rfl, rfl⟩
end
section
variable {X : Cx}
def sLt (a b : Str) : Prop := a.cps.toList < b.cps.toList
/-- sorted(set(..)) of ints -/
def tSortI (K : PySem.W.Frag) (ta : TE) : TE := fun σ H Q => ta σ H fun x H1 => ∃ (l : Addr) (ns : List Int), x = .ref l ∧ SqL K H1 l (ns.map V.int) ∧ ns.length < 4000 ∧ ∀ (ms : List Int) p, ms.Pairwise (· < ·) → ms.Perm (once ns) → H1 p = none → Q (.ref p) (upd H1 p (.lst (ms.map V.int)))
/-- sorted(set(..)) of texts -/
def tSortS (K : PySem.W.Frag) (ta : TE) : TE := fun σ H Q => ta σ H fun x H1 => ∃ (l : Addr) (ws : List Str), x = .ref l ∧ SqL K H1 l (ws.map V.str) ∧ ws.length < 4000 ∧ ∀ (ms : List Str) p, ms.Pairwise sLt → ms.Perm (once ws) → H1 p = none → Q (.ref p) (upd H1 p (.lst (ms.map V.str)))
theorem int_at : ∀ {ns : List Int} {us : List Value}, Vals (ns.map V.int) us → us.length = ns.length ∧ ∀ (i : Nat) v, us[i]? = some v → ∃ k t, ns[i]? = some k ∧ v = .int k t
  | [], _, .nil => ⟨rfl, fun i v h => by simp at h⟩
  | a :: r, _, .cons e t => by
    obtain ⟨l, f⟩ := int_at t
    refine ⟨by rw [List.length_cons, List.length_cons, l], fun i v h => ?_⟩
    cases i with
    | zero =>
      obtain ⟨k, rfl⟩ := e
      cases h
      exact ⟨a, k, rfl, rfl⟩
    | succ i => exact f i v h
theorem vals_ints : ∀ zs : List (Value × Int), (∀ z ∈ zs, ∃ tk, z.1 = Value.int z.2 tk) → Vals ((zs.map (·.2)).map V.int) (zs.map (·.1))
  | [], _ => .nil
  | z :: zs, h => by
    obtain ⟨t, e⟩ := h z List.mem_cons_self
    rw [List.map_cons, List.map_cons, List.map_cons, e]
    exact .cons ⟨t, rfl⟩ (vals_ints zs fun y hy => h y (List.mem_cons_of_mem _ hy))
theorem vals_texts : ∀ zs : List (Value × Str), (∀ z ∈ zs, ∃ tk, z.1 = Value.str z.2 tk) → Vals ((zs.map (·.2)).map V.str) (zs.map (·.1))
  | [], _ => .nil
  | z :: zs, h => by
    obtain ⟨t, e⟩ := h z List.mem_cons_self
    rw [List.map_cons, List.map_cons, List.map_cons, e]
    exact .cons ⟨t, rfl⟩ (vals_texts zs fun y hy => h y (List.mem_cons_of_mem _ hy))
theorem ord_ints {zs : List (Value × Int)} (ok : ∀ z ∈ zs, ∃ tk, z.1 = Value.int z.2 tk) (srt : SrtO.Srtd SrtO.ltIv (zs.map (·.1))) (nd : (zs.map (·.2)).Nodup) : (zs.map (·.2)).Pairwise (· < ·) := by
  have h1 : zs.Pairwise fun x y => SrtO.ltIv y.1 x.1 = false := List.pairwise_map.mp srt
  have h2 : zs.Pairwise fun x y => x.2 ≠ y.2 := List.pairwise_map.mp nd
  refine List.pairwise_map.mpr ((h1.and h2).imp_of_mem fun {x y} hx hy h => ?_)
  obtain ⟨t1, e1⟩ := ok x hx
  obtain ⟨t2, e2⟩ := ok y hy
  have h3 := h.1
  unfold SrtO.ltIv at h3
  rw [e1, e2] at h3
  have h3 : ¬ (y.2 < x.2) := of_decide_eq_false h3
  have := h.2
  omega
theorem ord_texts {zs : List (Value × Str)} (ok : ∀ z ∈ zs, ∃ tk, z.1 = Value.str z.2 tk) (srt : SrtO.Srtd ltTv (zs.map (·.1))) (nd : (zs.map (·.2)).Nodup) : (zs.map (·.2)).Pairwise sLt := by
  have h1 : zs.Pairwise fun x y => ltTv y.1 x.1 = false := List.pairwise_map.mp srt
  have h2 : zs.Pairwise fun x y => x.2 ≠ y.2 := List.pairwise_map.mp nd
  refine List.pairwise_map.mpr ((h1.and h2).imp_of_mem fun {x y} hx hy h => ?_)
  obtain ⟨t1, e1⟩ := ok x hx
  obtain ⟨t2, e2⟩ := ok y hy
  have h3 := h.1
  unfold ltTv at h3
  rw [e1, e2] at h3
  have h3 : kLt (.inr y.2) (.inr x.2) = false := h3
  cases d : kLt (.inr x.2) (.inr y.2) with
  | true =>
    have d : decide (x.2.cps.toList < y.2.cps.toList) = true := d
    show x.2.cps.toList < y.2.cps.toList
    exact of_decide_eq_true d
  | false =>
    have := kLt_tri d h3
    exact absurd (Sum.inr.inj this) h.2
theorem pe_sortI {a : Expr} {ta : TE} {p1 p2 p3 p4 : Pos} (hc : X.calm = true) (gl : Gl X "sorted") (ml : X.mg "sorted" = none) (gs : Gl X "set") (ms : X.mg "set" = none) (ha : PE X a ta)
    (na : starEach [a] X.env = (false, eval a X.env) :: starEach [] X.env := by rfl) : PE X (.Call (.Name "sorted" p1) [.Call (.Name "set" p2) [a] [] p3] [] p4) (tSortI X.K ta) where
  run pins s σ H Q I h := by
    refine Call_ (ld_blt I gl ml (show bootBuiltins "sorted" = some (.builtin "sorted") by decide +kernel) (PyProof.Rows.callWith_builtin1 (PyProof.Rows.args_cons ?_ rfl) rfl rfl))
    refine Call_ (ld_blt I gs ms boot_set (PyProof.Rows.callWith_type1 (PyProof.Rows.args_cons (thn (ha.run pins s σ H _ I h) fun v s1 z => PyProof.Rows.args_nil ?_) na) na rfl))
    obtain ⟨x, H1, I1, r1, l, ns, rfl, hq, few, q⟩ := z
    cases r1
    obtain ⟨its, r, pl, hz⟩ := I1.list hq
    obtain ⟨ln, at_⟩ := int_at r
    have sz : its.toArray.size = ns.length := by rw [List.size_toArray, ln]
    refine set_of_listG (knd := intKind X.prog X.w) (ks := ns) (I1.ok.hd hc) pl.isList sz.symm (fun i v hv => ?_) (by rw [sz]; unfold scanBound; omega) fun h' tk hs kp => PyProof.Rows.args_nil ?_
    · rw [List.getElem?_toArray] at hv
      obtain ⟨k, t, e1, e2⟩ := at_ i v hv
      exact ⟨k, e1, e2 ▸ intKind_is _ _ _ _, e2 ▸ rfl⟩
    · have I2 : Inv X pins σ H1 { s1 with heap := h', toks := tk } := I1.kept fun b o e => kp b o (Heap.lt_size e) e
      have hs : SetG (intKind X.prog X.w) ({ s1 with heap := h', toks := tk } : Shared).heap s1.heap.objs.size ns := hs
      generalize s1.heap.objs.size = sa at hs ⊢
      generalize ({ s1 with heap := h', toks := tk } : Shared) = s2 at hs I2 ⊢
      refine sortedG SrtO.swo_int hs (I2.ok.hd hc) sort_ints fun s' p c out zs k g os hp hg srt eo isk pm => ?_
      have okz : ∀ z ∈ zs, ∃ tk, z.1 = Value.int z.2 tk := fun z hz => by
        have h := isk z hz
        cases e : z.1 with
        | int i t =>
          rw [e] at h
          have h2 : i = z.2 := of_decide_eq_true h
          exact ⟨t, by rw [h2]⟩
        | _ =>
          rw [e] at h
          cases h
      have vals : Vals ((zs.map (·.2)).map V.int) out := by
        rw [eo]
        exact vals_ints zs okz
      have hn : H1 p = none := I2.hok.fresh hp
      have lz : ((zs.map (·.2)).map V.int).length ≤ sizeLine := by
        rw [List.length_map, pm.length_eq, sizeLine_eq]
        have := once_le (l := ns)
        omega
      have J : Inv X pins σ (upd H1 p (.lst ((zs.map (·.2)).map V.int))) { s2 with heap := s'.heap, gens := s'.gens, drawn := s'.drawn, toks := s'.toks } :=
        I2.call (ch := []) (Un.laid k hp hn) (I2.hok.laid k hp ⟨lz, out, c, vals, hg⟩) (by rw [g]; exact I2.bare) (fun _ z => nomatch z)
      have e : s' = { s2 with heap := s'.heap, gens := s'.gens, drawn := s'.drawn, toks := s'.toks } := by
        cases s'
        cases s2
        cases os
        rfl
      rw [e]
      refine ⟨.ref p, _, J, rfl, q _ p ?_ pm hn⟩
      have nd : (zs.map (·.2)).Nodup := pm.nodup_iff.mpr (once_nd ns)
      rw [eo] at srt
      exact ord_ints okz srt nd
theorem pe_sortS {a : Expr} {ta : TE} {p1 p2 p3 p4 : Pos} (hc : X.calm = true) (gl : Gl X "sorted") (ml : X.mg "sorted" = none) (gs : Gl X "set") (ms : X.mg "set" = none) (ha : PE X a ta)
    (na : starEach [a] X.env = (false, eval a X.env) :: starEach [] X.env := by rfl) : PE X (.Call (.Name "sorted" p1) [.Call (.Name "set" p2) [a] [] p3] [] p4) (tSortS X.K ta) where
  run pins s σ H Q I h := by
    refine Call_ (ld_blt I gl ml (show bootBuiltins "sorted" = some (.builtin "sorted") by decide +kernel) (PyProof.Rows.callWith_builtin1 (PyProof.Rows.args_cons ?_ rfl) rfl rfl))
    refine Call_ (ld_blt I gs ms boot_set (PyProof.Rows.callWith_type1 (PyProof.Rows.args_cons (thn (ha.run pins s σ H _ I h) fun v s1 z => PyProof.Rows.args_nil ?_) na) na rfl))
    obtain ⟨x, H1, I1, r1, l, ws, rfl, hq, few, q⟩ := z
    cases r1
    obtain ⟨its, r, pl, hz⟩ := I1.list hq
    obtain ⟨ln, at_⟩ := text_at r
    have sz : its.toArray.size = ws.length := by rw [List.size_toArray, ln]
    refine set_of_listG (knd := PySem.strKind X.prog X.w) (ks := ws) (I1.ok.hd hc) pl.isList sz.symm (fun i v hv => ?_) (by rw [sz]; unfold scanBound; omega) fun h' tk hs kp => PyProof.Rows.args_nil ?_
    · rw [List.getElem?_toArray] at hv
      obtain ⟨k, t, e1, e2⟩ := at_ i v hv
      exact ⟨k, e1, e2 ▸ strKind_is _ _ _ _, e2 ▸ rfl⟩
    · have I2 : Inv X pins σ H1 { s1 with heap := h', toks := tk } := I1.kept fun b o e => kp b o (Heap.lt_size e) e
      have hs : SetG (PySem.strKind X.prog X.w) ({ s1 with heap := h', toks := tk } : Shared).heap s1.heap.objs.size ws := hs
      generalize s1.heap.objs.size = sa at hs ⊢
      generalize ({ s1 with heap := h', toks := tk } : Shared) = s2 at hs I2 ⊢
      refine sortedG swo_text hs (I2.ok.hd hc) sort_texts fun s' p c out zs k g os hp hg srt eo isk pm => ?_
      have okz : ∀ z ∈ zs, ∃ tk, z.1 = Value.str z.2 tk := fun z hz => by
        have h := isk z hz
        exact is_text h
      have vals : Vals ((zs.map (·.2)).map V.str) out := by
        rw [eo]
        exact vals_texts zs okz
      have hn : H1 p = none := I2.hok.fresh hp
      have lz : ((zs.map (·.2)).map V.str).length ≤ sizeLine := by
        rw [List.length_map, pm.length_eq, sizeLine_eq]
        have := once_le (l := ws)
        omega
      have J : Inv X pins σ (upd H1 p (.lst ((zs.map (·.2)).map V.str))) { s2 with heap := s'.heap, gens := s'.gens, drawn := s'.drawn, toks := s'.toks } :=
        I2.call (ch := []) (Un.laid k hp hn) (I2.hok.laid k hp ⟨lz, out, c, vals, hg⟩) (by rw [g]; exact I2.bare) (fun _ z => nomatch z)
      have e : s' = { s2 with heap := s'.heap, gens := s'.gens, drawn := s'.drawn, toks := s'.toks } := by
        cases s'
        cases s2
        cases os
        rfl
      rw [e]
      refine ⟨.ref p, _, J, rfl, q _ p ?_ pm hn⟩
      have nd : (zs.map (·.2)).Nodup := pm.nodup_iff.mpr (once_nd ws)
      rw [eo] at srt
      exact ord_texts okz srt nd
end
end Gd
/-! lists of texts: == and != -/
namespace Gd
open PySem PySem.Spec PyProof.Rows L2
theorem dp_words {K : PySem.W.Frag} {H : Hp} : ∀ ws : List Str, DpAll K H (ws.map V.str) (ws.map .str)
  | [] => .nil
  | w :: r => .cons (.str w) (dp_words r)
theorem words_plain : ∀ ws : List Str, PyData.plainAll (ws.map .str) = true
  | [] => rfl
  | w :: r => by
    rw [List.map_cons, PyData.plainAll, words_plain r]
    rfl
theorem words_deep : ∀ ws : List Str, PyData.depthAll (ws.map .str) ≤ 1
  | [] => Nat.zero_le _
  | w :: r => by
    have := words_deep r
    rw [List.map_cons, PyData.depthAll]
    exact Nat.max_le.mpr ⟨by show PyData.depth (.str w) ≤ 1; rw [PyData.depth]; omega, this⟩
theorem words_eqv : ∀ ws zs : List Str, PyData.eqvAll (ws.map .str) (zs.map .str) = decide (ws = zs)
  | [], [] => rfl
  | [], _ :: _ => rfl
  | _ :: _, [] => rfl
  | w :: r, z :: q => by
    rw [List.map_cons, List.map_cons, PyData.eqvAll, words_eqv r q]
    show ((w == z) && decide (r = q)) = _
    by_cases e : w = z
    · subst e
      rw [beq_self_eq_true, Bool.true_and]
      exact decide_eq_decide.mpr ⟨fun h => by rw [h], fun h => (List.cons.inj h).2⟩
    · rw [show (w == z) = false from by simp [e], Bool.false_and, decide_eq_false fun h => e (List.cons.inj h).1]
def rEqW (K : PySem.W.Frag) : R2 := fun x y H Q => ∃ (a b : Addr) (ws zs : List Str), x = .ref a ∧ y = .ref b ∧ SqL K H a (ws.map V.str) ∧ SqL K H b (zs.map V.str) ∧ Q (.bl (decide (ws = zs))) H
def rNeW (K : PySem.W.Frag) : R2 := fun x y H Q => ∃ (a b : Addr) (ws zs : List Str), x = .ref a ∧ y = .ref b ∧ SqL K H a (ws.map V.str) ∧ SqL K H b (zs.map V.str) ∧ Q (.bl (!decide (ws = zs))) H
section
variable {X : Cx}
theorem op_eqW (hu : X.A.units + 64 < cLine) : OpR X (compareOp .Eq) (rEqW X.K) := by
  intro pins s σ H x y v u Q I rx ry h
  obtain ⟨a, b, ws, zs, rfl, rfl, ha, hb, q⟩ := h
  obtain ⟨as, r1⟩ := Dp.reads I (.list (ws.map .str)) _ v (.lst ha (dp_words ws)) rx
  obtain ⟨bs, r2⟩ := Dp.reads I (.list (zs.map .str)) _ u (.lst hb (dp_words zs)) ry
  have d1 : PyData.depth (.list (ws.map .str)) ≤ 2 := by
    have := words_deep ws
    rw [PyData.depth]
    omega
  refine SeqAt.eq_plain r1 r2 (words_plain ws) (words_plain zs) (by have := Nat.min_le_left (PyData.depth (.list (ws.map .str))) (PyData.depth (.list (zs.map .str))); omega) ⟨.bl _, H, I, rfl, ?_⟩
  rw [show PyData.eqv (.list (ws.map .str)) (.list (zs.map .str)) = PyData.eqvAll (ws.map .str) (zs.map .str) from rfl, words_eqv]
  exact q
theorem op_neW (hu : X.A.units + 64 < cLine) : OpR X (compareOp .NotEq) (rNeW X.K) := by
  intro pins s σ H x y v u Q I rx ry h
  obtain ⟨a, b, ws, zs, rfl, rfl, ha, hb, q⟩ := h
  obtain ⟨as, r1⟩ := Dp.reads I (.list (ws.map .str)) _ v (.lst ha (dp_words ws)) rx
  obtain ⟨bs, r2⟩ := Dp.reads I (.list (zs.map .str)) _ u (.lst hb (dp_words zs)) ry
  have d1 : PyData.depth (.list (ws.map .str)) ≤ 2 := by
    have := words_deep ws
    rw [PyData.depth]
    omega
  refine SeqAt.ne_plain r1 r2 (words_plain ws) (words_plain zs) (by have := Nat.min_le_left (PyData.depth (.list (ws.map .str))) (PyData.depth (.list (zs.map .str))); omega) ⟨.bl _, H, I, rfl, ?_⟩
  rw [show PyData.eqv (.list (ws.map .str)) (.list (zs.map .str)) = PyData.eqvAll (ws.map .str) (zs.map .str) from rfl, words_eqv]
  exact q
end
end Gd
/-! is_one_of, is_ascending -/
namespace Kn
open PySem PySem.Spec PyProof.Rows L2 Evl Gd Sn Qw
abbrev sOne : Stmt := topS 15
abbrev sAsc : Stmt := topS 13
abbrev nOne : List Str := ["value", "there"]
abbrev nAsc : List Str := ["keys", "one", "other"]
theorem scOne : FnScope nOne ["value", "there"] (defScope sOne) := ⟨rfl, rfl, rfl, by decide +kernel, rfl, by decide +kernel, by decide +kernel⟩
theorem scAsc : FnScope nAsc ["keys"] (defScope sAsc) := ⟨rfl, rfl, rfl, by decide +kernel, rfl, by decide +kernel, by decide +kernel⟩
/-- the numbers that are there, in a dict -/
def There (H : Hp) (d : Addr) (ns : List Int) : Prop := ∃ kvs, H d = some (.dK kvs) ∧ ∀ i : Int, (valV kvs (.inl i)).isSome = true ↔ i ∈ ns
theorem There.ex {H H' : Hp} {d : Addr} {ns : List Int} (h : There H d ns) (e : Ex H H') : There H' d ns := by
  obtain ⟨kvs, h1, h2⟩ := h
  exact ⟨kvs, e _ _ h1, h2⟩
def gOne (ns : List Int) (e : PyData) : Prop := ∃ i, e = .int i ∧ i ∈ ns
def spOne (K : PySem.W.Frag) : Sp := fun vs H Q _ => ∃ (D : Addr → Prop) (x : V) (e : PyData) (d : Addr) (ns : List Int), vs = [x, .ref d] ∧ Av K D H x e ∧ tame e = true ∧ There H d ns ∧ ∀ H' (b : Bool), Ex H H' → (b = true ↔ gOne ns e) → Q (.bl b) H'
/-- each is less than the next -/
theorem steps_pairwise {α : Type} {r : α → α → Prop} (tr : ∀ a b c, r a b → r b c → r a c) : ∀ {l : List α}, l.Pairwise r ↔ ∀ (i : Nat) a b, l[i]? = some a → l[i + 1]? = some b → r a b
  | [] => ⟨fun _ i a b h => by simp at h, fun _ => .nil⟩
  | [x] => ⟨fun _ i a b h g => by simp at g, fun _ => List.pairwise_singleton _ _⟩
  | x :: y :: l => by
    rw [List.pairwise_cons, steps_pairwise tr (l := y :: l)]
    constructor
    · rintro ⟨h1, h2⟩ i a b ha hb
      cases i with
      | zero =>
        cases ha
        cases hb
        exact h1 y List.mem_cons_self
      | succ i => exact h2 i a b ha hb
    · intro h
      have h2 : ∀ (i : Nat) a b, (y :: l)[i]? = some a → (y :: l)[i + 1]? = some b → r a b := fun i a b ha hb => h (i + 1) a b ha hb
      refine ⟨fun z hz => ?_, h2⟩
      have xy := h 0 x y rfl rfl
      have pw := (steps_pairwise tr (l := y :: l)).mpr h2
      rcases List.mem_cons.mp hz with rfl | hz
      · exact xy
      · exact tr _ _ _ xy ((List.pairwise_cons.mp pw).1 z hz)
theorem sLt_tr (a b c : Str) (h : sLt a b) (g : sLt b c) : sLt a c := by
  have h1 : kLt (.inr a) (.inr b) = true := decide_eq_true (show a.cps.toList < b.cps.toList from h)
  have h2 : kLt (.inr b) (.inr c) = true := decide_eq_true (show b.cps.toList < c.cps.toList from g)
  have h3 : decide (a.cps.toList < c.cps.toList) = true := kLt_tr h1 h2
  show a.cps.toList < c.cps.toList
  exact of_decide_eq_true h3
def spAscI (K : PySem.W.Frag) : Sp := fun vs H Q _ => ∃ (l : Addr) (ns : List Int), vs = [.ref l] ∧ H l = some (.lst (ns.map V.int)) ∧ ns.length ≤ 90000 ∧ ∀ H' (b : Bool), Ex H H' → (b = true ↔ ns.Pairwise (· < ·)) → Q (.bl b) H'
def spAscS (K : PySem.W.Frag) : Sp := fun vs H Q _ => ∃ (l : Addr) (ws : List Str), vs = [.ref l] ∧ H l = some (.lst (ws.map V.str)) ∧ ws.length ≤ 90000 ∧ ∀ H' (b : Bool), Ex H H' → (b = true ↔ ws.Pairwise sLt) → Q (.bl b) H'
theorem cut_tail {α : Type} {f : α → V} {ns : List α} : cutV (ns.map f) (some 1) none = ns.tail.map f := by
  unfold cutV
  have h1 : HT.sIx (ns.map f).length 0 (some ((1 : Nat) : Int)) = min 1 (ns.map f).length := HT.sIx_nat _ 0 1
  have h2 : HT.sIx (ns.map f).length (ns.map f).length none = (ns.map f).length := rfl
  rw [show (some (1 : Int)) = some ((1 : Nat) : Int) from rfl, h1, h2]
  cases ns with
  | nil => rfl
  | cons a r =>
    rw [List.length_map, List.length_cons, Nat.min_eq_left (by omega), List.map_cons, List.drop_one, List.tail_cons, List.tail_cons, List.take_of_length_le (by rw [List.length_map]; omega)]
section
variable {P : Program} {w : World} {K : PySem.W.Frag} {mg : Str → Option Value} {base : Heap}
theorem ok_one {f fI : Addr} {fd fdI : FuncData} (F : Fun K "is_one_of" "is_one_of" sOne f fd) (FI : Fun K "is_integer" "is_integer" sInt fI fdI) (bI : Binds K fdI ["value"] []) (gI : mg "is_integer" = some (.ref fI)) (GI : FnOk P w K mg base CX0 1 fI fdI ["value"] (spV K gInt)) : FnOk P w K mg base CX0 2 f fd ["value", "there"] (spOne K) := by
  refine F.ok scOne (fun vs H Q E h => ?_) (fun cdv A outer s H vs Q E hr h => ?_)
  · obtain ⟨D, x, e, d, ns, rfl, _⟩ := h
    rfl
  · obtain ⟨D, x, e, d, ns, rfl, av, tm, th, q⟩ := h
    have hu := hu_of hr
    refine ⟨_, pss_one (ps_ret (pe_and (pe_call GI hr (by rfl) gI FI.kp bI .nil pass0 (pa_cons (pv 0) pa_nil)) (pe_one (pe_cmp (pc_din hu (pv 0) (pv 1)))))), ?_⟩
    refine Says.ret (A := gInt e ∧ gOne ns e) (.and (says_call (at_var rfl av) tm) fun H1 x1 gi => ?_) fun H' b x1 hb => q H' b x1 (hb.trans ⟨fun z => z.2, fun z => ⟨⟨z.choose, z.choose_spec.1⟩, z⟩⟩)
    obtain ⟨i, rfl⟩ := gi
    obtain rfl := av.int_at
    obtain ⟨kvs, h1, h2⟩ := th.ex x1
    exact fun Q' q' => din_of (Sn.v_of rfl (Sn.v_of rfl ⟨d, _, rfl, DGet.k (k := Sum.inl i) h1, q' H1 _ (Ex.refl H1) ((h2 i).trans ⟨fun z => ⟨i, rfl, z⟩, fun ⟨j, e, z⟩ => by cases e; exact z⟩)⟩))
theorem asc_read {α : Type} {f : α → V} {r : α → α → Prop} [DecidableRel r] {rr : R2} (hrr : ∀ (a b : α) (H : Hp) (Q : VK), Q (.bl (decide (r a b))) H → rr (f a) (f b) H Q) {l : Addr} {ns : List α} {H : Hp} (hl : H l = some (.lst (ns.map f))) (few : ns.length ≤ 90000) :
    Says [some (.ref l), none, none] H (tCB (rAll K) (tCons (tLc (iZip K (tCons (tVar 0) (tCons (L2.tSl (rSlL K) (tVar 0) (tPart (tC (.int 1))) tNoPart) tNil))) (gTup K 2 (gCons (gName 1) (gCons (gName 2) gNil))) tYes (tOp rr (tVar 1) (tVar 2)) [1, 2]) tNil)) (∀ (i : Nat) a b, ns[i]? = some a → ns[i + 1]? = some b → r a b) := fun Q q => by
  refine Sn.cb_of (Sn.c_of (lc_of (Sn.c_of (Sn.v_of rfl (Sn.c_of (slS_of (Sn.v_of rfl (Sn.k_of ⟨1, rfl, l, _, rfl, sq_of hl, fun p hp => ?_⟩))))))))
  rw [cut_tail]
  have x1 : Ex H (upd H p (.lst (ns.tail.map f))) := Ex.new hp
  have hp1 : (upd H p (.lst (ns.tail.map f))) p = some (.lst (ns.tail.map f)) := upd_same
  have hl1 := x1 _ _ hl
  generalize upd H p (.lst (ns.tail.map f)) = H1 at x1 hp1 hl1 ⊢
  refine Sn.n_of ⟨l, p, _, _, rfl, sq_of hl1, sq_of hp1, fun D hD => ?_⟩
  refine lc_it (walk_zip (K := K) (a := l) (b := p) (xs := ns.map f) (ys := ns.tail.map f) (n := ns.length - 1) (by rw [List.length_map, List.length_map, List.length_tail]; omega)) (fun i H' => Ex H1 H' ∧ ∃ bs : List Bool, H' D = some (.lst (bs.map V.bl)) ∧ bs.length = i ∧ (bs.all id = true ↔ ∀ (j : Nat) a b, j < i → ns[j]? = some a → ns[j + 1]? = some b → r a b)) ⟨Ex.new hD, [], upd_same, rfl, ⟨fun _ j a b h => absurd h (Nat.not_lt_zero _), fun _ => rfl⟩⟩ (fun i H' _ h => ⟨sq_of (h.1 _ _ hl1), sq_of (h.1 _ _ hp1)⟩) ?_ ?_
  · rintro i x H2 H3 hi ⟨e, bs, hd, ln, iff⟩ ⟨T, u, v, rfl, hT, rfl, hu, hv⟩
    have hu : (ns.map f)[i]? = some u := hu
    have hv : (ns.tail.map f)[i]? = some v := hv
    rw [List.getElem?_map] at hu hv
    obtain ⟨a, ha, rfl⟩ := Option.map_eq_some_iff.mp hu
    obtain ⟨b, hb, rfl⟩ := Option.map_eq_some_iff.mp hv
    have hb : ns[i + 1]? = some b := by
      rw [List.getElem?_tail] at hb
      exact hb
    refine ⟨T, _, rfl, st_of upd_same, rfl, f a, _, rfl, f b, _, rfl, rfl, ?_⟩
    refine ⟨rfl, ?_⟩
    dsimp only [tYes]
    rw [if_pos rfl]
    have e3 : Ex H2 (upd H2 T (.tup [f a, f b])) := Ex.new hT
    have hd3 := e3 _ _ hd
    generalize upd H2 T (.tup [f a, f b]) = H4 at e3 hd3 ⊢
    refine Sn.op_of (Sn.v_of rfl (Sn.v_of rfl (hrr a b _ _ ⟨_, hd3, sz_lt (by rw [List.length_map]; omega), Ex.mut (e.trans e3) hD, bs ++ [decide (r a b)], by rw [upd_same, List.map_append]; rfl, by rw [List.length_append, ln]; rfl, ?_⟩)))
    rw [List.all_append, Bool.and_eq_true, iff]
    constructor
    · rintro ⟨h1, h2⟩ j a' b' hj ha' hb'
      by_cases c : j = i
      · subst c
        rw [ha] at ha'
        rw [hb] at hb'
        cases ha'
        cases hb'
        simpa using h2
      · exact h1 j a' b' (by omega) ha' hb'
    · intro h
      refine ⟨fun j a' b' hj => h j a' b' (by omega), ?_⟩
      have := h i a b (by omega) ha hb
      simpa using this
  · rintro H2 ⟨e, bs, hd, ln, iff⟩
    refine Sn.n_of ⟨D, bs, rfl, sq_of hd, q H2 _ (x1.trans e) (iff.trans ⟨fun h i a b ha hb => h i a b ?_ ha hb, fun h i a b _ => h i a b⟩)⟩
    have := (List.getElem?_eq_some_iff.mp hb).1
    omega
theorem ok_ascI {f : Addr} {fd : FuncData} (F : Fun K "is_ascending" "is_ascending" sAsc f fd) (mA : mg "all" = none) (mZ : mg "zip" = none) : FnOk P w K mg base CX0 1 f fd ["keys"] (spAscI K) := by
  refine F.ok scAsc (fun vs H Q E h => ?_) (fun cdv A outer s H vs Q E hr h => ?_)
  · obtain ⟨l, ns, rfl, _⟩ := h
    rfl
  · obtain ⟨l, ns, rfl, hl, few, q⟩ := h
    refine ⟨_, pss_one (ps_ret (pe_callB (cr_all rfl) (by rfl) mA (by decide +kernel) (pa_cons (pe_lc (own := [("one", 1), ("other", 2)]) (g := gTup K 2 (gCons (gName 1) (gCons (gName 2) gNil))) (tt := tYes) (te := tOp (rI0 fun i j => .bl (decide (i < j))) (tVar 1) (tVar 2)) rfl scAsc.nd (pi_zip (by rfl) mZ (pa_cons (pv 0) <| pa_cons (pe_slice sl_list (pv 0) (po_some pe_int) po_none) pa_nil)) (blkOk_by (N := nAsc) (sc := defScope sAsc) (by decide +kernel))
        (fun _ _ _ _ _ => pg_tup (n := 2) rfl (pgs_cons (pg_name (i := 1) scAsc.nd rfl (.inl rfl)) <| pgs_cons (pg_name (i := 2) scAsc.nd rfl (.inl rfl)) pgs_nil)) (fun _ _ _ _ _ => pts_nil) (fun _ _ _ _ _ => pe_cmpR op_lt (pv 1) (pv 2) (nomark _))) pa_nil))), ?_⟩
    exact Says.ret (asc_read (f := V.int) (r := (· < ·)) (fun a b H Q q => ⟨a, b, rfl, rfl, q⟩) hl few) fun H' b x1 hb => q H' b x1 (hb.trans (steps_pairwise (r := fun a b : Int => a < b) fun a b c h g => Int.lt_trans h g).symm)
theorem ok_ascS {f : Addr} {fd : FuncData} (F : Fun K "is_ascending" "is_ascending" sAsc f fd) (mA : mg "all" = none) (mZ : mg "zip" = none) : FnOk P w K mg base CX0 1 f fd ["keys"] (spAscS K) := by
  refine F.ok scAsc (fun vs H Q E h => ?_) (fun cdv A outer s H vs Q E hr h => ?_)
  · obtain ⟨l, ns, rfl, _⟩ := h
    rfl
  · obtain ⟨l, ns, rfl, hl, few, q⟩ := h
    have : DecidableRel sLt := fun a b => inferInstanceAs (Decidable (a.cps.toList < b.cps.toList))
    refine ⟨_, pss_one (ps_ret (pe_callB (cr_all rfl) (by rfl) mA (by decide +kernel) (pa_cons (pe_lc (own := [("one", 1), ("other", 2)]) (g := gTup K 2 (gCons (gName 1) (gCons (gName 2) gNil))) (tt := tYes) (te := tOp (fun x y H Q => ∃ i j, x = .str i ∧ y = .str j ∧ Q (.bl (decide (i.cps.toList < j.cps.toList))) H) (tVar 1) (tVar 2)) rfl scAsc.nd (pi_zip (by rfl) mZ (pa_cons (pv 0) <| pa_cons (pe_slice sl_list (pv 0) (po_some pe_int) po_none) pa_nil)) (blkOk_by (N := nAsc) (sc := defScope sAsc) (by decide +kernel))
        (fun _ _ _ _ _ => pg_tup (n := 2) rfl (pgs_cons (pg_name (i := 1) scAsc.nd rfl (.inl rfl)) <| pgs_cons (pg_name (i := 2) scAsc.nd rfl (.inl rfl)) pgs_nil)) (fun _ _ _ _ _ => pts_nil) (fun _ _ _ _ _ => pe_cmpR op_lt_str (pv 1) (pv 2) (nomark _))) pa_nil))), ?_⟩
    refine Says.ret (asc_read (f := V.str) (r := sLt) (fun a b H Q q => ⟨a, b, rfl, rfl, ?_⟩) hl few) fun H' b x1 hb => q H' b x1 (hb.trans (steps_pairwise sLt_tr).symm)
    have e : (decide (sLt a b)) = decide (a.cps.toList < b.cps.toList) := by
      by_cases c : a.cps.toList < b.cps.toList
      · rw [decide_eq_true c]
        exact decide_eq_true (show sLt a b from c)
      · rw [decide_eq_false c]
        exact decide_eq_false (show ¬ sLt a b from c)
    rw [e] at q
    exact q
end
end Kn
/-! is_head -/
namespace Kn
open PySem PySem.Spec PyProof.Rows L2 Evl Gd Sn Qw
abbrev sHead : Stmt := topS 14
abbrev nHead : List Str := ["value", "number", "home", "_", "parts"]
theorem scHead : FnScope nHead ["value"] (defScope sHead) := ⟨rfl, rfl, rfl, by decide +kernel, rfl, by decide +kernel, by decide +kernel⟩
def homesK : List Str := ["counted", "traced"]
def gHead (e : PyData) : Prop := ∃ (i : Int) (h : Str) (s : PyData) (ps : List PyData), e = .tuple [.int i, .str h, s, .tuple ps] ∧ 0 ≤ i ∧ h ∈ homesK
section
variable {K : PySem.W.Frag} {D : Addr → Prop} {σ : L2.St} {H : Hp} {e : PyData} {te tb : TE}
theorem says_inTx {p : Addr} {cs : List Str} (h : At K D σ H te e) (hb : ∀ Q : VK, (∀ H', Ex H H' → SqT K H' p (cs.map V.str) → Q (.ref p) H') → tb σ H Q) : Says σ H (tOp (rInTx K) te tb) (∃ z ∈ cs, e = .str z) := fun Q q =>
  Sn.op_of (h _ fun x a => hb _ fun H' y s => ⟨D, e, p, cs, a.kept y, rfl, s, q H' _ y (List.any_eq_true.trans ⟨fun ⟨z, m, z2⟩ => ⟨z, m, eqTx_iff.mp z2⟩, fun ⟨z, m, z2⟩ => ⟨z, m, eqTx_iff.mpr z2⟩⟩)⟩)
theorem says_eqTx {c : Str} (h : At K D σ H te e) : Says σ H (tOp (rEqTx K) te (tC (.str c))) (e = .str c) := fun Q q =>
  Sn.op_of (h _ fun x a => Sn.k_of ⟨D, e, c, a, rfl, q H _ (Ex.refl H) eqTx_iff⟩)
/-- a call of is_tuple_of -/
theorem says_tupof {k : Nat} {E : XK} (h : At K D σ H te e) (tm : tame e = true) : Says σ H (tCall (spTupOf K) [] E (tCons te (tCons (tC (.int k)) tNil))) (∃ ds, e = .tuple ds ∧ ds.length = k) := fun Q q =>
  Sn.call_of (Sn.c_of (h _ fun x a => Sn.c_of (Sn.k_of (Sn.n_of ⟨D, x, e, k, rfl, a, tm, q⟩))))
/-- a call of is_one_of -/
theorem says_one {i : Nat} {d : Addr} {ns : List Int} {E : XK} (h : At K D σ H te e) (tm : tame e = true) (hd : σ[i]? = some (some (.ref d))) (th : There H d ns) : Says σ H (tCall (spOne K) [] E (tCons te (tCons (tVar i) tNil))) (gOne ns e) := fun Q q =>
  Sn.call_of (Sn.c_of (h _ fun x a => Sn.c_of (Sn.v_of hd (Sn.n_of ⟨D, x, e, d, ns, rfl, a, tm, th, q⟩))))
theorem four {ds : List PyData} (h : ds.length = 4) : ∃ a b c d, ds = [a, b, c, d] := by
  match ds, h with
  | [a, b, c, d], _ => exact ⟨a, b, c, d, rfl⟩
theorem two {ds : List PyData} (h : ds.length = 2) : ∃ a b, ds = [a, b] := by
  match ds, h with
  | [a, b], _ => exact ⟨a, b, rfl⟩
theorem _root_.Sn.Av.four_at {x : V} {a b c d : PyData} (h : Av K D H x (.tuple [a, b, c, d])) : ∃ t x1 x2 x3 x4, x = .ref t ∧ H t = some (.tup [x1, x2, x3, x4]) ∧ Av K D H x1 a ∧ Av K D H x2 b ∧ Av K D H x3 c ∧ Av K D H x4 d := by
  obtain ⟨t, xs, rfl, _, ht, al⟩ := h.tup_at
  obtain ⟨x1, r1, rfl, a1, al⟩ := al.cons_at
  obtain ⟨x2, r2, rfl, a2, al⟩ := al.cons_at
  obtain ⟨x3, r3, rfl, a3, al⟩ := al.cons_at
  obtain ⟨x4, r4, rfl, a4, al⟩ := al.cons_at
  rw [al.nil_at] at ht
  exact ⟨t, x1, x2, x3, x4, rfl, ht, a1, a2, a3, a4⟩
theorem _root_.Sn.Av.two_at {x : V} {a b : PyData} (h : Av K D H x (.tuple [a, b])) : ∃ t x1 x2, x = .ref t ∧ H t = some (.tup [x1, x2]) ∧ Av K D H x1 a ∧ Av K D H x2 b := by
  obtain ⟨t, xs, rfl, _, ht, al⟩ := h.tup_at
  obtain ⟨x1, r1, rfl, a1, al⟩ := al.cons_at
  obtain ⟨x2, r2, rfl, a2, al⟩ := al.cons_at
  rw [al.nil_at] at ht
  exact ⟨t, x1, x2, rfl, ht, a1, a2⟩
end
section
variable {P : Program} {w : World} {K : PySem.W.Frag} {mg : Str → Option Value} {base : Heap} {dH : Addr}
theorem ok_head {f fI fT : Addr} {fd fdI fdT : FuncData} (F : Fun K "is_head" "is_head" sHead f fd) (FI : Fun K "is_integer" "is_integer" sInt fI fdI) (FT : Fun K "is_tuple_of" "is_tuple_of" sTupOf fT fdT) (bI : Binds K fdI ["value"] []) (bT : Binds K fdT ["value", "many"] []) (gI : mg "is_integer" = some (.ref fI)) (gT : mg "is_tuple_of" = some (.ref fT)) (gH : mg "HOMES" = some (.ref dH)) (hH : ∀ H, SqT K H dH (homesK.map V.str)) (mI : mg "isinstance" = none) (mT : mg "tuple" = none)
    (GI : FnOk P w K mg base CX0 1 fI fdI ["value"] (spV K gInt)) (GT : FnOk P w K mg base CX0 1 fT fdT ["value", "many"] (spTupOf K)) : FnOk P w K mg base CX0 2 f fd ["value"] (spV K gHead) := by
  refine F.ok scHead (fun vs H Q E h => ?_) (fun cdv A outer s H vs Q E hr h => ?_)
  · obtain ⟨D, x, e, rfl, _⟩ := h
    rfl
  · obtain ⟨D, x, e, rfl, av, tm, q⟩ := h
    refine ⟨_, pss_cons (ps_if (pt_not (pt_val (pe_call GT hr (by rfl) gT FT.kp bT .nil pass0 (pa_cons (pv 0) <| pa_cons pe_int pa_nil)))) (pss_one (ps_ret pe_bl)) pss_nil) <|
      pss_cons (ps_asg (pv 0) (pg_tup (n := 4) rfl (pgs_cons (pg_name (i := 1) scHead.nd rfl (.inl rfl)) <| pgs_cons (pg_name (i := 2) scHead.nd rfl (.inl rfl)) <| pgs_cons (pg_name (i := 3) scHead.nd rfl (.inl rfl)) <| pgs_cons (pg_name (i := 4) scHead.nd rfl (.inl rfl)) pgs_nil))) <|
      pss_one (ps_ret (pe_and (pe_call GI hr (by rfl) gI FI.kp bI .nil pass0 (pa_cons (pv 1) pa_nil)) <| pe_and (pe_cmpR op_ge (pv 1) pe_int (nomark _)) <| pe_and (pe_cmpR (op_inTx hr.units) (pv 2) (pe_glob (v := .ref dH) (by rfl) gH rfl) (by rfl)) <| pe_one (pe_callB call_isi (by rfl) mI (by decide +kernel) (pa_cons (pv 4) (pa_cons (pe_bltn (v := .ty "tuple") (by rfl) mT (by decide +kernel) rfl) pa_nil))))), ?_⟩
    refine Sn.seq_of (SaysT.ifS (SaysT.not (Says.val (says_tupof (at_var rfl av) tm))) (fun H1 x1 a => ?_) fun H1 x1 a => ?_)
    · refine Sn.ret_of (Sn.k_of (q H1 false x1 (f_iff ?_)))
      rintro ⟨i, h, s, ps, rfl, _⟩
      exact a ⟨_, rfl, rfl⟩
    dsimp only [tNext]
    obtain ⟨ds, rfl, l4⟩ := Classical.not_not.mp a
    obtain ⟨e1, e2, e3, e4, rfl⟩ := four l4
    have t4 := (tame_tup tm).1
    obtain ⟨t, y1, y2, y3, y4, rfl, ht, a1, a2, a3, a4⟩ := (av.kept x1).four_at
    refine Sn.seq_of (Sn.asgG_of (Sn.v_of rfl ⟨t, _, rfl, st_of ht, rfl, y1, _, rfl, y2, _, rfl, y3, _, rfl, y4, _, rfl, rfl, ?_⟩))
    dsimp only [gName]
    refine Says.ret (A := gInt e1 ∧ (∀ i, e1 = .int i → 0 ≤ i) ∧ (∃ z ∈ homesK, e2 = .str z) ∧ isTup e4 = true) (.and (says_call (at_var rfl a1) (t4 _ (by simp))) fun H2 x2 g1 => .and ?_ fun H3 x3 _ => .and (says_inTx (at_var rfl ((a2.kept x2).kept x3)) fun Q' q' => Sn.k_of (q' _ (Ex.refl _) (hH _))) fun H4 x4 _ => says_isi kit_tup (at_var rfl (((a4.kept x2).kept x3).kept x4))) fun H5 b x5 hb => q H5 b (x1.trans x5) (hb.trans ?_)
    · obtain ⟨i, rfl⟩ := g1
      obtain rfl := a1.int_at
      exact fun Q' q' => Sn.op_of (Sn.v_of rfl (Sn.k_of ⟨i, 0, rfl, rfl, q' H2 _ (Ex.refl H2) (b_iff.trans ⟨fun z j e => by cases e; exact z, fun z => z i rfl⟩)⟩))
    · constructor
      · rintro ⟨⟨i, rfl⟩, h0, ⟨z, hz, rfl⟩, it⟩
        obtain ⟨ps, rfl⟩ := tup_iff.mp it
        exact ⟨i, z, e3, ps, rfl, h0 i rfl, hz⟩
      · rintro ⟨i, h, s, ps, e, h0, hz⟩
        cases e
        exact ⟨⟨i, rfl⟩, fun j e => (by cases e; exact h0), ⟨h, hz, rfl⟩, rfl⟩
end
end Kn
/-! are_slots, are_entries -/
namespace Kn
open PySem PySem.Spec PyProof.Rows L2 Evl Gd Sn Qw
abbrev sSlots : Stmt := topS 17
abbrev sEnts : Stmt := topS 18
abbrev nSlots : List Str := ["parts", "there", "part"]
theorem scSlots : FnScope nSlots ["parts", "there"] (defScope sSlots) := ⟨rfl, rfl, rfl, by decide +kernel, rfl, by decide +kernel, by decide +kernel⟩
theorem scEnts : FnScope nSlots ["parts", "there"] (defScope sEnts) := ⟨rfl, rfl, rfl, by decide +kernel, rfl, by decide +kernel, by decide +kernel⟩
/-- the key ahead in a part -/
def keyP : PyData → Int
  | .tuple (.int k :: _) => k
  | _ => 0
def gSlot (ns : List Int) (p : PyData) : Prop := ∃ k v, p = .tuple [.int k, .int v] ∧ 0 ≤ k ∧ k < 6 ∧ v ∈ ns
def gSlots (ns : List Int) (ps : List PyData) : Prop := (∀ p ∈ ps, gSlot ns p) ∧ (ps.map keyP).Pairwise (· < ·)
def gEnt (ns : List Int) (p : PyData) : Prop := ∃ k v, p = .tuple [.int k, v] ∧ k ∈ ns ∧ (v = .none ∨ gOne ns v)
def gEnts (ns : List Int) (ps : List PyData) : Prop := (∀ p ∈ ps, gEnt ns p) ∧ (ps.map keyP).Pairwise (· < ·)
/-- a look at parts -/
def spPs (K : PySem.W.Frag) (G : List Int → List PyData → Prop) : Sp := fun vs H Q _ => ∃ (D : Addr → Prop) (x : V) (ps : List PyData) (d : Addr) (ns : List Int), vs = [x, .ref d] ∧ Av K D H x (.tuple ps) ∧ tame (.tuple ps) = true ∧ There H d ns ∧ ∀ H' (b : Bool), Ex H H' → (b = true ↔ G ns ps) → Q (.bl b) H'
section
variable {K : PySem.W.Frag} {D : Addr → Prop} {σ : L2.St} {H : Hp}
/-- [row[0] for row in rows] -/
theorem firsts_read {α : Type} {f : α → V} {dt : α → PyData} {key : PyData → α} {i j : Nat} {x : V} {ps : List PyData} (hf : ∀ {H' : Hp} {y : V} {a : α}, Av K D H' y (dt a) → y = f a) (e : σ[i]? = some (some x)) (av : Av K D H x (.tuple ps)) (hk : ∀ p ∈ ps, ∃ r, p = .tuple (dt (key p) :: r)) (few : ps.length ≤ 90000) (hw : ∀ y : V, wipe ((wipe σ [j]).set j (some y)) [j] = wipe σ [j]) (hj : ∀ y : V, ((wipe σ [j]).set j (some y))[j]? = some (some y)) {Q : VK}
    (q : ∀ H' p, Ex H H' → H' p = some (.lst ((ps.map key).map f)) → Q (.ref p) H') : tLc (iTup K (tVar i)) (gName j) tYes (tOp (rIxT K) (tVar j) (tC (.int 0))) [j] σ H Q := by
  obtain ⟨t, xs, rfl, _, ht, al⟩ := av.tup_at
  have ll := al.len
  refine lc_of (iT_of (Sn.v_of e ⟨t, rfl, ⟨_, st_of ht⟩, fun B hB => lc_tup (xs := xs) (fun m H' => Ex H H' ∧ H' B = some (.lst (((ps.take m).map key).map f))) ⟨Ex.new hB, upd_same⟩ (fun m H' _ h => st_of (h.1 _ _ ht)) ?_ ?_⟩))
  · rintro m y H' hy ⟨e', hb⟩
    have il := (List.getElem?_eq_some_iff.mp hy).1
    obtain ⟨p, hp, ap⟩ := al.get hy
    obtain ⟨r, ep⟩ := hk p (List.mem_of_getElem? hp)
    rw [ep] at ap
    refine ⟨hw y, ?_⟩
    dsimp only [tYes]
    rw [if_pos rfl]
    refine at_item (k := 0) (d := dt (key p)) (hj y) (ap.kept e') rfl _ fun v av => ?_
    rw [hf av]
    refine ⟨_, hb, sz_lt (by rw [List.length_map, List.length_map, List.length_take]; omega), Ex.mut e' hB, ?_⟩
    rw [upd_same, take_one hp, List.map_append, List.map_append]
    rfl
  · rintro H' ⟨e', hb⟩
    rw [ll, List.take_length] at hb
    exact q H' B e' hb
theorem item_chain {i k : Nat} {x : V} {ds : List PyData} {m a b : Int} {tb : TE} (h : σ[i]? = some (some x)) (av : Av K D H x (.tuple ds)) (g : ds[k]? = some (.int m)) (hb : ∀ Q : VK, Q (.int b) H → tb σ H Q) :
    Says σ H (tChain (rI0 fun i j => .bl (decide (i ≤ j))) (rI0 fun i j => .bl (decide (i < j))) (tC (.int a)) (tOp (rIxT K) (tVar i) (tC (.int k))) tb) (a ≤ m ∧ m < b) := fun Q q =>
  chain_of (Sn.k_of (at_item h av g _ fun y ay => by
    obtain rfl := ay.int_at
    refine ⟨_, _, rfl, rfl, _, rfl, ?_⟩
    by_cases c : a ≤ m
    · rw [decide_eq_true c, if_pos rfl]
      exact hb _ ⟨_, _, rfl, rfl, q H _ (Ex.refl H) (b_iff.trans ⟨fun z => ⟨c, z⟩, fun z => z.2⟩)⟩
    · rw [decide_eq_false c, if_neg Bool.false_ne_true]
      exact q H false (Ex.refl H) (f_iff fun z => c z.1)))
end
section
variable {P : Program} {w : World} {K : PySem.W.Frag} {mg : Str → Option Value} {base : Heap}
theorem ok_slots {f fI fT fO fA : Addr} {fd fdI fdT fdO fdA : FuncData} (F : Fun K "are_slots" "are_slots" sSlots f fd) (FI : Fun K "is_integer" "is_integer" sInt fI fdI) (FT : Fun K "is_tuple_of" "is_tuple_of" sTupOf fT fdT) (FO : Fun K "is_one_of" "is_one_of" sOne fO fdO) (FA : Fun K "is_ascending" "is_ascending" sAsc fA fdA)
    (bI : Binds K fdI ["value"] []) (bT : Binds K fdT ["value", "many"] []) (bO : Binds K fdO ["value", "there"] []) (bA : Binds K fdA ["keys"] []) (gI : mg "is_integer" = some (.ref fI)) (gT : mg "is_tuple_of" = some (.ref fT)) (gO : mg "is_one_of" = some (.ref fO)) (gA : mg "is_ascending" = some (.ref fA)) (gS : ∃ t, mg "SLOTS" = some (.int 6 t))
    (GI' : FnOk P w K mg base CX0 1 fI fdI ["value"] (spV K gInt)) (GT' : FnOk P w K mg base CX0 1 fT fdT ["value", "many"] (spTupOf K)) (GO : FnOk P w K mg base CX0 2 fO fdO ["value", "there"] (spOne K)) (GA' : FnOk P w K mg base CX0 1 fA fdA ["keys"] (spAscI K)) : FnOk P w K mg base CX0 3 f fd ["parts", "there"] (spPs K gSlots) := by
  have GI : FnOk P w K mg base CX0 2 fI fdI ["value"] (spV K gInt) := GI'.mono (by decide)
  have GT : FnOk P w K mg base CX0 2 fT fdT ["value", "many"] (spTupOf K) := GT'.mono (by decide)
  have GA : FnOk P w K mg base CX0 2 fA fdA ["keys"] (spAscI K) := GA'.mono (by decide)
  obtain ⟨ts, gs⟩ := gS
  refine F.ok scSlots (fun vs H Q E h => ?_) (fun cdv A outer s H vs Q E hr h => ?_)
  · obtain ⟨D, x, ps, d, ns, rfl, _⟩ := h
    rfl
  · obtain ⟨D, x, ps, d, ns, rfl, av, tm, th, q⟩ := h
    refine ⟨_, pss_cons (ps_for PassesOwn.never rfl (pi_tup (pv 0)) (pg_name (i := 2) scSlots.nd rfl (.inl rfl))
        (pss_cons (ps_if (pt_not (pt_val (pe_call GT hr (by rfl) gT FT.kp bT .nil pass0 (pa_cons (pv 2) <| pa_cons pe_int pa_nil)))) (pss_one (ps_ret pe_bl)) pss_nil) <|
         pss_one (ps_if (pw_or (pt_not (pt_val (pe_call GI hr (by rfl) gI FI.kp bI .nil pass0 (pa_cons (pe_ix ix_tup (pv 2) pe_int (fun _ _ => rfl)) pa_nil)))) (pw_or (pt_not (pt_chain op_le op_lt pe_int (pe_ix ix_tup (pv 2) pe_int (fun _ _ => rfl)) (pe_glob (v := .int 6) (by rfl) gs ⟨ts, rfl⟩))) (pw_or1 (pt_not (pt_val (pe_call GO hr (by rfl) gO FO.kp bO .nil pass0 (pa_cons (pe_ix ix_tup (pv 2) pe_int (fun _ _ => rfl)) <| pa_cons (pv 1) pa_nil))))))).pt (pss_one (ps_ret pe_bl)) pss_nil))) <|
      pss_one (ps_ret (pe_call GA hr (by rfl) gA FA.kp bA .nil pass0 (pa_cons (pe_lc (own := [("part", 2)]) (g := gName 2) (tt := tYes) (te := tOp (rIxT K) (tVar 2) (tC (.int 0))) rfl scSlots.nd (pi_tup (pv 0)) (blkOk_by (N := nSlots) (sc := defScope sSlots) (by decide +kernel))
        (fun _ _ _ _ _ => pg_name (i := 2) scSlots.nd rfl (.inl rfl)) (fun _ _ _ _ _ => pts_nil) (fun _ _ _ _ _ => pe_ix ix_tup (pv 2) pe_int (fun _ _ => rfl))) pa_nil))), ?_⟩
    obtain ⟨tp, few⟩ := tame_tup tm
    obtain ⟨t, xs, rfl, _, ht, al⟩ := av.tup_at
    have ll := al.len
    refine Sn.seq_of (for_of (iT_of (Sn.v_of rfl ⟨t, rfl, ⟨_, st_of ht⟩, for_it (walk_tup (K := K) (a := t) (xs := xs)) (fun i σ' H' => ∃ y, σ' = [some (.ref t), some (.ref d), y] ∧ Ex H H' ∧ ∀ (j : Nat) p, j < i → ps[j]? = some p → gSlot ns p) ⟨none, rfl, Ex.refl H, fun j p h => absurd h (Nat.not_lt_zero _)⟩ (fun i σ' H' _ ⟨_, _, e, _⟩ => st_of (e _ _ ht)) ?_ ?_⟩)))
    · rintro i y σ' H1 H2 hi ⟨y2, rfl, e1, before⟩ ⟨rfl, hy⟩
      obtain ⟨p, hp, ap⟩ := al.get hy
      have ap1 := ap.kept e1
      have tmp := tp p (List.mem_of_getElem? hp)
      dsimp only [gName]
      have bad : ¬ gSlot ns p → ∀ H', Ex H H' → Q (.bl false) H' := fun n H' e => q H' false e (f_iff fun z => n (z.1 p (List.mem_of_getElem? hp)))
      refine Sn.seq_of (SaysT.ifS (SaysT.not (Says.val (says_tupof (at_var rfl ap1) tmp))) (fun H3 x3 a => ?_) fun H3 x3 a => ?_)
      · refine Sn.ret_of (Sn.k_of (bad ?_ H3 (e1.trans x3)))
        rintro ⟨k, v, rfl, _⟩
        exact a ⟨_, rfl, rfl⟩
      dsimp only [tNext]
      obtain ⟨ds, rfl, l2⟩ := Classical.not_not.mp a
      obtain ⟨p1, p2, rfl⟩ := two l2
      have ap3 := ap1.kept x3
      have tds := (tame_tup tmp).1
      refine SaysT.ifS (A := ¬ gInt p1 ∨ (¬ ∀ k, p1 = .int k → 0 ≤ k ∧ k < 6) ∨ ¬ gOne ns p2) (.or (SaysT.not (Says.val (says_call (at_item (k := 0) rfl ap3 rfl) (tds _ (by simp))))) fun H4 x4 n1 => .or (SaysT.not ?_) fun H5 x5 n2 => SaysT.not (Says.val (says_one (at_item (k := 1) rfl ((ap3.kept x4).kept x5) rfl) (tds _ (by simp)) rfl (((th.ex (e1.trans x3)).ex x4).ex x5)))) (fun H4 x4 a => ?_) fun H4 x4 a => ?_
      · obtain ⟨k, rfl⟩ := Classical.not_not.mp n1
        exact SaysT.imp (Says.test (item_chain (k := 0) rfl (ap3.kept x4) rfl fun Q' q' => Sn.k_of q')) ⟨fun z j e => (by cases e; exact z), fun z => z k rfl⟩
      · refine Sn.ret_of (Sn.k_of (bad ?_ H4 ((e1.trans x3).trans x4)))
        rintro ⟨k, v, e, h0, h6, hv⟩
        cases e
        rcases a with a | a | a
        · exact a ⟨k, rfl⟩
        · exact a fun j e => by cases e; exact ⟨h0, h6⟩
        · exact a ⟨v, rfl, hv⟩
      · obtain ⟨b1, b⟩ := not_or.mp a
        obtain ⟨b2, b3⟩ := not_or.mp b
        obtain ⟨k, rfl⟩ := Classical.not_not.mp b1
        obtain ⟨h0, h6⟩ := Classical.not_not.mp b2 k rfl
        obtain ⟨v, rfl, hv⟩ := Classical.not_not.mp b3
        refine ⟨_, rfl, (e1.trans x3).trans x4, fun j p' hj hpj => ?_⟩
        by_cases c : j = i
        · subst c
          rw [hp] at hpj
          cases hpj
          exact ⟨k, v, rfl, h0, h6, hv⟩
        · exact before j p' (by omega) hpj
    · rintro σ' H1 ⟨y, rfl, e1, all⟩
      have ok : ∀ p ∈ ps, gSlot ns p := fun p hp => by
        obtain ⟨j, hj⟩ := List.mem_iff_getElem?.mp hp
        exact all j p (by rw [ll]; exact (List.getElem?_eq_some_iff.mp hj).1) hj
      dsimp only
      refine Sn.ret_of (Sn.call_of (Sn.c_of (firsts_read (f := V.int) (dt := PyData.int) (key := keyP) (j := 2) (fun a => a.int_at) rfl (av.kept e1) (fun p hp => ?_) few (fun _ => rfl) (fun _ => rfl) fun H2 l x2 hl => Sn.n_of ⟨l, _, rfl, hl, by rw [List.length_map]; exact few, fun H' b e hb => q H' b ((e1.trans x2).trans e) (hb.trans ⟨fun z => ⟨ok, z⟩, fun z => z.2⟩)⟩)))
      obtain ⟨k, v, rfl, _⟩ := ok p hp
      exact ⟨_, rfl⟩
end
end Kn
/-! are_entries, fits_sort -/
namespace Kn
open PySem PySem.Spec PyProof.Rows L2 Evl Gd Sn Qw
abbrev sFits : Stmt := topS 16
abbrev nFits : List Str := ["sort", "parts", "there", "target"]
theorem scFits : FnScope nFits ["sort", "parts", "there"] (defScope sFits) := ⟨rfl, rfl, rfl, by decide +kernel, rfl, by decide +kernel, by decide +kernel⟩
def gFits (ns : List Int) (s : PyData) (ps : List PyData) : Prop := (s = .str "weak" ∧ ps.length ≤ 1 ∧ ∀ p ∈ ps, gOne ns p) ∨ (s = .str "record" ∧ gSlots ns ps) ∨ (s = .str "map" ∧ gEnts ns ps)
def spFits (K : PySem.W.Frag) : Sp := fun vs H Q _ => ∃ (D : Addr → Prop) (y x : V) (s : PyData) (ps : List PyData) (d : Addr) (ns : List Int), vs = [y, x, .ref d] ∧ Av K D H y s ∧ tame s = true ∧ Av K D H x (.tuple ps) ∧ tame (.tuple ps) = true ∧ There H d ns ∧ ∀ H' (b : Bool), Ex H H' → (b = true ↔ gFits ns s ps) → Q (.bl b) H'
section
variable {K : PySem.W.Frag} {D : Addr → Prop} {σ : L2.St} {H : Hp} {e : PyData} {te : TE}
theorem non_iff {x : V} (a : Av K D H x e) : x = .non ↔ e = .none := by
  cases a <;> simp
theorem says_notN (h : At K D σ H te e) : Says σ H (tOp (fun x y H Q => y = .non ∧ Q (.bl (!decide (x = .non))) H) te (tC .non)) (¬ e = .none) := fun Q q =>
  Sn.op_of (h _ fun x a => Sn.k_of ⟨rfl, q H _ (Ex.refl H) (nb_iff.trans ⟨fun z y => z ((non_iff a).mpr y), fun z y => z ((non_iff a).mp y)⟩)⟩)
/-- all([.. for p in parts]) -/
theorem says_allV {el : TE} {j : Nat} {ps : List PyData} {G : PyData → Prop} (ht : ∀ Q : VK, (∀ t xs, H t = some (.tup xs) → AvAll K D H xs ps → Q (.ref t) H) → te σ H Q) (few : ps.length ≤ 90000) (hw : ∀ y : V, wipe ((wipe σ [j]).set j (some y)) [j] = wipe σ [j])
    (he : ∀ H' y p, Ex H H' → p ∈ ps → Av K D H' y p → Says ((wipe σ [j]).set j (some y)) H' el (G p)) : Says σ H (tCB (rAll K) (tCons (tLc (iTup K te) (gName j) tYes el [j]) tNil)) (∀ p ∈ ps, G p) := fun Q q =>
  Sn.cb_of (Sn.c_of (lc_of (iT_of (ht _ fun t xs ht al => ⟨t, rfl, ⟨_, st_of ht⟩, fun B hB => by
    have ll := al.len
    refine lc_tup (xs := xs) (fun m H' => Ex H H' ∧ ∃ bs : List Bool, H' B = some (.lst (bs.map V.bl)) ∧ bs.length = m ∧ m ≤ ps.length ∧ (bs.all id = true ↔ ∀ p ∈ ps.take m, G p)) ⟨Ex.new hB, [], upd_same, rfl, Nat.zero_le _, ⟨fun _ p hp => (by simp at hp), fun _ => rfl⟩⟩ (fun m H' _ h => st_of (h.1 _ _ ht)) ?_ ?_
    · rintro m y H' hy ⟨e', bs, hb, ln, le, iff⟩
      obtain ⟨p, hp, ap⟩ := al.get hy
      have il := (List.getElem?_eq_some_iff.mp hp).1
      refine ⟨hw y, ?_⟩
      dsimp only [tYes]
      rw [if_pos rfl]
      refine he H' y p e' (List.mem_of_getElem? hp) (ap.kept e') _ fun H2 b x2 hb2 => ?_
      refine ⟨bs.map V.bl, x2 _ _ hb, sz_lt (by rw [List.length_map]; omega), Ex.mut (e'.trans x2) hB, bs ++ [b], by rw [upd_same, List.map_append]; rfl, by rw [List.length_append, ln]; rfl, il, ?_⟩
      rw [List.all_append, Bool.and_eq_true, iff, take_one hp]
      constructor
      · rintro ⟨a, c⟩ v hv
        rcases List.mem_append.mp hv with hv | hv
        · exact a v hv
        · rw [List.mem_singleton.mp hv]
          exact hb2.mp (by simpa using c)
      · exact fun a => ⟨fun v hv => a v (List.mem_append_left _ hv), by have := hb2.mpr (a p (by simp)); simp [this]⟩
    · rintro H2 ⟨e2, bs, hb, ln, le, iff⟩
      rw [ll, List.take_length] at iff
      exact Sn.n_of ⟨B, bs, rfl, sq_of hb, q H2 _ e2 iff⟩⟩))))
end
section
variable {P : Program} {w : World} {K : PySem.W.Frag} {mg : Str → Option Value} {base : Heap}
theorem ok_ents {f fT fO fA : Addr} {fd fdT fdO fdA : FuncData} (F : Fun K "are_entries" "are_entries" sEnts f fd) (FT : Fun K "is_tuple_of" "is_tuple_of" sTupOf fT fdT) (FO : Fun K "is_one_of" "is_one_of" sOne fO fdO) (FA : Fun K "is_ascending" "is_ascending" sAsc fA fdA)
    (bT : Binds K fdT ["value", "many"] []) (bO : Binds K fdO ["value", "there"] []) (bA : Binds K fdA ["keys"] []) (gT : mg "is_tuple_of" = some (.ref fT)) (gO : mg "is_one_of" = some (.ref fO)) (gA : mg "is_ascending" = some (.ref fA))
    (GT' : FnOk P w K mg base CX0 1 fT fdT ["value", "many"] (spTupOf K)) (GO : FnOk P w K mg base CX0 2 fO fdO ["value", "there"] (spOne K)) (GA' : FnOk P w K mg base CX0 1 fA fdA ["keys"] (spAscI K)) : FnOk P w K mg base CX0 3 f fd ["parts", "there"] (spPs K gEnts) := by
  have GT : FnOk P w K mg base CX0 2 fT fdT ["value", "many"] (spTupOf K) := GT'.mono (by decide)
  have GA : FnOk P w K mg base CX0 2 fA fdA ["keys"] (spAscI K) := GA'.mono (by decide)
  refine F.ok scEnts (fun vs H Q E h => ?_) (fun cdv A outer s H vs Q E hr h => ?_)
  · obtain ⟨D, x, ps, d, ns, rfl, _⟩ := h
    rfl
  · obtain ⟨D, x, ps, d, ns, rfl, av, tm, th, q⟩ := h
    refine ⟨_, pss_cons (ps_for PassesOwn.never rfl (pi_tup (pv 0)) (pg_name (i := 2) scEnts.nd rfl (.inl rfl))
        (pss_cons (ps_if (pw_or (pt_not (pt_val (pe_call GT hr (by rfl) gT FT.kp bT .nil pass0 (pa_cons (pv 2) <| pa_cons pe_int pa_nil)))) (pw_or1 (pt_not (pt_val (pe_call GO hr (by rfl) gO FO.kp bO .nil pass0 (pa_cons (pe_ix ix_tup (pv 2) pe_int (fun _ _ => rfl)) <| pa_cons (pv 1) pa_nil)))))).pt (pss_one (ps_ret pe_bl)) pss_nil) <|
         pss_one (ps_if (pw_and (pt_cmpR op_notN (pe_ix ix_tup (pv 2) pe_int (fun _ _ => rfl)) pe_non (nomark _)) (pw_and1 (pt_not (pt_val (pe_call GO hr (by rfl) gO FO.kp bO .nil pass0 (pa_cons (pe_ix ix_tup (pv 2) pe_int (fun _ _ => rfl)) <| pa_cons (pv 1) pa_nil)))))).pt (pss_one (ps_ret pe_bl)) pss_nil))) <|
      pss_one (ps_ret (pe_call GA hr (by rfl) gA FA.kp bA .nil pass0 (pa_cons (pe_lc (own := [("part", 2)]) (g := gName 2) (tt := tYes) (te := tOp (rIxT K) (tVar 2) (tC (.int 0))) rfl scEnts.nd (pi_tup (pv 0)) (blkOk_by (N := nSlots) (sc := defScope sEnts) (by decide +kernel))
        (fun _ _ _ _ _ => pg_name (i := 2) scEnts.nd rfl (.inl rfl)) (fun _ _ _ _ _ => pts_nil) (fun _ _ _ _ _ => pe_ix ix_tup (pv 2) pe_int (fun _ _ => rfl))) pa_nil))), ?_⟩
    obtain ⟨tp, few⟩ := tame_tup tm
    obtain ⟨t, xs, rfl, _, ht, al⟩ := av.tup_at
    have ll := al.len
    refine Sn.seq_of (for_of (iT_of (Sn.v_of rfl ⟨t, rfl, ⟨_, st_of ht⟩, for_it (walk_tup (K := K) (a := t) (xs := xs)) (fun i σ' H' => ∃ y, σ' = [some (.ref t), some (.ref d), y] ∧ Ex H H' ∧ ∀ (j : Nat) p, j < i → ps[j]? = some p → gEnt ns p) ⟨none, rfl, Ex.refl H, fun j p h => absurd h (Nat.not_lt_zero _)⟩ (fun i σ' H' _ ⟨_, _, e, _⟩ => st_of (e _ _ ht)) ?_ ?_⟩)))
    · rintro i y σ' H1 H2 hi ⟨y2, rfl, e1, before⟩ ⟨rfl, hy⟩
      obtain ⟨p, hp, ap⟩ := al.get hy
      have ap1 := ap.kept e1
      have tmp := tp p (List.mem_of_getElem? hp)
      dsimp only [gName]
      have bad : ¬ gEnt ns p → ∀ H', Ex H H' → Q (.bl false) H' := fun n H' e => q H' false e (f_iff fun z => n (z.1 p (List.mem_of_getElem? hp)))
      refine Sn.seq_of (SaysT.ifS (A := (¬ ∃ ds, p = .tuple ds ∧ ds.length = 2) ∨ ¬ ∀ a b, p = .tuple [a, b] → gOne ns a) (.or (SaysT.not (Says.val (says_tupof (at_var rfl ap1) tmp))) fun H3 x3 a => ?_) (fun H3 x3 a => ?_) fun H3 x3 a => ?_)
      · obtain ⟨ds, rfl, l2⟩ := Classical.not_not.mp a
        obtain ⟨p1, p2, rfl⟩ := two l2
        exact SaysT.imp (SaysT.not (Says.val (says_one (at_item (k := 0) rfl (ap1.kept x3) rfl) ((tame_tup tmp).1 _ (by simp)) rfl ((th.ex e1).ex x3)))) ⟨fun z y => z (y p1 p2 rfl), fun z y => z fun a b e => (by cases e; exact y)⟩
      · refine Sn.ret_of (Sn.k_of (bad ?_ H3 (e1.trans x3)))
        rintro ⟨k, v, rfl, hk, _⟩
        rcases a with a | a
        · exact a ⟨_, rfl, rfl⟩
        · exact a fun a b e => by cases e; exact ⟨k, rfl, hk⟩
      dsimp only [tNext]
      obtain ⟨b1, b2⟩ := not_or.mp a
      obtain ⟨ds, rfl, l2⟩ := Classical.not_not.mp b1
      obtain ⟨p1, p2, rfl⟩ := two l2
      obtain ⟨k, rfl, hk⟩ := Classical.not_not.mp b2 p1 p2 rfl
      have ap3 := ap1.kept x3
      refine SaysT.ifS (.and (Says.test (says_notN (at_item (k := 1) rfl ap3 rfl))) fun H4 x4 _ => SaysT.not (Says.val (says_one (at_item (k := 1) rfl (ap3.kept x4) rfl) ((tame_tup tmp).1 _ (by simp)) rfl (((th.ex e1).ex x3).ex x4)))) (fun H4 x4 a => ?_) fun H4 x4 a => ?_
      · refine Sn.ret_of (Sn.k_of (bad ?_ H4 ((e1.trans x3).trans x4)))
        rintro ⟨k', v, e, _, hv⟩
        cases e
        exact hv.elim a.1 a.2
      · refine ⟨_, rfl, (e1.trans x3).trans x4, fun j p' hj hpj => ?_⟩
        by_cases c : j = i
        · subst c
          rw [hp] at hpj
          cases hpj
          refine ⟨k, p2, rfl, hk, ?_⟩
          by_cases n : p2 = .none
          · exact .inl n
          · exact .inr (Classical.byContradiction fun z => a ⟨n, z⟩)
        · exact before j p' (by omega) hpj
    · rintro σ' H1 ⟨y, rfl, e1, all⟩
      have ok : ∀ p ∈ ps, gEnt ns p := fun p hp => by
        obtain ⟨j, hj⟩ := List.mem_iff_getElem?.mp hp
        exact all j p (by rw [ll]; exact (List.getElem?_eq_some_iff.mp hj).1) hj
      dsimp only
      refine Sn.ret_of (Sn.call_of (Sn.c_of (firsts_read (f := V.int) (dt := PyData.int) (key := keyP) (j := 2) (fun a => a.int_at) rfl (av.kept e1) (fun p hp => ?_) few (fun _ => rfl) (fun _ => rfl) fun H2 l x2 hl => Sn.n_of ⟨l, _, rfl, hl, by rw [List.length_map]; exact few, fun H' b e hb => q H' b ((e1.trans x2).trans e) (hb.trans ⟨fun z => ⟨ok, z⟩, fun z => z.2⟩)⟩)))
      obtain ⟨k, v, rfl, _⟩ := ok p hp
      exact ⟨_, rfl⟩
theorem ok_fits {f fO fS fE : Addr} {fd fdO fdS fdE : FuncData} (F : Fun K "fits_sort" "fits_sort" sFits f fd) (FO : Fun K "is_one_of" "is_one_of" sOne fO fdO) (FS : Fun K "are_slots" "are_slots" sSlots fS fdS) (FE : Fun K "are_entries" "are_entries" sEnts fE fdE)
    (bO : Binds K fdO ["value", "there"] []) (bS : Binds K fdS ["parts", "there"] []) (bE : Binds K fdE ["parts", "there"] []) (gO : mg "is_one_of" = some (.ref fO)) (gS : mg "are_slots" = some (.ref fS)) (gE : mg "are_entries" = some (.ref fE)) (mL : mg "len" = none) (mA : mg "all" = none)
    (GO' : FnOk P w K mg base CX0 2 fO fdO ["value", "there"] (spOne K)) (GS : FnOk P w K mg base CX0 3 fS fdS ["parts", "there"] (spPs K gSlots)) (GE : FnOk P w K mg base CX0 3 fE fdE ["parts", "there"] (spPs K gEnts)) : FnOk P w K mg base CX0 4 f fd ["sort", "parts", "there"] (spFits K) := by
  have GO : FnOk P w K mg base CX0 3 fO fdO ["value", "there"] (spOne K) := GO'.mono (by decide)
  refine F.ok scFits (fun vs H Q E h => ?_) (fun cdv A outer s H vs Q E hr h => ?_)
  · obtain ⟨D, y, x, s', ps, d, ns, rfl, _⟩ := h
    rfl
  · obtain ⟨D, y, x, s', ps, d, ns, rfl, as, tms, av, tm, th, q⟩ := h
    have hu := hu_of hr
    refine ⟨_, pss_cons (ps_if (pt_cmpR (op_eqTx (Nat.lt_of_le_of_lt (Nat.le_add_right _ 1) hu)) (pv 0) pe_str (nomark _)) (pss_one (ps_ret (pe_and (pe_cmpR op_le (pe_callB call_len_seq (by rfl) mL PySem.boot_len (pa_cons (pv 1) pa_nil)) pe_int (nomark _)) (pe_one (pe_callB (cr_all rfl) (by rfl) mA (by decide +kernel) (pa_cons (pe_lc (own := [("target", 3)]) (g := gName 3) (tt := tYes) (te := tCall (spOne K) [] E0 (tCons (tVar 3) (tCons (tVar 2) tNil))) rfl scFits.nd (pi_tup (pv 1)) (blkOk_by (N := nFits) (sc := defScope sFits) (by decide +kernel))
        (fun _ _ _ _ _ => pg_name (i := 3) scFits.nd rfl (.inl rfl)) (fun _ _ _ _ _ => pts_nil) (fun _ _ _ _ _ => pe_call GO hr (by rfl) gO FO.kp bO .nil pass0 (pa_cons (pv 3) <| pa_cons (pv 2) pa_nil))) pa_nil)))))) pss_nil) <|
      pss_cons (ps_if (pt_cmpR (op_eqTx (Nat.lt_of_le_of_lt (Nat.le_add_right _ 1) hu)) (pv 0) pe_str (nomark _)) (pss_one (ps_ret (pe_call GS hr (by rfl) gS FS.kp bS .nil pass0 (pa_cons (pv 1) <| pa_cons (pv 2) pa_nil)))) pss_nil) <|
      pss_one (ps_ret (pe_and (pe_cmpR (op_eqTx (Nat.lt_of_le_of_lt (Nat.le_add_right _ 1) hu)) (pv 0) pe_str (nomark _)) (pe_one (pe_call GE hr (by rfl) gE FE.kp bE .nil pass0 (pa_cons (pv 1) <| pa_cons (pv 2) pa_nil))))), ?_⟩
    obtain ⟨tp, few⟩ := tame_tup tm
    obtain ⟨t, xs, rfl, _, ht, al⟩ := id av.tup_at
    have ll := al.len
    have ps_call : ∀ {G : List Int → List PyData → Prop} {σ : L2.St} {H' : Hp}, Ex H H' → σ[1]? = some (some (.ref t)) → σ[2]? = some (some (.ref d)) → Says σ H' (tCall (spPs K G) [] E0 (tCons (tVar 1) (tCons (tVar 2) tNil))) (G ns ps) := fun {G σ H'} e e1 e2 Q' q' =>
      Sn.call_of (Sn.c_of (Sn.v_of e1 (Sn.c_of (Sn.v_of e2 (Sn.n_of ⟨D, .ref t, ps, d, ns, rfl, av.kept e, tm, th.ex e, q'⟩)))))
    refine Sn.seq_of (SaysT.ifS (Says.test (says_eqTx (at_var rfl as))) (fun H1 x1 a => ?_) fun H1 x1 n1 => ?_)
    · subst a
      refine Says.ret (A := ps.length ≤ 1 ∧ ∀ p ∈ ps, gOne ns p) (.and (fun Q' q' => Sn.op_of (Sn.cb_of (Sn.c_of (Sn.v_of rfl (Sn.n_of ⟨t, xs, rfl, .inr (st_of (x1 _ _ ht)), Sn.k_of ⟨_, _, rfl, rfl, q' H1 _ (Ex.refl H1) (b_iff.trans (by omega))⟩⟩))))) fun H2 x2 _ => says_allV (fun Q' q' => Sn.v_of rfl (q' t xs ((x1.trans x2) _ _ ht) (al.kept (x1.trans x2)))) few (fun _ => rfl) fun H' y' p e' hp ap => says_one (at_var rfl ap) (tp p hp) rfl (th.ex ((x1.trans x2).trans e'))) fun H2 b x2 hb => q H2 b (x1.trans x2) (hb.trans ⟨fun z => .inl ⟨rfl, z⟩, ?_⟩)
      rintro (⟨_, z⟩ | ⟨e, _⟩ | ⟨e, _⟩)
      · exact z
      · exact absurd (PyData.str.inj e) (by decide +kernel)
      · exact absurd (PyData.str.inj e) (by decide +kernel)
    dsimp only [tNext]
    refine Sn.seq_of (SaysT.ifS (Says.test (says_eqTx (at_var rfl (as.kept x1)))) (fun H2 x2 a => ?_) fun H2 x2 n2 => ?_)
    · subst a
      refine Says.ret (ps_call (x1.trans x2) rfl rfl) fun H3 b x3 hb => q H3 b ((x1.trans x2).trans x3) (hb.trans ⟨fun z => .inr (.inl ⟨rfl, z⟩), ?_⟩)
      rintro (⟨e, _⟩ | ⟨_, z⟩ | ⟨e, _⟩)
      · exact absurd (PyData.str.inj e) (by decide +kernel)
      · exact z
      · exact absurd (PyData.str.inj e) (by decide +kernel)
    dsimp only [tNext]
    refine Says.ret (.and (says_eqTx (at_var rfl ((as.kept x1).kept x2))) fun H3 x3 _ => ps_call ((x1.trans x2).trans x3) rfl rfl) fun H3 b x3 hb => q H3 b ((x1.trans x2).trans x3) (hb.trans ⟨fun z => .inr (.inr z), ?_⟩)
    rintro (⟨e, _⟩ | ⟨e, _⟩ | z)
    · exact absurd e n1
    · exact absurd e n2
    · exact z
end
end Kn
/-! grip_root, is_root -/
namespace Kn
open PySem PySem.Spec PyProof.Rows L2 Evl Gd Sn Qw
abbrev sGrip : Stmt := topS 20
abbrev sRoot : Stmt := topS 19
abbrev nGrip : List Str := ["grip", "number"]
abbrev nRoot : List Str := ["value", "there", "root", "number", "grip"]
theorem scGrip : FnScope nGrip ["grip", "number"] (defScope sGrip) := ⟨rfl, rfl, rfl, by decide +kernel, rfl, by decide +kernel, by decide +kernel⟩
theorem scRoot : FnScope nRoot ["value", "there"] (defScope sRoot) := ⟨rfl, rfl, rfl, by decide +kernel, rfl, by decide +kernel, by decide +kernel⟩
def grips3 : List Str := ["pin", "hold", "queue"]
def gripK (g : Str) (i : Int) : Str := g ++ (" " : Str) ++ ((toString i : String) : Str)
theorem empty_app (g : Str) : Str.empty ++ g = g := TL.ext_tl (by rw [TL.tl_append, show TL.tl Str.empty = [] from by decide +kernel]; rfl)
theorem inV_texts {z : Str} : ∀ zs : List Str, inV (.str z) (zs.map V.str) = decide (z ∈ zs)
  | [] => by simp [inV]
  | g :: zs => by
    have ih := inV_texts (z := z) zs
    unfold inV at ih ⊢
    rw [List.map_cons, List.any_cons, ih]
    show (decide (g = z) || decide (z ∈ zs)) = decide (z ∈ g :: zs)
    by_cases e : g = z
    · subst e
      simp
    · have e2 : ¬ z = g := fun q => e q.symm
      by_cases m : z ∈ zs
      · simp [m]
      · simp [m, e, e2]
theorem texts_flat (zs : List Str) : (zs.map V.str).all flatV = true := by
  rw [List.all_map]
  exact List.all_eq_true.mpr fun _ _ => rfl
def spGrip : Sp := fun vs H Q _ => ∃ (g : Str) (i : Int), vs = [.str g, .int i] ∧ g ∈ grips3 ∧ i.natAbs.log2 < 1900 ∧ Q (.str (gripK g i)) H
def gRoot (ns : List Int) (e : PyData) : Prop := ∃ (z : Str) (i : Int), e = .tuple [.str z, .int i] ∧ i ∈ ns ∧ (nameB z = true ∨ ∃ g ∈ grips3, z = gripK g i)
def spRoot (K : PySem.W.Frag) : Sp := fun vs H Q _ => ∃ (D : Addr → Prop) (x : V) (e : PyData) (d : Addr) (ns : List Int), vs = [x, .ref d] ∧ Av K D H x e ∧ tame e = true ∧ There H d ns ∧ ∀ H' (b : Bool), Ex H H' → (b = true ↔ gRoot ns e) → Q (.bl b) H'
theorem grip_len : ∀ g ∈ grips3, g.length ≤ 5 := by decide +kernel
section
variable {P : Program} {w : World} {K : PySem.W.Frag} {mg : Str → Option Value} {base : Heap} {dG : Addr}
theorem ok_grip {f : Addr} {fd : FuncData} (F : Fun K "grip_root" "grip_root" sGrip f fd) : FnOk P w K mg base CX0 1 f fd ["grip", "number"] spGrip := by
  refine F.ok scGrip (fun vs H Q E h => ?_) (fun cdv A outer s H vs Q E hr h => ?_)
  · obtain ⟨g, i, rfl, _⟩ := h
    rfl
  · obtain ⟨g, i, rfl, hg, hi, q⟩ := h
    refine ⟨_, pss_one (ps_ret (pe_joined (PJ.cons (pe_fmt (pv 0)) (PJ.cons pe_str (PJ.cons (pe_fmt (pv 1)) PJ.nil))))), ?_⟩
    have l1 := grip_len g hg
    have l2 : (((toString i : String) : Str)).length ≤ 2000 := by
      rw [PySem.ofString_length]
      have := int_text_length_le (k := 1900) (by decide) hi
      omega
    have e1 : (Str.empty ++ g).length ≤ sizeLine := by
      rw [empty_app, sizeLine_eq]
      omega
    have l3 : (" " : Str).length = 1 := by decide +kernel
    have e2 : (Str.empty ++ g ++ (" " : Str)).length ≤ sizeLine := by
      rw [empty_app, Str.length_append, sizeLine_eq, l3]
      omega
    have e3 : (Str.empty ++ g ++ (" " : Str) ++ ((toString i : String) : Str)).length ≤ sizeLine := by
      rw [empty_app, Str.length_append, Str.length_append, sizeLine_eq, l3]
      omega
    have e4 : Q (.str (Str.empty ++ g ++ (" " : Str) ++ ((toString i : String) : Str))) H := by
      rw [empty_app]
      exact q
    exact ⟨_, rfl, .inl ⟨g, rfl, by rw [sizeLine_eq]; omega, g, rfl, e1, _, rfl, e2, _, rfl, .inr ⟨i, rfl, by omega, _, rfl, e3, e4⟩⟩⟩
theorem ok_root {f fT fO fN fG : Addr} {fd fdT fdO fdN fdG : FuncData} {dT : Addr} (F : Fun K "is_root" "is_root" sRoot f fd) (FT : Fun K "is_tuple_of" "is_tuple_of" sTupOf fT fdT) (FO : Fun K "is_one_of" "is_one_of" sOne fO fdO) (FN : Fun K "is_name" "is_name" sIsName fN fdN) (FG : Fun K "grip_root" "grip_root" sGrip fG fdG)
    (bT : Binds K fdT ["value", "many"] []) (bO : Binds K fdO ["value", "there"] []) (bN : Binds K fdN ["word"] []) (bG : Binds K fdG ["grip", "number"] []) (gT : mg "is_tuple_of" = some (.ref fT)) (gO : mg "is_one_of" = some (.ref fO)) (gN : mg "is_name" = some (.ref fN)) (gG : mg "grip_root" = some (.ref fG)) (gD : mg "GRIPS" = some (.ref dG)) (hD : ∀ H, SqT K H dG (grips3.map V.str)) (mI : mg "isinstance" = none) (mS : mg "str" = none)
    (GT' : FnOk P w K mg base CX0 1 fT fdT ["value", "many"] (spTupOf K)) (GO : FnOk P w K mg base CX0 2 fO fdO ["value", "there"] (spOne K)) (GN' : FnOk P w K mg base CX0 1 fN fdN ["word"] spIsName) : FnOk P w K mg base CX0 3 f fd ["value", "there"] (spRoot K) := by
  have GT : FnOk P w K mg base CX0 2 fT fdT ["value", "many"] (spTupOf K) := GT'.mono (by decide)
  have GN : FnOk P w K mg base CX0 2 fN fdN ["word"] spIsName := GN'.mono (by decide)
  have GG : FnOk P w K mg base CX0 2 fG fdG ["grip", "number"] spGrip := (ok_grip FG).mono (by decide)
  refine F.ok scRoot (fun vs H Q E h => ?_) (fun cdv A outer s H vs Q E hr h => ?_)
  · obtain ⟨D, x, e, d, ns, rfl, _⟩ := h
    rfl
  · obtain ⟨D, x, e, d, ns, rfl, av, tm, th, q⟩ := h
    have hu := hu_of hr
    refine ⟨_, pss_cons (ps_if (pw_or (pt_not (pt_val (pe_call GT hr (by rfl) gT FT.kp bT .nil pass0 (pa_cons (pv 0) <| pa_cons pe_int pa_nil)))) (pw_or1 (pt_not (pt_val (pe_callB call_isi (by rfl) mI (by decide +kernel) (pa_cons (pe_ix ix_tup (pv 0) pe_int (fun _ _ => rfl)) (pa_cons (pe_bltn (v := .ty "str") (by rfl) mS (by decide +kernel) rfl) pa_nil))))))).pt (pss_one (ps_ret pe_bl)) pss_nil) <|
      pss_cons (ps_asg (pv 0) (pg_tup (n := 2) rfl (pgs_cons (pg_name (i := 2) scRoot.nd rfl (.inl rfl)) <| pgs_cons (pg_name (i := 3) scRoot.nd rfl (.inr rfl)) pgs_nil))) <|
      pss_cons (ps_if (pt_not (pt_val (pe_call GO hr (by rfl) gO FO.kp bO .nil pass0 (pa_cons (pv 3) <| pa_cons (pv 1) pa_nil)))) (pss_one (ps_ret pe_bl)) pss_nil) <|
      pss_one (ps_ret (pe_or (pe_call GN hr (by rfl) gN FN.kp bN .nil pass0 (pa_cons (pv 2) pa_nil)) (pe_one (pe_cmpR op_in_seq (pv 2) (pe_lc (own := [("grip", 4)]) (g := gName 4) (tt := tYes) (te := tCall spGrip [] E0 (tCons (tVar 4) (tCons (tVar 3) tNil))) rfl scRoot.nd (pi_tup (pe_glob (v := .ref dG) (by rfl) gD rfl)) (blkOk_by (N := nRoot) (sc := defScope sRoot) (by decide +kernel))
        (fun _ _ _ _ _ => pg_name (i := 4) scRoot.nd rfl (.inl rfl)) (fun _ _ _ _ _ => pts_nil) (fun _ _ _ _ _ => pe_call GG hr (by rfl) gG FG.kp bG .nil pass0 (pa_cons (pv 4) <| pa_cons (pv 3) pa_nil))) (by rfl))))), ?_⟩
    have nt : ¬ (∃ z o, e = .tuple [.str z, o]) → ∀ H', Ex H H' → Q (.bl false) H' := fun n H' y => q H' false y (f_iff fun ⟨z, i, h, _⟩ => n ⟨z, _, h⟩)
    refine Sn.seq_of (SaysT.ifS (A := ¬ ∃ z o, e = .tuple [.str z, o]) (SaysT.imp (.or (SaysT.not (Says.val (says_tupof (at_var rfl av) tm))) (B := ¬ ∃ z r, e = .tuple (.str z :: r)) fun H1 x1 a => ?_) ⟨fun h => ?_, fun h => ?_⟩) (fun H1 x1 a => ?_) fun H1 x1 a => ?_)
    · obtain ⟨ds, rfl, l2⟩ := Classical.not_not.mp a
      obtain ⟨a1, a2, rfl⟩ := two l2
      refine SaysT.imp (SaysT.not (Says.val (says_isi kit_str (at_item (k := 0) rfl (av.kept x1) rfl)))) ⟨fun z ⟨z1, r, e⟩ => ?_, fun z y => ?_⟩
      · cases e
        exact z rfl
      · obtain ⟨z1, rfl⟩ := str_iff.mp y
        exact z ⟨z1, _, rfl⟩
    · rintro ⟨z, o, rfl⟩
      rcases h with h | h
      · exact h ⟨_, rfl, rfl⟩
      · exact h ⟨_, _, rfl⟩
    · refine (Classical.em _).elim .inr fun c => .inl ?_
      rintro ⟨ds, rfl, l2⟩
      obtain ⟨a1, a2, rfl⟩ := two l2
      obtain ⟨z, r, e⟩ := Classical.not_not.mp c
      cases e
      exact h ⟨_, _, rfl⟩
    · exact Sn.ret_of (Sn.k_of (nt a H1 x1))
    dsimp only [tNext]
    obtain ⟨z, o, rfl⟩ := Classical.not_not.mp a
    obtain ⟨t, y1, y2, rfl, ht, a1, a2⟩ := (av.kept x1).two_at
    obtain rfl := a1.str_at
    have tmo := (tame_tup tm).1 o (by simp)
    have tmz := tame_str ((tame_tup tm).1 (.str z) (by simp))
    refine Sn.seq_of (Sn.asgG_of (Sn.v_of rfl ⟨t, _, rfl, st_of ht, rfl, _, _, rfl, y2, _, rfl, rfl, ?_⟩))
    dsimp only [gName]
    refine Sn.seq_of (SaysT.ifS (SaysT.not (Says.val (says_one (i := 1) (at_var rfl a2) tmo rfl (th.ex x1)))) (fun H2 x2 b => ?_) fun H2 x2 b => ?_)
    · exact Sn.ret_of (Sn.k_of (q H2 false (x1.trans x2) (f_iff fun ⟨z', i, e, hi, _⟩ => b (by cases e; exact ⟨i, rfl, hi⟩))))
    dsimp only [tNext]
    obtain ⟨i, rfl, hi⟩ := Classical.not_not.mp b
    obtain rfl := a2.int_at
    have li : i.natAbs.log2 < 1900 := of_decide_eq_true (by rw [tame] at tmo; exact tmo)
    refine Says.ret (A := nameB z = true ∨ ∃ g ∈ grips3, z = gripK g i) (.or (fun Q' q' => Sn.call_of (Sn.c_of (Sn.v_of rfl (Sn.n_of ⟨z, rfl, tmz, q' H2 _ (Ex.refl H2) Iff.rfl⟩)))) fun H3 x3 _ => fun Q' q' => ?_) fun H3 b' x3 hb => q H3 b' ((x1.trans x2).trans x3) (hb.trans ⟨fun y => ⟨z, i, rfl, hi, y⟩, fun ⟨z', i', e, _, y⟩ => by cases e; exact y⟩)
    refine Sn.op_of (Sn.v_of rfl (lc_of (iT_of (Sn.k_of ⟨dG, rfl, ⟨_, hD _⟩, fun B hB => ?_⟩))))
    refine lc_tup (xs := grips3.map V.str) (fun m H' => Ex H3 H' ∧ H' B = some (.lst ((grips3.take m).map fun g => V.str (gripK g i)))) ⟨Ex.new hB, upd_same⟩ (fun m H' _ h => hD _) ?_ ?_
    · rintro m y H' hy ⟨e', hb⟩
      rw [List.getElem?_map] at hy
      obtain ⟨g, hg, rfl⟩ := Option.map_eq_some_iff.mp hy
      refine ⟨rfl, ?_⟩
      dsimp only [tYes]
      rw [if_pos rfl]
      refine Sn.call_of (Sn.c_of (Sn.v_of rfl (Sn.c_of (Sn.v_of rfl (Sn.n_of ⟨g, i, rfl, List.mem_of_getElem? hg, li, _, hb, sz_lt (by rw [List.length_map, List.length_take, show grips3.length = 3 from rfl]; omega), Ex.mut e' hB, ?_⟩)))))
      rw [upd_same, take_one hg, List.map_append]
      rfl
    · rintro H4 ⟨e4, hb⟩
      rw [List.length_map, List.take_length] at hb
      have e5 : (grips3.map fun g => V.str (gripK g i)) = (grips3.map fun g => gripK g i).map V.str := by rw [List.map_map]; rfl
      rw [e5] at hb
      refine ⟨B, _, rfl, .inl (sq_of hb), rfl, texts_flat _, q' H4 _ e4 ?_⟩
      rw [if_neg (by decide), inV_texts]
      refine decide_eq_true_iff.trans (List.mem_map.trans ⟨fun ⟨g, m, e⟩ => ⟨g, m, e.symm⟩, fun ⟨g, m, e⟩ => ⟨g, m, e.symm⟩⟩)
end
end Kn
/-! is_snapshot -/
namespace Kn
open PySem PySem.Spec PyProof.Rows L2 Evl Gd Sn Qw
abbrev sSnap : Stmt := topS 11
abbrev nSnap : List Str := ["value", "part", "roots", "objects", "row", "there"]
theorem scSnap : FnScope nSnap ["value"] (defScope sSnap) := ⟨rfl, rfl, rfl, by decide +kernel, rfl, by decide +kernel, by decide +kernel⟩
/-- the name ahead in a row -/
def keyS : PyData → Str
  | .tuple (.str z :: _) => z
  | _ => Str.empty
def gSort (ns : List Int) (o : PyData) : Prop := ∀ i h s ps, o = .tuple [i, h, s, .tuple ps] → gFits ns s ps
def gSnap (e : PyData) : Prop := ∃ rs os, e = .tuple [.tuple rs, .tuple os] ∧ os.length ≤ 400 ∧ (∀ o ∈ os, gHead o) ∧ (os.map keyP).Pairwise (· < ·) ∧ (∀ o ∈ os, gSort (os.map keyP) o) ∧ (∀ r ∈ rs, gRoot (os.map keyP) r) ∧ (rs.map keyS).Pairwise sLt
theorem take_key {os : List PyData} {m : Nat} {o : PyData} (h : os[m]? = some o) {k : Int} : k ∈ (os.take (m + 1)).map keyP ↔ k ∈ (os.take m).map keyP ∨ k = keyP o := by
  rw [take_one h, List.map_append, List.mem_append]
  simp
section
variable {P : Program} {w : World} {K : PySem.W.Frag} {mg : Str → Option Value} {base : Heap}
theorem ok_snap {f fT fH fA fF fR : Addr} {fd fdT fdH fdA fdF fdR : FuncData} (F : Fun K "is_snapshot" "is_snapshot" sSnap f fd) (FT : Fun K "is_tuple_of" "is_tuple_of" sTupOf fT fdT) (FH : Fun K "is_head" "is_head" sHead fH fdH) (FA : Fun K "is_ascending" "is_ascending" sAsc fA fdA) (FF : Fun K "fits_sort" "fits_sort" sFits fF fdF) (FR : Fun K "is_root" "is_root" sRoot fR fdR)
    (bT : Binds K fdT ["value", "many"] []) (bH : Binds K fdH ["value"] []) (bA : Binds K fdA ["keys"] []) (bF : Binds K fdF ["sort", "parts", "there"] []) (bR : Binds K fdR ["value", "there"] []) (gT : mg "is_tuple_of" = some (.ref fT)) (gH : mg "is_head" = some (.ref fH)) (gA : mg "is_ascending" = some (.ref fA)) (gF : mg "fits_sort" = some (.ref fF)) (gR : mg "is_root" = some (.ref fR)) (gM : ∃ t, mg "MOST_OBJECTS" = some (.int 400 t)) (mI : mg "isinstance" = none) (mT : mg "tuple" = none) (mL : mg "len" = none) (mA : mg "all" = none)
    (GT' : FnOk P w K mg base CX0 1 fT fdT ["value", "many"] (spTupOf K)) (GH' : FnOk P w K mg base CX0 2 fH fdH ["value"] (spV K gHead)) (GI' : FnOk P w K mg base CX0 1 fA fdA ["keys"] (spAscI K)) (GS' : FnOk P w K mg base CX0 1 fA fdA ["keys"] (spAscS K)) (GF : FnOk P w K mg base CX0 4 fF fdF ["sort", "parts", "there"] (spFits K)) (GR' : FnOk P w K mg base CX0 3 fR fdR ["value", "there"] (spRoot K)) : FnOk P w K mg base CX0 5 f fd ["value"] (spV K gSnap) := by
  have GT : FnOk P w K mg base CX0 4 fT fdT ["value", "many"] (spTupOf K) := GT'.mono (by decide)
  have GH : FnOk P w K mg base CX0 4 fH fdH ["value"] (spV K gHead) := GH'.mono (by decide)
  have GI : FnOk P w K mg base CX0 4 fA fdA ["keys"] (spAscI K) := GI'.mono (by decide)
  have GS : FnOk P w K mg base CX0 4 fA fdA ["keys"] (spAscS K) := GS'.mono (by decide)
  have GR : FnOk P w K mg base CX0 4 fR fdR ["value", "there"] (spRoot K) := GR'.mono (by decide)
  obtain ⟨tM, hM⟩ := gM
  refine F.ok scSnap (fun vs H Q E h => ?_) (fun cdv A outer s H vs Q E hr h => ?_)
  · obtain ⟨D, x, e, rfl, _⟩ := h
    rfl
  · obtain ⟨D, x, e, rfl, av, tm, q⟩ := h
    have hu := hu_of hr
    refine ⟨_, pss_cons (ps_if (pw_or (pt_not (pt_val (pe_call GT hr (by rfl) gT FT.kp bT .nil pass0 (pa_cons (pv 0) <| pa_cons pe_int pa_nil)))) (pw_or1 (pt_not (pt_val (pe_callB (cr_all rfl) (by rfl) mA (by decide +kernel) (pa_cons (pe_lc (own := [("part", 1)]) (g := gName 1) (tt := tYes) (te := tCB (rIsi K) (tCons (tVar 1) (tCons (tC (.ty "tuple")) tNil))) rfl scSnap.nd (pi_tup (pv 0)) (blkOk_by (N := nSnap) (sc := defScope sSnap) (by decide +kernel))
        (fun _ _ _ _ _ => pg_name (i := 1) scSnap.nd rfl (.inl rfl)) (fun _ _ _ _ _ => pts_nil) (fun _ _ _ _ _ => pe_callB call_isi (by rfl) mI (by decide +kernel) (pa_cons (pv 1) (pa_cons (pe_bltn (v := .ty "tuple") (by rfl) mT (by decide +kernel) rfl) pa_nil)))) pa_nil)))))).pt (pss_one (ps_ret pe_bl)) pss_nil) <|
      pss_cons (ps_asg (pv 0) (pg_tup (n := 2) rfl (pgs_cons (pg_name (i := 2) scSnap.nd rfl (.inl rfl)) <| pgs_cons (pg_name (i := 3) scSnap.nd rfl (.inl rfl)) pgs_nil))) <|
      pss_cons (ps_if (pw_or (pt_cmpR op_gt (pe_callB call_len_seq (by rfl) mL PySem.boot_len (pa_cons (pv 3) pa_nil)) (pe_glob (v := .int 400) (by rfl) hM ⟨tM, rfl⟩) (nomark _)) (pw_or1 (pt_not (pt_val (pe_callB (cr_all rfl) (by rfl) mA (by decide +kernel) (pa_cons (pe_lc (own := [("row", 4)]) (g := gName 4) (tt := tYes) (te := tCall (spV K gHead) [] E0 (tCons (tVar 4) tNil)) rfl scSnap.nd (pi_tup (pv 3)) (blkOk_by (N := nSnap) (sc := defScope sSnap) (by decide +kernel))
        (fun _ _ _ _ _ => pg_name (i := 4) scSnap.nd rfl (.inl rfl)) (fun _ _ _ _ _ => pts_nil) (fun _ _ _ _ _ => pe_call GH hr (by rfl) gH FH.kp bH .nil pass0 (pa_cons (pv 4) pa_nil))) pa_nil)))))).pt (pss_one (ps_ret pe_bl)) pss_nil) <|
      pss_cons (ps_if (pt_not (pt_val (pe_call GI hr (by rfl) gA FA.kp bA .nil pass0 (pa_cons (pe_lc (own := [("row", 4)]) (g := gName 4) (tt := tYes) (te := tOp (rIxT K) (tVar 4) (tC (.int 0))) rfl scSnap.nd (pi_tup (pv 3)) (blkOk_by (N := nSnap) (sc := defScope sSnap) (by decide +kernel))
        (fun _ _ _ _ _ => pg_name (i := 4) scSnap.nd rfl (.inl rfl)) (fun _ _ _ _ _ => pts_nil) (fun _ _ _ _ _ => pe_ix ix_tup (pv 4) pe_int (fun _ _ => rfl))) pa_nil)))) (pss_one (ps_ret pe_bl)) pss_nil) <|
      pss_cons (ps_set (i := 5) scSnap.nd rfl (.inr rfl) (pe_dc (own := [("row", 4)]) (g := gName 4) (tt := tYes) (tk := tOp (rIxT K) (tVar 4) (tC (.int 0))) (tv := tC (.bl true)) rfl scSnap.nd (pi_tup (pv 3)) (blkOk_by (N := nSnap) (sc := defScope sSnap) (by decide +kernel))
        (fun _ _ _ _ _ => pg_name (i := 4) scSnap.nd rfl (.inl rfl)) (fun _ _ _ _ _ => pts_nil) (fun _ _ _ _ _ => pe_ix ix_tup (pv 4) pe_int (fun _ _ => rfl)) (fun _ _ _ _ _ => pe_bl))) <|
      pss_cons (ps_if (pt_not (pt_val (pe_callB (cr_all rfl) (by rfl) mA (by decide +kernel) (pa_cons (pe_lc (own := [("row", 4)]) (g := gName 4) (tt := tYes) (te := tCall (spFits K) [] E0 (tCons (tOp (rIxT K) (tVar 4) (tC (.int 2))) <| tCons (tOp (rIxT K) (tVar 4) (tC (.int 3))) <| tCons (tVar 5) tNil)) rfl scSnap.nd (pi_tup (pv 3)) (blkOk_by (N := nSnap) (sc := defScope sSnap) (by decide +kernel))
        (fun _ _ _ _ _ => pg_name (i := 4) scSnap.nd rfl (.inl rfl)) (fun _ _ _ _ _ => pts_nil) (fun _ _ _ _ _ => pe_call GF hr (by rfl) gF FF.kp bF .nil pass0 (pa_cons (pe_ix ix_tup (pv 4) pe_int (fun _ _ => rfl)) <| pa_cons (pe_ix ix_tup (pv 4) pe_int (fun _ _ => rfl)) <| pa_cons (pv 5) pa_nil))) pa_nil)))) (pss_one (ps_ret pe_bl)) pss_nil) <|
      pss_cons (ps_if (pt_not (pt_val (pe_callB (cr_all rfl) (by rfl) mA (by decide +kernel) (pa_cons (pe_lc (own := [("row", 4)]) (g := gName 4) (tt := tYes) (te := tCall (spRoot K) [] E0 (tCons (tVar 4) <| tCons (tVar 5) tNil)) rfl scSnap.nd (pi_tup (pv 2)) (blkOk_by (N := nSnap) (sc := defScope sSnap) (by decide +kernel))
        (fun _ _ _ _ _ => pg_name (i := 4) scSnap.nd rfl (.inl rfl)) (fun _ _ _ _ _ => pts_nil) (fun _ _ _ _ _ => pe_call GR hr (by rfl) gR FR.kp bR .nil pass0 (pa_cons (pv 4) <| pa_cons (pv 5) pa_nil))) pa_nil)))) (pss_one (ps_ret pe_bl)) pss_nil) <|
      pss_one (ps_ret (pe_call GS hr (by rfl) gA FA.kp bA .nil pass0 (pa_cons (pe_lc (own := [("row", 4)]) (g := gName 4) (tt := tYes) (te := tOp (rIxT K) (tVar 4) (tC (.int 0))) rfl scSnap.nd (pi_tup (pv 2)) (blkOk_by (N := nSnap) (sc := defScope sSnap) (by decide +kernel))
        (fun _ _ _ _ _ => pg_name (i := 4) scSnap.nd rfl (.inl rfl)) (fun _ _ _ _ _ => pts_nil) (fun _ _ _ _ _ => pe_ix ix_tup (pv 4) pe_int (fun _ _ => rfl))) pa_nil))), ?_⟩
    refine Sn.seq_of (SaysT.ifS (A := ¬ ∃ rs os, e = .tuple [.tuple rs, .tuple os]) (SaysT.imp (.or (SaysT.not (Says.val (says_tupof (at_var rfl av) tm))) (B := ¬ ∀ ds, e = .tuple ds → ∀ d ∈ ds, isTup d = true) fun H1 x1 a => ?_) ⟨fun h => ?_, fun h => ?_⟩) (fun H1 x1 a => ?_) fun H1 x1 a => ?_)
    · obtain ⟨ds, rfl, l2⟩ := Classical.not_not.mp a
      obtain ⟨t, xs, rfl, _, ht, al⟩ := id (av.kept x1).tup_at
      refine SaysT.imp (SaysT.not (Says.val (says_allV (G := fun d => isTup d = true) (fun Q' q' => Sn.v_of rfl (q' t xs ht al)) (tame_tup tm).2 (fun _ => rfl) fun H' y p e' hp ap => says_isi kit_tup (at_var rfl ap)))) ⟨fun z y => z (y ds rfl), fun z y => z fun ds' e' => ?_⟩
      cases e'
      exact y
    · rintro ⟨rs, os, rfl⟩
      rcases h with h | h
      · exact h ⟨_, rfl, rfl⟩
      · refine h fun ds e d hd => ?_
        cases e
        rcases List.mem_cons.mp hd with rfl | hd
        · rfl
        · rw [List.mem_singleton.mp hd]
          rfl
    · refine (Classical.em _).elim .inr fun c => .inl ?_
      rintro ⟨ds, rfl, l2⟩
      obtain ⟨a1, a2, rfl⟩ := two l2
      have c := Classical.not_not.mp c _ rfl
      obtain ⟨rs, rfl⟩ := tup_iff.mp (c a1 (by simp))
      obtain ⟨os, rfl⟩ := tup_iff.mp (c a2 (by simp))
      exact h ⟨_, _, rfl⟩
    · exact Sn.ret_of (Sn.k_of (q H1 false x1 (f_iff fun ⟨rs, os, e, _⟩ => a ⟨rs, os, e⟩)))
    dsimp only [tNext]
    obtain ⟨rs, os, rfl⟩ := Classical.not_not.mp a
    obtain ⟨t, y1, y2, rfl, ht, a1, a2⟩ := (av.kept x1).two_at
    have tmr := (tame_tup tm).1 (.tuple rs) (by simp)
    have tmo := (tame_tup tm).1 (.tuple os) (by simp)
    obtain ⟨tpr, fewr⟩ := tame_tup tmr
    obtain ⟨tpo, fewo⟩ := tame_tup tmo
    obtain ⟨tr, xr, rfl, _, htr, alr⟩ := id a1.tup_at
    obtain ⟨to, xo, rfl, _, hto, alo⟩ := id a2.tup_at
    have llo := alo.len
    refine Sn.seq_of (Sn.asgG_of (Sn.v_of rfl ⟨t, _, rfl, st_of ht, rfl, _, _, rfl, _, _, rfl, rfl, ?_⟩))
    dsimp only [gName]
    have no : ∀ {B : Prop}, ¬ B → (gSnap (.tuple [.tuple rs, .tuple os]) → B) → ∀ H', Ex H1 H' → Q (.bl false) H' := fun n imp H' y => q H' false (x1.trans y) (f_iff fun z => n (imp z))
    refine Sn.seq_of (SaysT.ifS (A := ¬ (os.length ≤ 400 ∧ ∀ o ∈ os, gHead o)) (SaysT.imp (.or (A := ¬ os.length ≤ 400) (B := ¬ ∀ o ∈ os, gHead o) (Says.test fun Q' q' => Sn.op_of (Sn.cb_of (Sn.c_of (Sn.v_of rfl (Sn.n_of ⟨to, xo, rfl, .inr (st_of hto), Sn.k_of ⟨_, _, rfl, rfl, q' H1 _ (Ex.refl H1) (b_iff.trans (by omega))⟩⟩))))) fun H2 x2 _ => SaysT.not (Says.val (says_allV (fun Q' q' => Sn.v_of rfl (q' to xo (x2 _ _ hto) (alo.kept x2))) fewo (fun _ => rfl) fun H' y p e' hp ap => says_call (at_var rfl ap) (tpo p hp)))) ⟨fun h z => h.elim (fun h => h z.1) (fun h => h z.2), fun h => (Classical.em _).elim (fun c => .inr fun z => h ⟨c, z⟩) .inl⟩) (fun H2 x2 b => ?_) fun H2 x2 b => ?_)
    · refine Sn.ret_of (Sn.k_of (no b ?_ H2 x2))
      rintro ⟨rs', os', e, h1, h2, _⟩
      cases e
      exact ⟨h1, h2⟩
    dsimp only [tNext]
    obtain ⟨l400, heads⟩ := Classical.not_not.mp b
    have hk : ∀ o ∈ os, ∃ r, o = .tuple (.int (keyP o) :: r) := fun o ho => by
      obtain ⟨i, h, s, ps, rfl, _⟩ := heads o ho
      exact ⟨_, rfl⟩
    refine Sn.seq_of (SaysT.ifS (A := ¬ (os.map keyP).Pairwise (· < ·)) (SaysT.not (Says.val fun Q' q' => Sn.call_of (Sn.c_of (firsts_read (f := V.int) (dt := PyData.int) (key := keyP) (j := 4) (fun a => a.int_at) rfl (a2.kept x2) hk fewo (fun _ => rfl) (fun _ => rfl) fun H3 l x3 hl => Sn.n_of ⟨l, _, rfl, hl, by rw [List.length_map]; exact fewo, fun H' b e hb => q' H' b (x3.trans e) hb⟩)))) (fun H3 x3 c => ?_) fun H3 x3 c => ?_)
    · refine Sn.ret_of (Sn.k_of (no c ?_ H3 (x2.trans x3)))
      rintro ⟨rs', os', e, _, _, h3, _⟩
      cases e
      exact h3
    dsimp only [tNext]
    have asc := Classical.not_not.mp c
    have x13 := x2.trans x3
    refine Sn.seq_of (Sn.asg_of ?_)
    refine (show tDc (iTup K (tVar 3)) (gName 4) tYes (tOp (rIxT K) (tVar 4) (tC (.int 0))) (tC (.bl true)) [4] _ H3 _ from ?_)
    refine iT_of (Sn.v_of rfl ⟨to, rfl, ⟨_, st_of (x13 _ _ hto)⟩, fun B hB => dc_tup (xs := xo) (fun m H' => Ex H3 H' ∧ ∃ met : List Int, H' B = some (.dK (kTrue met)) ∧ met.length ≤ m ∧ ∀ k, k ∈ met ↔ k ∈ (os.take m).map keyP) ⟨Ex.new hB, [], upd_same, Nat.le_refl _, fun k => by simp⟩ (fun m H' _ h => st_of (h.1 _ _ (x13 _ _ hto))) ?_ ?_⟩)
    · rintro m y H' hy ⟨e', met, hD', ml, hm⟩
      have il : m < xo.length := (List.getElem?_eq_some_iff.mp hy).1
      obtain ⟨p, hp, ap⟩ := alo.get hy
      obtain ⟨r, ep⟩ := hk p (List.mem_of_getElem? hp)
      refine ⟨rfl, ?_⟩
      dsimp only [tYes]
      rw [if_pos rfl]
      have ap' := ap.kept (x13.trans e')
      rw [ep] at ap'
      refine at_item (k := 0) (d := .int (keyP p)) rfl ap' rfl _ fun v av' => ?_
      obtain rfl := av'.int_at
      refine Sn.k_of ⟨kTrue met, .inl (keyP p), rfl, hD', sz_lt (by unfold kTrue; rw [List.length_map]; omega), Ex.mut e' hB, insT met (keyP p), ?_, Nat.le_trans (insT_len _ _) (by omega), fun k => ?_⟩
      · rw [upd_same, put_ins]
      · rw [insT_mem, hm, take_key hp]
    · rintro H4 ⟨e4, met, hD4, ml, hm⟩
      rw [llo, List.take_length] at hm
      dsimp only
      have th : There H4 B (os.map keyP) := ⟨_, hD4, fun i => by
        rw [val_kTrue]
        exact decide_eq_true_iff.trans (hm i)⟩
      have x14 := x13.trans e4
      refine Sn.seq_of (SaysT.ifS (A := ¬ ∀ o ∈ os, gSort (os.map keyP) o) (SaysT.not (Says.val (says_allV (fun Q' q' => Sn.v_of rfl (q' to xo (x14 _ _ hto) (alo.kept x14))) fewo (fun _ => rfl) fun H' y p e' hp ap => ?_))) (fun H5 x5 d => ?_) fun H5 x5 d => ?_)
      · obtain ⟨i, h, s, ps, rfl, _⟩ := heads p hp
        have tp := (tame_tup (tpo _ hp)).1
        exact fun Q' q' => Sn.call_of (Sn.c_of (at_item (k := 2) rfl ap rfl _ fun u au => Sn.c_of (at_item (k := 3) rfl ap rfl _ fun v av => Sn.c_of (Sn.v_of rfl (Sn.n_of ⟨D, u, v, s, ps, B, _, rfl, au, tp _ (by simp), av, tp _ (by simp), th.ex e', fun H6 b x6 hb => q' H6 b x6 (hb.trans ⟨fun z i' h' s' ps' e => (by cases e; exact z), fun z => z _ _ _ _ rfl⟩)⟩)))))
      · refine Sn.ret_of (Sn.k_of (no d ?_ H5 (x14.trans x5)))
        rintro ⟨rs', os', e, _, _, _, h4, _⟩
        cases e
        exact h4
      dsimp only [tNext]
      have sorts := Classical.not_not.mp d
      have x15 := x14.trans x5
      refine Sn.seq_of (SaysT.ifS (A := ¬ ∀ r ∈ rs, gRoot (os.map keyP) r) (SaysT.not (Says.val (says_allV (fun Q' q' => Sn.v_of rfl (q' tr xr (x15 _ _ htr) (alr.kept x15))) fewr (fun _ => rfl) fun H' y p e' hp ap => fun Q' q' => Sn.call_of (Sn.c_of (Sn.v_of rfl (Sn.c_of (Sn.v_of rfl (Sn.n_of ⟨D, y, p, B, _, rfl, ap, tpr p hp, (th.ex x5).ex e', q'⟩)))))))) (fun H6 x6 g => ?_) fun H6 x6 g => ?_)
      · refine Sn.ret_of (Sn.k_of (no g ?_ H6 (x15.trans x6)))
        rintro ⟨rs', os', e, _, _, _, _, h5, _⟩
        cases e
        exact h5
      dsimp only [tNext]
      have roots := Classical.not_not.mp g
      have x16 := x15.trans x6
      refine Sn.ret_of (Sn.call_of (Sn.c_of (firsts_read (f := V.str) (dt := PyData.str) (key := keyS) (j := 4) (fun a => a.str_at) rfl (a1.kept x16) (fun r hr' => ?_) fewr (fun _ => rfl) (fun _ => rfl) fun H7 l x7 hl => Sn.n_of ⟨l, _, rfl, hl, by rw [List.length_map]; exact fewr, fun H' b e hb => q H' b (x1.trans ((x16.trans x7).trans e)) (hb.trans ⟨fun z => ⟨rs, os, rfl, l400, heads, asc, sorts, roots, z⟩, ?_⟩)⟩)))
      · obtain ⟨z, i, rfl, _⟩ := roots r hr'
        exact ⟨_, rfl⟩
      · rintro ⟨rs', os', e, _, _, _, _, _, h6⟩
        cases e
        exact h6
end
end Kn
/-! the law's look at names and figures -/
namespace Kn
open PySem PySem.Spec PyProof.Rows L2 Evl Gd Sn Qw
abbrev sCalled : Stmt := topS 32
abbrev sFigure : Stmt := topS 31
abbrev nCalled : List Str := ["_law_thing", "_law_barred", "_law_small", "_law_sign"]
abbrev nFigure : List Str := ["_law_thing"]
theorem scCalled : FnScope nCalled ["_law_thing"] (defScope sCalled) := ⟨rfl, rfl, rfl, by decide +kernel, rfl, by decide +kernel, by decide +kernel⟩
theorem scFigure : FnScope nFigure ["_law_thing"] (defScope sFigure) := ⟨rfl, rfl, rfl, by decide +kernel, rfl, by decide +kernel, by decide +kernel⟩
def spCalled : Sp := fun vs H Q _ => ∃ z : Str, vs = [.str z] ∧ Wd z ∧ ∀ H' (b : Bool), Ex H H' → (b = true ↔ nameB z = true) → Q (.bl b) H'
def gFigure (e : PyData) : Prop := ∃ i, e = .int i ∧ 0 ≤ i
abbrev smallT : Str := "abcdefghijklmnopqrstuvwxyz"
theorem tail_is {w : Str} {c : Nat} {l : List Nat} (h : TL.tl w = c :: l) : TL.tl (cutS w (some 1) none) = l := by
  have len := TL.len_tl w
  rw [h, List.length_cons] at len
  unfold cutS
  rw [TL.tl_mk, show w.cps.toList = c :: l from h]
  have h1 : HT.sIx w.length 0 (some ((1 : Nat) : Int)) = min 1 w.length := HT.sIx_nat w.length 0 1
  have h2 : HT.sIx w.length w.length none = w.length := rfl
  rw [show (some (1 : Int)) = some ((1 : Nat) : Int) from rfl, h1, h2, Nat.min_eq_left (by omega), List.drop_one, List.tail_cons, List.take_of_length_le (by omega)]
theorem low_mem : ∀ c : Fin 128, decide (c.val ∈ smallT.cps.toList) = low c.val := by decide +kernel
theorem both_mem : ∀ c : Fin 128, decide (c.val ∈ (smallT ++ Txt.upper smallT).cps.toList) = (low c.val || upp c.val) := by decide +kernel
theorem small_len : smallT.length + (Txt.upper smallT).length ≤ sizeLine := by rw [sizeLine_eq]; decide +kernel
section
variable {P : Program} {w : World} {K : PySem.W.Frag} {mg : Str → Option Value} {base : Heap}
theorem ok_called {f : Addr} {fd : FuncData} (F : Fun K "_law_is_called" "_law_is_called" sCalled f fd) (mL : mg "len" = none) (mA : mg "all" = none) : FnOk P w K mg base CX0 1 f fd ["_law_thing"] spCalled := by
  refine F.ok scCalled (fun vs H Q E h => ?_) (fun cdv A outer s H vs Q E hr h => ?_)
  · obtain ⟨w', rfl, _⟩ := h
    rfl
  · obtain ⟨w', rfl, wd, q⟩ := h
    have few := wd.few
    have len := TL.len_tl w'
    refine ⟨_, pss_cons (ps_set (i := 1) scCalled.nd rfl (.inl rfl) (pe_lst (pa_cons pe_str <| pa_cons pe_str <| pa_cons pe_str <| pa_cons pe_str <| pa_cons pe_str <| pa_cons pe_str <| pa_cons pe_str <| pa_cons pe_str <| pa_cons pe_str <| pa_cons pe_str <| pa_cons pe_str <| pa_cons pe_str <| pa_cons pe_str pa_nil))) <|
      pss_cons (ps_set (i := 1) scCalled.nd rfl (.inl rfl) (pe_op op_cat (pv 1) (pe_lst (pa_cons pe_str <| pa_cons pe_str <| pa_cons pe_str <| pa_cons pe_str <| pa_cons pe_str <| pa_cons pe_str <| pa_cons pe_str <| pa_cons pe_str <| pa_cons pe_str <| pa_cons pe_str <| pa_cons pe_str <| pa_cons pe_str pa_nil)))) <|
      pss_cons (ps_set (i := 1) scCalled.nd rfl (.inl rfl) (pe_op op_cat (pv 1) (pe_lst (pa_cons pe_str <| pa_cons pe_str <| pa_cons pe_str <| pa_cons pe_str <| pa_cons pe_str pa_nil)))) <|
      pss_cons (ps_set (i := 2) scCalled.nd rfl (.inr rfl) pe_str) <|
      pss_cons (ps_if (pw_or (pt_not (pt_chain op_le op_le pe_int (pe_callB call_len_str (by rfl) mL PySem.boot_len (pa_cons (pv 0) pa_nil)) pe_int)) (pw_or (pt_cmpR op_in_seq (pv 0) (pv 1) (by rfl)) (pw_or1 (pt_cmpR op_notIn_sign (pe_ix ix_str (pv 0) pe_int (fun _ _ => rfl)) (pe_op op_add_str (pv 2) (pe_m0 PySem.F.slot_str_upper PySem.F.type_str_upper mt_upper (pv 2))) (by rfl))))).pt (pss_one (ps_ret pe_bl)) pss_nil) <|
      pss_one (ps_ret (pe_callB (cr_all rfl) (by rfl) mA (by decide +kernel) (pa_cons (pe_lc (own := [("_law_sign", 3)]) (g := gName 3) (tt := tYes) (te := tOp (fun x y H Q => ∃ (c : Nat) (z : Str), x = .str ⟨#[c]⟩ ∧ y = .str z ∧ Q (.bl (decide (c ∈ z.cps.toList))) H) (tVar 3) (tVar 2)) rfl scCalled.nd (pi_str (pe_slice sl_str (pv 0) (po_some pe_int) po_none)) (blkOk_by (N := nCalled) (sc := defScope sCalled) (by decide +kernel))
          (fun _ _ _ _ _ => pg_name (i := 3) scCalled.nd rfl (.inl rfl)) (fun _ _ _ _ _ => pts_nil) (fun _ _ _ _ _ => pe_cmpR op_in_sign (pv 3) (pv 2) (by rfl))) pa_nil))), ?_⟩
    refine Sn.seq_of (Sn.asg_of (Sn.lst_of (Sn.c_of (Sn.k_of (Sn.c_of (Sn.k_of (Sn.c_of (Sn.k_of (Sn.c_of (Sn.k_of (Sn.c_of (Sn.k_of (Sn.c_of (Sn.k_of (Sn.c_of (Sn.k_of (Sn.c_of (Sn.k_of (Sn.c_of (Sn.k_of (Sn.c_of (Sn.k_of (Sn.c_of (Sn.k_of (Sn.c_of (Sn.k_of (Sn.c_of (Sn.k_of (Sn.n_of ⟨by show 13 ≤ sizeLine; decide, fun p1 h1 => ?_⟩)))))))))))))))))))))))))))))
    have e1 : Ex H (upd H p1 (.lst [V.str "none", V.str "get", V.str "at", V.str "is", V.str "then", V.str "record", V.str "weak", V.str "map", V.str "counted", V.str "traced", V.str "let", V.str "drop", V.str "hold"])) := Ex.new h1
    have a1 : (upd H p1 (.lst [V.str "none", V.str "get", V.str "at", V.str "is", V.str "then", V.str "record", V.str "weak", V.str "map", V.str "counted", V.str "traced", V.str "let", V.str "drop", V.str "hold"])) p1 = some (.lst [V.str "none", V.str "get", V.str "at", V.str "is", V.str "then", V.str "record", V.str "weak", V.str "map", V.str "counted", V.str "traced", V.str "let", V.str "drop", V.str "hold"]) := upd_same
    generalize upd H p1 (.lst [V.str "none", V.str "get", V.str "at", V.str "is", V.str "then", V.str "record", V.str "weak", V.str "map", V.str "counted", V.str "traced", V.str "let", V.str "drop", V.str "hold"]) = H1 at e1 a1 ⊢
    dsimp only
    refine Sn.seq_of (Sn.asg_of (Sn.op_of (Sn.v_of rfl (Sn.lst_of (Sn.c_of (Sn.k_of (Sn.c_of (Sn.k_of (Sn.c_of (Sn.k_of (Sn.c_of (Sn.k_of (Sn.c_of (Sn.k_of (Sn.c_of (Sn.k_of (Sn.c_of (Sn.k_of (Sn.c_of (Sn.k_of (Sn.c_of (Sn.k_of (Sn.c_of (Sn.k_of (Sn.c_of (Sn.k_of (Sn.c_of (Sn.k_of (Sn.n_of ⟨by show 12 ≤ sizeLine; decide, fun p2 h2 => ⟨p1, p2, _, _, rfl, rfl, (Ex.new h2) _ _ a1, upd_same, by show 25 ≤ sizeLine; decide, fun p3 h3 => ?_⟩⟩)))))))))))))))))))))))))))))
    have e3 := (e1.trans (Ex.new h2 (o := .lst [V.str "release", V.str "pin", V.str "unpin", V.str "say", V.str "if", V.str "else", V.str "end", V.str "repeat", V.str "proc", V.str "do", V.str "minor", V.str "rings"]))).trans (Ex.new h3 (o := .lst ([V.str "none", V.str "get", V.str "at", V.str "is", V.str "then", V.str "record", V.str "weak", V.str "map", V.str "counted", V.str "traced", V.str "let", V.str "drop", V.str "hold"] ++ [V.str "release", V.str "pin", V.str "unpin", V.str "say", V.str "if", V.str "else", V.str "end", V.str "repeat", V.str "proc", V.str "do", V.str "minor", V.str "rings"])))
    have a3 := upd_same (H := upd H1 p2 (.lst [V.str "release", V.str "pin", V.str "unpin", V.str "say", V.str "if", V.str "else", V.str "end", V.str "repeat", V.str "proc", V.str "do", V.str "minor", V.str "rings"])) (a := p3) (o := .lst ([V.str "none", V.str "get", V.str "at", V.str "is", V.str "then", V.str "record", V.str "weak", V.str "map", V.str "counted", V.str "traced", V.str "let", V.str "drop", V.str "hold"] ++ [V.str "release", V.str "pin", V.str "unpin", V.str "say", V.str "if", V.str "else", V.str "end", V.str "repeat", V.str "proc", V.str "do", V.str "minor", V.str "rings"]))
    generalize upd (upd H1 p2 (.lst [V.str "release", V.str "pin", V.str "unpin", V.str "say", V.str "if", V.str "else", V.str "end", V.str "repeat", V.str "proc", V.str "do", V.str "minor", V.str "rings"])) p3 (.lst ([V.str "none", V.str "get", V.str "at", V.str "is", V.str "then", V.str "record", V.str "weak", V.str "map", V.str "counted", V.str "traced", V.str "let", V.str "drop", V.str "hold"] ++ [V.str "release", V.str "pin", V.str "unpin", V.str "say", V.str "if", V.str "else", V.str "end", V.str "repeat", V.str "proc", V.str "do", V.str "minor", V.str "rings"])) = H3 at e3 a3 ⊢
    dsimp only
    refine Sn.seq_of (Sn.asg_of (Sn.op_of (Sn.v_of rfl (Sn.lst_of (Sn.c_of (Sn.k_of (Sn.c_of (Sn.k_of (Sn.c_of (Sn.k_of (Sn.c_of (Sn.k_of (Sn.c_of (Sn.k_of (Sn.n_of ⟨by show 5 ≤ sizeLine; decide, fun p4 h4 => ⟨p3, p4, _, _, rfl, rfl, (Ex.new h4) _ _ a3, upd_same, by show 30 ≤ sizeLine; decide, fun p5 h5 => ?_⟩⟩)))))))))))))))
    have x5 := (e3.trans (Ex.new h4 (o := .lst [V.str "begin", V.str "slice", V.str "compact", V.str "finalize", V.str "settle"]))).trans (Ex.new h5 (o := .lst ([V.str "none", V.str "get", V.str "at", V.str "is", V.str "then", V.str "record", V.str "weak", V.str "map", V.str "counted", V.str "traced", V.str "let", V.str "drop", V.str "hold"] ++ [V.str "release", V.str "pin", V.str "unpin", V.str "say", V.str "if", V.str "else", V.str "end", V.str "repeat", V.str "proc", V.str "do", V.str "minor", V.str "rings"] ++ [V.str "begin", V.str "slice", V.str "compact", V.str "finalize", V.str "settle"])))
    have b5 : (upd (upd H3 p4 (.lst [V.str "begin", V.str "slice", V.str "compact", V.str "finalize", V.str "settle"])) p5 (.lst ([V.str "none", V.str "get", V.str "at", V.str "is", V.str "then", V.str "record", V.str "weak", V.str "map", V.str "counted", V.str "traced", V.str "let", V.str "drop", V.str "hold"] ++ [V.str "release", V.str "pin", V.str "unpin", V.str "say", V.str "if", V.str "else", V.str "end", V.str "repeat", V.str "proc", V.str "do", V.str "minor", V.str "rings"] ++ [V.str "begin", V.str "slice", V.str "compact", V.str "finalize", V.str "settle"]))) p5 = some (.lst (takenL.map V.str)) := upd_same
    generalize upd (upd H3 p4 (.lst [V.str "begin", V.str "slice", V.str "compact", V.str "finalize", V.str "settle"])) p5 (.lst ([V.str "none", V.str "get", V.str "at", V.str "is", V.str "then", V.str "record", V.str "weak", V.str "map", V.str "counted", V.str "traced", V.str "let", V.str "drop", V.str "hold"] ++ [V.str "release", V.str "pin", V.str "unpin", V.str "say", V.str "if", V.str "else", V.str "end", V.str "repeat", V.str "proc", V.str "do", V.str "minor", V.str "rings"] ++ [V.str "begin", V.str "slice", V.str "compact", V.str "finalize", V.str "settle"])) = H5 at x5 b5 ⊢
    have h5 := b5
    dsimp only
    refine Sn.seq_of (Sn.asg_of (Sn.k_of ?_))
    dsimp only
    refine Sn.seq_of (SaysT.ifS (A := (¬ (1 ≤ w'.length ∧ w'.length ≤ 8)) ∨ w' ∈ takenL ∨ ¬ (∀ c l, TL.tl w' = c :: l → (low c || upp c) = true)) (.or (SaysT.not fun Q' q' => chain_of (Sn.k_of (Sn.cb_of (Sn.c_of (Sn.v_of rfl (Sn.n_of ⟨_, rfl, by rw [sizeLine_eq]; omega, ?_⟩)))))) fun H6 x6 a => .or (fun Q' q' => Sn.test_of (Sn.op_of (Sn.v_of rfl (Sn.v_of rfl ⟨p5, _, rfl, .inl (sq_of (x6 _ _ h5)), rfl, texts_flat _, _, rfl, ?_⟩)))) fun H7 x7 tk => fun Q' q' => ?_) (fun H6 x6 a => ?_) fun H6 x6 a => ?_)
    · refine ⟨_, _, rfl, rfl, _, rfl, ?_⟩
      by_cases c0 : 1 ≤ w'.length
      · rw [decide_eq_true (by omega), if_pos rfl]
        exact Sn.k_of ⟨_, _, rfl, rfl, _, rfl, q' H5 _ (Ex.refl H5) (b_iff.trans ⟨fun z => ⟨c0, by omega⟩, fun z => by omega⟩)⟩
      · rw [decide_eq_false (by omega), if_neg Bool.false_ne_true]
        exact ⟨_, rfl, q' H5 false (Ex.refl H5) (f_iff fun z => c0 z.1)⟩
    · rw [if_neg Bool.false_ne_true, inV_texts]
      exact q' H6 _ (Ex.refl H6) b_iff
    · cases e : TL.tl w' with
      | nil =>
        rw [e] at len
        have : w'.length = 0 := len
        exact absurd (Classical.not_not.mp a).1 (by omega)
      | cons c l =>
        have hc : c < 128 := wd.asc c (by rw [e]; exact List.mem_cons_self)
        have e0 : w'.cps.toList[0]? = some c := by
          have : w'.cps.toList = c :: l := e
          rw [this]
          rfl
        refine Sn.test_of (Sn.op_of (Sn.op_of (Sn.v_of rfl (Sn.k_of ⟨_, 0, c, rfl, rfl, by rw [sizeLine_eq]; omega, atI_nat (j := 0) e0, Sn.op_of (Sn.v_of rfl (m0_of (Sn.v_of rfl ⟨⟨_, rfl⟩, _, rfl, rfl, by decide +kernel, ⟨_, _, rfl, rfl, small_len, c, _, rfl, rfl, _, rfl, q' H7 _ (Ex.refl H7) ?_⟩⟩)))⟩))))
        rw [both_mem ⟨c, hc⟩]
        constructor
        · exact fun z y => by rw [y c l e] at z; cases z
        · intro z
          cases g : (low c || upp c) with
          | false => rfl
          | true => exact absurd (fun c' l' e' => by rw [e] at e'; cases e'; exact g) z
    · refine Sn.ret_of (Sn.k_of (q H6 false (x5.trans x6) (f_iff fun nb => ?_)))
      unfold nameB at nb
      rw [Bool.and_eq_true, Bool.and_eq_true] at nb
      obtain ⟨n1, n2, n3⟩ := nb
      rcases a with a | a | a
      · refine a ⟨?_, of_decide_eq_true n1⟩
        cases e : TL.tl w' with
        | nil =>
          rw [e] at n3
          cases n3
        | cons c l =>
          rw [len, e]
          exact Nat.succ_le_succ (Nat.zero_le _)
      · rw [decide_eq_true a] at n2
        cases n2
      · refine a fun c l e => ?_
        rw [e] at n3
        have n3 : ((low c || upp c) && l.all low) = true := n3
        rw [Bool.and_eq_true] at n3
        exact n3.1
    · dsimp only [tNext]
      obtain ⟨a1, a2⟩ := not_or.mp a
      obtain ⟨a2, a3⟩ := not_or.mp a2
      obtain ⟨c1, c8⟩ := Classical.not_not.mp a1
      have a3 := Classical.not_not.mp a3
      cases e : TL.tl w' with
      | nil =>
        rw [e] at len
        have : w'.length = 0 := len
        omega
      | cons c l =>
        have nb : nameB w' = l.all low := by
          unfold nameB
          rw [decide_eq_true c8, decide_eq_false a2, e]
          show (true && (!false && ((low c || upp c) && l.all low))) = _
          rw [a3 c l e]
          rfl
        have tl := tail_is e
        have ll : l.length + 1 = w'.length := by rw [len, e]; rfl
        refine Sn.ret_of (Sn.cb_of (Sn.c_of (lc_of (slS_of (Sn.v_of rfl (Sn.k_of ⟨1, rfl, _, rfl, by rw [sizeLine_eq]; omega, _, rfl, fun D hD => lc_it walk_str (fun i H' => Ex H6 H' ∧ H' D = some (.lst (((l.take i).map low).map V.bl))) ⟨Ex.new hD, upd_same⟩ (fun _ _ _ _ => True.intro) ?_ ?_⟩))))))
        · rintro i x' H0 H' hi ⟨ee, hd⟩ ⟨rfl, d, hd1, rfl⟩
          have hd2 : l[i]? = some d := by
            have : (cutS w' (some 1) none).cps.toList = l := tl
            rw [← this, Array.getElem?_toList]
            exact hd1
          have dl : d < 128 := wd.asc d (by rw [e]; exact List.mem_cons_of_mem _ (List.mem_of_getElem? hd2))
          refine ⟨rfl, ?_⟩
          dsimp only [tYes]
          rw [if_pos rfl]
          refine Sn.op_of (Sn.v_of rfl (Sn.v_of rfl ⟨d, _, rfl, rfl, ?_⟩))
          rw [low_mem ⟨d, dl⟩]
          refine ⟨_, hd, sz_lt (by rw [List.length_map, List.length_map, List.length_take]; omega), Ex.mut ee hD, ?_⟩
          rw [upd_same, take_one hd2, List.map_append, List.map_append]
          rfl
        · rintro H2 ⟨e2, hd⟩
          have sz : (cutS w' (some 1) none).cps.size = l.length := by
            rw [← Array.length_toList]
            exact congrArg List.length tl
          rw [sz, List.take_length] at hd
          refine Sn.n_of ⟨D, _, rfl, sq_of hd, q H2 _ ((x5.trans x6).trans e2) ?_⟩
          rw [nb, List.all_map]
          exact Iff.rfl
theorem ok_figure {f : Addr} {fd : FuncData} (F : Fun K "_law_is_figure" "_law_is_figure" sFigure f fd) (mI : mg "isinstance" = none) (mN : mg "int" = none) (mB : mg "bool" = none) : FnOk P w K mg base CX0 1 f fd ["_law_thing"] (spV K gFigure) := by
  refine F.ok scFigure (fun vs H Q E h => ?_) (fun cdv A outer s H vs Q E hr h => ?_)
  · obtain ⟨D, x, e, rfl, _⟩ := h
    rfl
  · obtain ⟨D, x, e, rfl, av, tm, q⟩ := h
    refine ⟨_, pss_one (ps_ret (pe_and (pe_callB call_isi (by rfl) mI (by decide +kernel) (pa_cons (pv 0) (pa_cons (pe_bltn (v := .ty "int") (by rfl) mN (by decide +kernel) rfl) pa_nil))) (pe_and (pe_not (pe_callB call_isi (by rfl) mI (by decide +kernel) (pa_cons (pv 0) (pa_cons (pe_bltn (v := .ty "bool") (by rfl) mB (by decide +kernel) rfl) pa_nil)))) (pe_one (pe_cmpR op_ge (pv 0) pe_int (nomark _)))))), ?_⟩
    refine Says.ret (.and (says_isi kit_int (at_var rfl av)) fun H1 x1 i1 => .and (B := ∀ i, e = .int i → 0 ≤ i) (says_notv (says_isi kit_bool (at_var rfl (av.kept x1)))) fun H2 x2 i2 => ?_) fun H' b x1 hb => q H' b x1 (hb.trans ⟨fun ⟨a, b, c⟩ => ?_, ?_⟩)
    · obtain ⟨i, rfl⟩ := int_iff.mp ⟨i1, i2⟩
      obtain rfl := av.int_at
      exact fun Q' q' => Sn.op_of (Sn.v_of rfl (Sn.k_of ⟨i, 0, rfl, rfl, q' H2 _ (Ex.refl H2) (b_iff.trans ⟨fun z j e => (by cases e; exact z), fun z => z i rfl⟩)⟩))
    · obtain ⟨i, rfl⟩ := int_iff.mp ⟨a, b⟩
      exact ⟨i, rfl, c i rfl⟩
    · rintro ⟨i, rfl, z⟩
      obtain ⟨a, b⟩ := int_iff.mpr ⟨i, rfl⟩
      exact ⟨a, b, fun j e => by cases e; exact z⟩
end
end Kn
/-! lists of ints: == and != -/
namespace Gd
open PySem PySem.Spec PyProof.Rows L2
theorem dp_intsE {K : PySem.W.Frag} {H : Hp} : ∀ ws : List Int, DpAll K H (ws.map V.int) (ws.map .int)
  | [] => .nil
  | w :: r => .cons (.int w) (dp_intsE r)
theorem ints_plain : ∀ ws : List Int, PyData.plainAll (ws.map .int) = true
  | [] => rfl
  | w :: r => by
    rw [List.map_cons, PyData.plainAll, ints_plain r]
    rfl
theorem ints_deep : ∀ ws : List Int, PyData.depthAll (ws.map .int) ≤ 1
  | [] => Nat.zero_le _
  | w :: r => by
    have := ints_deep r
    rw [List.map_cons, PyData.depthAll]
    exact Nat.max_le.mpr ⟨by show PyData.depth (.int w) ≤ 1; rw [PyData.depth]; omega, this⟩
theorem ints_eqv : ∀ ws zs : List Int, PyData.eqvAll (ws.map .int) (zs.map .int) = decide (ws = zs)
  | [], [] => rfl
  | [], _ :: _ => rfl
  | _ :: _, [] => rfl
  | w :: r, z :: q => by
    rw [List.map_cons, List.map_cons, PyData.eqvAll, ints_eqv r q]
    show ((w == z) && decide (r = q)) = _
    by_cases e : w = z
    · subst e
      rw [beq_self_eq_true, Bool.true_and]
      exact decide_eq_decide.mpr ⟨fun h => by rw [h], fun h => (List.cons.inj h).2⟩
    · rw [show (w == z) = false from by simp [e], Bool.false_and, decide_eq_false fun h => e (List.cons.inj h).1]
def rEqI (K : PySem.W.Frag) : R2 := fun x y H Q => ∃ (a b : Addr) (ws zs : List Int), x = .ref a ∧ y = .ref b ∧ SqL K H a (ws.map V.int) ∧ SqL K H b (zs.map V.int) ∧ Q (.bl (decide (ws = zs))) H
def rNeI (K : PySem.W.Frag) : R2 := fun x y H Q => ∃ (a b : Addr) (ws zs : List Int), x = .ref a ∧ y = .ref b ∧ SqL K H a (ws.map V.int) ∧ SqL K H b (zs.map V.int) ∧ Q (.bl (!decide (ws = zs))) H
section
variable {X : Cx}
theorem op_eqI (hu : X.A.units + 64 < cLine) : OpR X (compareOp .Eq) (rEqI X.K) := by
  intro pins s σ H x y v u Q I rx ry h
  obtain ⟨a, b, ws, zs, rfl, rfl, ha, hb, q⟩ := h
  obtain ⟨as, r1⟩ := Dp.reads I (.list (ws.map .int)) _ v (.lst ha (dp_intsE ws)) rx
  obtain ⟨bs, r2⟩ := Dp.reads I (.list (zs.map .int)) _ u (.lst hb (dp_intsE zs)) ry
  have d1 : PyData.depth (.list (ws.map .int)) ≤ 2 := by
    have := ints_deep ws
    rw [PyData.depth]
    omega
  refine SeqAt.eq_plain r1 r2 (ints_plain ws) (ints_plain zs) (by have := Nat.min_le_left (PyData.depth (.list (ws.map .int))) (PyData.depth (.list (zs.map .int))); omega) ⟨.bl _, H, I, rfl, ?_⟩
  rw [show PyData.eqv (.list (ws.map .int)) (.list (zs.map .int)) = PyData.eqvAll (ws.map .int) (zs.map .int) from rfl, ints_eqv]
  exact q
theorem op_neI (hu : X.A.units + 64 < cLine) : OpR X (compareOp .NotEq) (rNeI X.K) := by
  intro pins s σ H x y v u Q I rx ry h
  obtain ⟨a, b, ws, zs, rfl, rfl, ha, hb, q⟩ := h
  obtain ⟨as, r1⟩ := Dp.reads I (.list (ws.map .int)) _ v (.lst ha (dp_intsE ws)) rx
  obtain ⟨bs, r2⟩ := Dp.reads I (.list (zs.map .int)) _ u (.lst hb (dp_intsE zs)) ry
  have d1 : PyData.depth (.list (ws.map .int)) ≤ 2 := by
    have := ints_deep ws
    rw [PyData.depth]
    omega
  refine SeqAt.ne_plain r1 r2 (ints_plain ws) (ints_plain zs) (by have := Nat.min_le_left (PyData.depth (.list (ws.map .int))) (PyData.depth (.list (zs.map .int))); omega) ⟨.bl _, H, I, rfl, ?_⟩
  rw [show PyData.eqv (.list (ws.map .int)) (.list (zs.map .int)) = PyData.eqvAll (ws.map .int) (zs.map .int) from rfl, ints_eqv]
  exact q
end
end Gd
/-! pairs; == sorted(set(..)) -/
namespace Kn
open PySem PySem.Spec PyProof.Rows L2 Evl Gd Sn Qw
abbrev sPairsR : Stmt := topS 33
abbrev nPairsR : List Str := ["_law_thing", "_law_pair"]
theorem scPairsR : FnScope nPairsR ["_law_thing"] (defScope sPairsR) := ⟨rfl, rfl, rfl, by decide +kernel, rfl, by decide +kernel, by decide +kernel⟩
def IsPair (p : PyData) : Prop := ∃ a b, p = .tuple [a, b]
def gPairs (e : PyData) : Prop := ∃ ps, e = .tuple ps ∧ ∀ p ∈ ps, IsPair p
theorem once_same {α : Type} [DecidableEq α] {r : α → α → Prop} (irr : ∀ a, ¬ r a a) (tr : ∀ a b c, r a b → r b c → r a c) {ws ms : List α} (pw : ms.Pairwise r) (pm : ms.Perm (once ws)) : ws = ms ↔ ws.Pairwise r := by
  constructor
  · rintro rfl
    exact pw
  · intro z
    have nd : ws.Nodup := z.imp (S := fun a b => a ≠ b) fun {a b} h e => irr a (by rw [← e] at h; exact h)
    have ndm : ms.Nodup := pw.imp (S := fun a b => a ≠ b) fun {a b} h e => irr a (by rw [← e] at h; exact h)
    refine List.Perm.eq_of_pairwise (le := r) (fun a b _ _ h g => absurd (tr _ _ _ h g) (irr a)) z pw ((List.perm_ext_iff_of_nodup nd ndm).mpr fun a => ?_)
    rw [pm.mem_iff, mem_once]
section
variable {K : PySem.W.Frag} {D : Addr → Prop} {σ : L2.St} {H : Hp}
theorem srtS {i : Nat} {l : Addr} {ws : List Str} (e : σ[i]? = some (some (.ref l))) (hl : H l = some (.lst (ws.map V.str))) (few : ws.length < 4000) : Says σ H (tOp (rEqW K) (tVar i) (tSortS K (tVar i))) (ws.Pairwise sLt) := fun Q q =>
  Sn.op_of (Sn.v_of e (show tSortS K (tVar i) σ H _ from Sn.v_of e ⟨l, ws, rfl, sq_of hl, few, fun ms p pw pm hp => ⟨l, p, ws, ms, rfl, rfl, sq_of ((Ex.new hp) _ _ hl), sq_of upd_same, q _ _ (Ex.new hp) (b_iff.trans (once_same (fun a h => List.lt_irrefl a.cps.toList h) sLt_tr pw pm))⟩⟩))
theorem srtI {i : Nat} {l : Addr} {ns : List Int} (e : σ[i]? = some (some (.ref l))) (hl : H l = some (.lst (ns.map V.int))) (few : ns.length < 4000) : Says σ H (tOp (rNeI K) (tVar i) (tSortI K (tVar i))) (¬ ns.Pairwise (· < ·)) := fun Q q =>
  Sn.op_of (Sn.v_of e (show tSortI K (tVar i) σ H _ from Sn.v_of e ⟨l, ns, rfl, sq_of hl, few, fun ms p pw pm hp => ⟨l, p, ns, ms, rfl, rfl, sq_of ((Ex.new hp) _ _ hl), sq_of upd_same, q _ _ (Ex.new hp) (nb_iff.trans (not_congr (once_same (fun a h => Int.lt_irrefl a h) (fun a b c h g => Int.lt_trans h g) pw pm)))⟩⟩))
/-- all([.. for a, b in pairs]) -/
theorem says_allP {el te : TE} {i j : Nat} {ps : List PyData} {G : PyData → PyData → Prop} (ht : ∀ Q : VK, (∀ t xs, H t = some (.tup xs) → AvAll K D H xs ps → Q (.ref t) H) → te σ H Q) (few : ps.length ≤ 90000) (pairs : ∀ p ∈ ps, IsPair p) (hw : ∀ y z : V, wipe (((wipe σ [i, j]).set i (some y)).set j (some z)) [i, j] = wipe σ [i, j])
    (he : ∀ H' y z a b, Ex H H' → PyData.tuple [a, b] ∈ ps → Av K D H' y a → Av K D H' z b → Says (((wipe σ [i, j]).set i (some y)).set j (some z)) H' el (G a b)) : Says σ H (tCB (rAll K) (tCons (tLc (iTup K te) (gTup K 2 (gCons (gName i) (gCons (gName j) gNil))) tYes el [i, j]) tNil)) (∀ a b, PyData.tuple [a, b] ∈ ps → G a b) := fun Q q =>
  Sn.cb_of (Sn.c_of (lc_of (iT_of (ht _ fun t xs ht al => ⟨t, rfl, ⟨_, st_of ht⟩, fun B hB => by
    have ll := al.len
    refine lc_tup (xs := xs) (fun m H' => Ex H H' ∧ ∃ bs : List Bool, H' B = some (.lst (bs.map V.bl)) ∧ bs.length = m ∧ m ≤ ps.length ∧ (bs.all id = true ↔ ∀ a b, PyData.tuple [a, b] ∈ ps.take m → G a b)) ⟨Ex.new hB, [], upd_same, rfl, Nat.zero_le _, ⟨fun _ a b hp => (by simp at hp), fun _ => rfl⟩⟩ (fun m H' _ h => st_of (h.1 _ _ ht)) ?_ ?_
    · rintro m u H' hu ⟨e', bs, hb, ln, le, iff⟩
      obtain ⟨p, hp, ap⟩ := al.get hu
      obtain ⟨a, b, rfl⟩ := pairs p (List.mem_of_getElem? hp)
      have il := (List.getElem?_eq_some_iff.mp hp).1
      obtain ⟨tp, y, z, rfl, htp, ay, az⟩ := (ap.kept e').two_at
      refine ⟨tp, _, rfl, st_of htp, rfl, y, _, rfl, z, _, rfl, rfl, hw y z, ?_⟩
      dsimp only [tYes]
      rw [if_pos rfl]
      refine he H' y z a b e' (List.mem_of_getElem? hp) ay az _ fun H2 b' x2 hb2 => ?_
      refine ⟨bs.map V.bl, x2 _ _ hb, sz_lt (by rw [List.length_map]; omega), Ex.mut (e'.trans x2) hB, bs ++ [b'], by rw [upd_same, List.map_append]; rfl, by rw [List.length_append, ln]; rfl, il, ?_⟩
      rw [List.all_append, Bool.and_eq_true, iff, take_one hp]
      constructor
      · rintro ⟨c1, c2⟩ a' b'' hv
        rcases List.mem_append.mp hv with hv | hv
        · exact c1 a' b'' hv
        · cases List.mem_singleton.mp hv
          exact hb2.mp (by simpa using c2)
      · exact fun c => ⟨fun a' b'' hv => c a' b'' (List.mem_append_left _ hv), by have := hb2.mpr (c a b (by simp)); simp [this]⟩
    · rintro H2 ⟨e2, bs, hb, ln, le, iff⟩
      rw [ll, List.take_length] at iff
      exact Sn.n_of ⟨B, bs, rfl, sq_of hb, q H2 _ e2 iff⟩⟩))))
/-- [a for a, b in pairs] -/
theorem firstsP {α : Type} {f : α → V} {dt : α → PyData} {key : PyData → α} {te : TE} {i j : Nat} {ps : List PyData} (hf : ∀ {H' : Hp} {y : V} {a : α}, Av K D H' y (dt a) → y = f a) (ht : ∀ Q : VK, (∀ t xs, H t = some (.tup xs) → AvAll K D H xs ps → Q (.ref t) H) → te σ H Q) (hk : ∀ p ∈ ps, ∃ b, p = .tuple [dt (key p), b]) (few : ps.length ≤ 90000) (hw : ∀ y z : V, wipe (((wipe σ [i, j]).set i (some y)).set j (some z)) [i, j] = wipe σ [i, j]) (hj : ∀ y z : V, (((wipe σ [i, j]).set i (some y)).set j (some z))[i]? = some (some y)) {Q : VK}
    (q : ∀ H' p, Ex H H' → H' p = some (.lst ((ps.map key).map f)) → Q (.ref p) H') : tLc (iTup K te) (gTup K 2 (gCons (gName i) (gCons (gName j) gNil))) tYes (tVar i) [i, j] σ H Q :=
  lc_of (iT_of (ht _ fun t xs ht al => ⟨t, rfl, ⟨_, st_of ht⟩, fun B hB => by
    have ll := al.len
    refine lc_tup (xs := xs) (fun m H' => Ex H H' ∧ H' B = some (.lst (((ps.take m).map key).map f))) ⟨Ex.new hB, upd_same⟩ (fun m H' _ h => st_of (h.1 _ _ ht)) ?_ ?_
    · rintro m u H' hu ⟨e', hb⟩
      have il := (List.getElem?_eq_some_iff.mp hu).1
      obtain ⟨p, hp, ap⟩ := al.get hu
      obtain ⟨b, ep⟩ := hk p (List.mem_of_getElem? hp)
      rw [ep] at ap
      obtain ⟨tp, y, z, rfl, htp, ay, az⟩ := (ap.kept e').two_at
      refine ⟨tp, _, rfl, st_of htp, rfl, y, _, rfl, z, _, rfl, rfl, hw y z, ?_⟩
      dsimp only [tYes]
      rw [if_pos rfl]
      refine Sn.v_of (hj y z) ?_
      rw [hf ay]
      refine ⟨_, hb, sz_lt (by rw [List.length_map, List.length_map, List.length_take]; omega), Ex.mut e' hB, ?_⟩
      rw [upd_same, take_one hp, List.map_append, List.map_append]
      rfl
    · rintro H' ⟨e', hb⟩
      rw [ll, List.take_length] at hb
      exact q H' B e' hb⟩))
end
section
variable {P : Program} {w : World} {K : PySem.W.Frag} {mg : Str → Option Value} {base : Heap}
theorem ok_pairsR {f : Addr} {fd : FuncData} (F : Fun K "_law_pairs_right" "_law_pairs_right" sPairsR f fd) (mI : mg "isinstance" = none) (mT : mg "tuple" = none) (mL : mg "len" = none) (mA : mg "all" = none) : FnOk P w K mg base CX0 1 f fd ["_law_thing"] (spV K gPairs) := by
  refine F.ok scPairsR (fun vs H Q E h => ?_) (fun cdv A outer s H vs Q E hr h => ?_)
  · obtain ⟨D, x, e, rfl, _⟩ := h
    rfl
  · obtain ⟨D, x, e, rfl, av, tm, q⟩ := h
    refine ⟨_, pss_one (ps_ret (pe_and (pe_callB call_isi (by rfl) mI (by decide +kernel) (pa_cons (pv 0) (pa_cons (pe_bltn (v := .ty "tuple") (by rfl) mT (by decide +kernel) rfl) pa_nil))) (pe_one (pe_callB (cr_all rfl) (by rfl) mA (by decide +kernel) (pa_cons (pe_lc (own := [("_law_pair", 1)]) (g := gName 1) (tt := tYes) (te := tAndV (tCB (rIsi K) (tCons (tVar 1) (tCons (tC (.ty "tuple")) tNil))) (tOp rEq (tCB (fun xs H Q => ∃ p ys, xs = [.ref p] ∧ (SqL K H p ys ∨ SqT K H p ys) ∧ Q (.int ys.length) H) (tCons (tVar 1) tNil)) (tC (.int 2)))) rfl scPairsR.nd (pi_tup (pv 0)) (blkOk_by (N := nPairsR) (sc := defScope sPairsR) (by decide +kernel))
        (fun _ _ _ _ _ => pg_name (i := 1) scPairsR.nd rfl (.inl rfl)) (fun _ _ _ _ _ => pts_nil) (fun _ _ _ _ _ => pe_and (pe_callB call_isi (by rfl) mI (by decide +kernel) (pa_cons (pv 1) (pa_cons (pe_bltn (v := .ty "tuple") (by rfl) mT (by decide +kernel) rfl) pa_nil))) (pe_one (pe_cmpR op_eq (pe_callB call_len_seq (by rfl) mL PySem.boot_len (pa_cons (pv 1) pa_nil)) pe_int (nomark _))))) pa_nil))))), ?_⟩
    refine Says.ret (A := isTup e = true ∧ ∀ ps, e = .tuple ps → ∀ p ∈ ps, IsPair p) (.and (says_isi kit_tup (at_var rfl av)) fun H1 x1 it => ?_) fun H' b x1 hb => q H' b x1 (hb.trans ⟨fun ⟨a, c⟩ => ?_, ?_⟩)
    · obtain ⟨ps, rfl⟩ := tup_iff.mp it
      obtain ⟨t, xs, rfl, _, ht, al⟩ := id (av.kept x1).tup_at
      refine Says.imp (says_allV (G := IsPair) (fun Q' q' => Sn.v_of rfl (q' t xs ht al)) (tame_tup tm).2 (fun _ => rfl) fun H' y p e' hp ap => ?_) ⟨fun z ps' e => (by cases e; exact z), fun z => z ps rfl⟩
      refine Says.imp (A := isTup p = true ∧ ∀ ds, p = .tuple ds → ds.length = 2) (.and (says_isi kit_tup (at_var rfl ap)) fun H2 x2 it => ?_) ⟨fun ⟨a, c⟩ => ?_, ?_⟩
      · obtain ⟨ds, rfl⟩ := tup_iff.mp it
        obtain ⟨tp, ys, rfl, _, htp, alp⟩ := id (ap.kept x2).tup_at
        have lp := alp.len
        refine fun Q' q' => Sn.op_of (Sn.cb_of (Sn.c_of (Sn.v_of rfl (Sn.n_of ⟨tp, ys, rfl, .inr (st_of htp), Sn.k_of ⟨rfl, q' H2 _ (Ex.refl H2) (b_iff.trans ⟨fun z ds' e => ?_, fun z => ?_⟩)⟩⟩))))
        · cases e
          have := V.int.inj z
          omega
        · have := z _ rfl
          rw [lp, this]
          rfl
      · obtain ⟨ds, rfl⟩ := tup_iff.mp a
        obtain ⟨u, v, rfl⟩ := two (c _ rfl)
        exact ⟨u, v, rfl⟩
      · rintro ⟨u, v, rfl⟩
        exact ⟨rfl, fun ds e => by cases e; rfl⟩
    · obtain ⟨ps, rfl⟩ := tup_iff.mp a
      exact ⟨ps, rfl, c ps rfl⟩
    · rintro ⟨ps, rfl, c⟩
      exact ⟨rfl, fun ps' e => by cases e; exact c⟩
end
end Kn
/-! _law_anchors_right -/
namespace Kn
open PySem PySem.Spec PyProof.Rows L2 Evl Gd Sn Qw
abbrev sAncR : Stmt := topS 34
abbrev nAncR : List Str := ["_law_thing", "_law_figures_here", "_law_anchor", "_law_one", "_law_word", "_law_called"]
theorem scAncR : FnScope nAncR ["_law_thing", "_law_figures_here"] (defScope sAncR) := ⟨rfl, rfl, rfl, by decide +kernel, rfl, by decide +kernel, by decide +kernel⟩
abbrev rStrAddK : R2 := fun x y H Q => ∃ i j, x = .str i ∧ y = .str j ∧ i.length + j.length ≤ sizeLine ∧ Q (.str (i ++ j)) H
abbrev rStrIK : List V → Hp → VK → Prop := fun xs H Q => ∃ i, xs = [.int i] ∧ i.natAbs.log2 < 1920 ∧ Q (.str (toString i)) H
def gAnR (ns : List Int) (r : PyData) : Prop := ∃ z i, r = .tuple [.str z, .int i] ∧ 0 ≤ i ∧ i ∈ ns ∧ (nameB z = true ∨ ∃ g ∈ grips3, z = gripK g i)
def gAncR (ns : List Int) (e : PyData) : Prop := ∃ rs, e = .tuple rs ∧ (∀ r ∈ rs, gAnR ns r) ∧ (rs.map keyS).Pairwise sLt
/-- a look beside the figures -/
def spFs (K : PySem.W.Frag) (G : List Int → PyData → Prop) : Sp := fun vs H Q _ => ∃ (D : Addr → Prop) (x : V) (e : PyData) (l : Addr) (ns : List Int), vs = [x, .ref l] ∧ Av K D H x e ∧ tame e = true ∧ H l = some (.lst (ns.map V.int)) ∧ ∀ H' (b : Bool), Ex H H' → (b = true ↔ G ns e) → Q (.bl b) H'
theorem inV_ints {k : Int} : ∀ ns : List Int, inV (.int k) (ns.map V.int) = decide (k ∈ ns)
  | [] => by simp [inV]
  | g :: ns => by
    have ih := inV_ints (k := k) ns
    unfold inV at ih ⊢
    rw [List.map_cons, List.any_cons, ih]
    show (decide (g = k) || decide (k ∈ ns)) = decide (k ∈ g :: ns)
    by_cases e : g = k
    · subst e
      simp
    · have e2 : ¬ k = g := fun q => e q.symm
      by_cases m : k ∈ ns
      · simp [m]
      · simp [m, e, e2]
theorem ints_flat (ns : List Int) : (ns.map V.int).all flatV = true := by
  rw [List.all_map]
  exact List.all_eq_true.mpr fun _ _ => rfl
section
variable {K : PySem.W.Frag} {D : Addr → Prop} {σ : L2.St} {H : Hp} {l : Addr} {ns : List Int}
theorem says_inI {te tl : TE} {i : Int} (h : At K D σ H te (.int i)) (hl : ∀ Q : VK, Q (.ref l) H → tl σ H Q) (e : H l = some (.lst (ns.map V.int))) : Says σ H (tOp (rIn K false) te tl) (i ∈ ns) := fun Q q =>
  Sn.op_of (h _ fun x a => hl _ (by
    obtain rfl := a.int_at
    refine ⟨l, _, rfl, .inl (sq_of e), rfl, ints_flat ns, ?_⟩
    rw [if_neg Bool.false_ne_true, inV_ints]
    exact q H _ (Ex.refl H) b_iff))
theorem says_notInI {te tl : TE} {i : Int} (h : At K D σ H te (.int i)) (hl : ∀ Q : VK, Q (.ref l) H → tl σ H Q) (e : H l = some (.lst (ns.map V.int))) : Says σ H (tOp (rIn K true) te tl) (¬ i ∈ ns) := fun Q q =>
  Sn.op_of (h _ fun x a => hl _ (by
    obtain rfl := a.int_at
    refine ⟨l, _, rfl, .inl (sq_of e), rfl, ints_flat ns, ?_⟩
    rw [if_pos rfl, inV_ints]
    exact q H _ (Ex.refl H) nb_iff))
end
section
variable {P : Program} {w : World} {K : PySem.W.Frag} {mg : Str → Option Value} {base : Heap}
theorem ok_ancR {f fP fG fC : Addr} {fd fdP fdG fdC : FuncData} (F : Fun K "_law_anchors_right" "_law_anchors_right" sAncR f fd) (FP : Fun K "_law_pairs_right" "_law_pairs_right" sPairsR fP fdP) (FG : Fun K "_law_is_figure" "_law_is_figure" sFigure fG fdG) (FC : Fun K "_law_is_called" "_law_is_called" sCalled fC fdC)
    (bP : Binds K fdP ["_law_thing"] []) (bG : Binds K fdG ["_law_thing"] []) (bC : Binds K fdC ["_law_thing"] []) (gP : mg "_law_pairs_right" = some (.ref fP)) (gG : mg "_law_is_figure" = some (.ref fG)) (gC : mg "_law_is_called" = some (.ref fC)) (mI : mg "isinstance" = none) (mT : mg "tuple" = none) (mS : mg "str" = none) (mN : mg "int" = none) (mB : mg "bool" = none) (mL : mg "len" = none) (mA : mg "all" = none) (mO : mg "sorted" = none) (mE : mg "set" = none) : FnOk P w K mg base CX0 2 f fd ["_law_thing", "_law_figures_here"] (spFs K gAncR) := by
  have GP : FnOk P w K mg base CX0 1 fP fdP ["_law_thing"] (spV K gPairs) := ok_pairsR FP mI mT mL mA
  have GG : FnOk P w K mg base CX0 1 fG fdG ["_law_thing"] (spV K gFigure) := ok_figure FG mI mN mB
  have GC : FnOk P w K mg base CX0 1 fC fdC ["_law_thing"] spCalled := ok_called FC mL mA
  refine F.ok scAncR (fun vs H Q E h => ?_) (fun cdv A outer s H vs Q E hr h => ?_)
  · obtain ⟨D, x, e, l, ns, rfl, _⟩ := h
    rfl
  · obtain ⟨D, x, e, l, ns, rfl, av, tm, hl, q⟩ := h
    have hu := hu_of hr
    refine ⟨_, pss_cons (ps_if (pt_not (pt_val (pe_call GP hr (by rfl) gP FP.kp bP .nil pass0 (pa_cons (pv 0) pa_nil)))) (pss_one (ps_ret pe_bl)) pss_nil) <|
      pss_cons (ps_for PassesOwn.never rfl (pi_tup (pv 0)) (pg_tup (n := 2) rfl (pgs_cons (pg_name (i := 2) scAncR.nd rfl (.inl rfl)) <| pgs_cons (pg_name (i := 3) scAncR.nd rfl (.inr rfl)) pgs_nil))
        (pss_cons (ps_if (pw_or (pt_not (pt_val (pe_callB call_isi (by rfl) mI (by decide +kernel) (pa_cons (pv 2) (pa_cons (pe_bltn (v := .ty "str") (by rfl) mS (by decide +kernel) rfl) pa_nil))))) (pw_or (pt_not (pt_val (pe_call GG hr (by rfl) gG FG.kp bG .nil pass0 (pa_cons (pv 3) pa_nil)))) (pw_or1 (pt_cmpR op_notIn_seq (pv 3) (pv 1) (by rfl))))).pt (pss_one (ps_ret pe_bl)) pss_nil) <|
         pss_one (ps_if (pw_and (pt_not (pt_val (pe_call GC hr (by rfl) gC FC.kp bC .nil pass0 (pa_cons (pv 2) pa_nil)))) (pw_and1 (pt_cmpR op_notIn_seq (pv 2) (pe_lc (own := [("_law_word", 4)]) (g := gName 4) (tt := tYes) (te := tOp rStrAddK (tOp rStrAddK (tVar 4) (tC (.str " "))) (tCB rStrIK (tCons (tVar 3) tNil))) rfl scAncR.nd (pi_tup (pe_tup (pa_cons pe_str (pa_cons pe_str (pa_cons pe_str pa_nil))))) (blkOk_by (N := nAncR) (sc := defScope sAncR) (by decide +kernel))
            (fun _ _ _ _ _ => pg_name (i := 4) scAncR.nd rfl (.inl rfl)) (fun _ _ _ _ _ => pts_nil) (fun _ _ _ _ _ => pe_op op_add_str (pe_op op_add_str (pv 4) pe_str) (pe_callTy call_str_int (by rfl) mS (by decide +kernel) (pa_cons (pv 3) pa_nil)))) (by rfl)))).pt (pss_one (ps_ret pe_bl)) pss_nil))) <|
      pss_cons (ps_setLc (i := 5) (own := [("_law_anchor", 2), ("_law_one", 3)]) (g := gTup K 2 (gCons (gName 2) (gCons (gName 3) gNil))) (tt := tYes) (te := tVar 2) rfl scAncR.nd rfl rfl (sw_true rfl rfl rfl (by decide +kernel)) (pi_tup (pv 0)) (blkOk_by (N := nAncR) (sc := defScope sAncR) (by decide +kernel))
        (fun _ _ _ _ _ => pg_tup rfl (pgs_cons (pg_name (i := 2) scAncR.nd rfl (.inl rfl)) <| pgs_cons (pg_name (i := 3) scAncR.nd rfl (.inl rfl)) pgs_nil)) (fun _ _ _ _ _ => pts_nil) (fun _ _ _ _ _ => pv 2)) <|
      pss_one (ps_ret (pe_cmpR (op_eqW hr.units) (pv 5) (pe_sortS rfl (by rfl) mO (by rfl) mE (pv 5)) (by rfl))), ?_⟩
    refine Sn.seq_of (SaysT.ifS (SaysT.not (Says.val (says_call (at_var rfl av) tm))) (fun H1 x1 a => ?_) fun H1 x1 a => ?_)
    · refine Sn.ret_of (Sn.k_of (q H1 false x1 (f_iff ?_)))
      rintro ⟨rs, rfl, c, _⟩
      refine a ⟨rs, rfl, fun r hr => ?_⟩
      obtain ⟨z, i, rfl, _⟩ := c r hr
      exact ⟨_, _, rfl⟩
    dsimp only [tNext]
    obtain ⟨rs, rfl, pairs⟩ := Classical.not_not.mp a
    obtain ⟨tp, few⟩ := tame_tup tm
    have few3 := tame_few tm
    obtain ⟨t, xs, rfl, _, ht, al⟩ := id (av.kept x1).tup_at
    have ll := al.len
    have hl1 := x1 _ _ hl
    refine Sn.seq_of (for_of (iT_of (Sn.v_of rfl ⟨t, rfl, ⟨_, st_of ht⟩, for_it (walk_tup (K := K) (a := t) (xs := xs)) (fun i σ' H' => ∃ y z, σ' = [some (.ref t), some (.ref l), y, z, none, none] ∧ Ex H1 H' ∧ ∀ (j : Nat) r, j < i → rs[j]? = some r → gAnR ns r) ⟨none, none, rfl, Ex.refl H1, fun j r h => absurd h (Nat.not_lt_zero _)⟩ (fun i σ' H' _ ⟨_, _, _, e, _⟩ => st_of (e _ _ ht)) ?_ ?_⟩)))
    · rintro i u σ' H20 H2 hi ⟨y, z, rfl, e2, before⟩ ⟨rfl, hu'⟩
      obtain ⟨r, hr2, ar⟩ := al.get hu'
      obtain ⟨a, b, rfl⟩ := pairs r (List.mem_of_getElem? hr2)
      have tmr := tame_tup (tp _ (List.mem_of_getElem? hr2))
      obtain ⟨tr, y1, y2, rfl, htr, a1, a2⟩ := (ar.kept e2).two_at
      have bad : ¬ gAnR ns (.tuple [a, b]) → ∀ H', Ex H2 H' → Q (.bl false) H' := fun n H' e => q H' false ((x1.trans e2).trans e) (f_iff fun ⟨rs', e', c, _⟩ => n (by cases e'; exact c _ (List.mem_of_getElem? hr2)))
      refine ⟨tr, _, rfl, st_of htr, rfl, y1, _, rfl, y2, _, rfl, rfl, ?_⟩
      dsimp only [gName]
      refine Sn.seq_of (SaysT.ifS (A := (¬ isStr a = true) ∨ (¬ gFigure b) ∨ ¬ gOne ns b) (.or (SaysT.not (Says.val (says_isi kit_str (at_var rfl a1)))) fun H3 x3 _ => .or (SaysT.not (Says.val (says_call (at_var rfl (a2.kept x3)) (tmr.1 b (by simp))))) fun H4 x4 fg => ?_) (fun H3 x3 c => ?_) fun H3 x3 c => ?_)
      · obtain ⟨k, rfl, _⟩ := Classical.not_not.mp fg
        exact Says.test (Says.imp (says_notInI (at_var rfl ((a2.kept x3).kept x4)) (fun Q' q' => Sn.v_of rfl q') (((e2.trans x3).trans x4) _ _ hl1)) ⟨fun n ⟨k', e, m⟩ => n (by cases e; exact m), fun n m => n ⟨k, rfl, m⟩⟩)
      · refine Sn.ret_of (Sn.k_of (bad ?_ H3 x3))
        rintro ⟨z, k, e, k0, kn, _⟩
        cases e
        rcases c with c | c | c
        · exact c rfl
        · exact c ⟨k, rfl, k0⟩
        · exact c ⟨k, rfl, kn⟩
      dsimp only [tNext]
      obtain ⟨c1, c2⟩ := not_or.mp c
      obtain ⟨c2, c3⟩ := not_or.mp c2
      obtain ⟨z, rfl⟩ := str_iff.mp (Classical.not_not.mp c1)
      obtain ⟨k, rfl, k0⟩ := Classical.not_not.mp c2
      obtain ⟨k', ek, kn⟩ := Classical.not_not.mp c3
      cases ek
      obtain rfl := a1.str_at
      obtain rfl := a2.int_at
      have wz := tame_str (tmr.1 (.str z) (by simp))
      have lk : k.natAbs.log2 < 1900 := of_decide_eq_true (by have := tmr.1 (.int k) (by simp); rw [tame] at this; exact this)
      have e3 := e2.trans x3
      refine SaysT.ifS (A := ¬ nameB z = true ∧ ¬ ∃ g ∈ grips3, z = gripK g k) (.and (SaysT.not (Says.val fun Q' q' => Sn.call_of (Sn.c_of (Sn.v_of rfl (Sn.n_of ⟨z, rfl, wz, q'⟩))))) fun H4 x4 _ => Says.test fun Q' q' => ?_) (fun H4 x4 c => ?_) fun H4 x4 c => ?_
      · refine Sn.op_of (Sn.v_of rfl (lc_of (iT_of (tup_of (Sn.c_of (Sn.k_of (Sn.c_of (Sn.k_of (Sn.c_of (Sn.k_of (Sn.n_of ⟨by show 3 ≤ sizeLine; decide, fun p hp => ?_⟩)))))))))))
        have x5 : Ex H4 (upd H4 p (.tup (grips3.map V.str))) := Ex.new hp
        have hp5 : (upd H4 p (.tup (grips3.map V.str))) p = some (.tup (grips3.map V.str)) := upd_same
        have eB : upd H4 p (.tup [V.str "pin", V.str "hold", V.str "queue"]) = upd H4 p (.tup (grips3.map V.str)) := rfl
        rw [eB]
        clear eB
        generalize upd H4 p (.tup (grips3.map V.str)) = H5 at x5 hp5 ⊢
        refine ⟨p, rfl, ⟨_, st_of hp5⟩, fun B hB => ?_⟩
        refine lc_tup (xs := grips3.map V.str) (fun m H' => Ex H5 H' ∧ H' B = some (.lst ((grips3.take m).map fun g => V.str (gripK g k)))) ⟨Ex.new hB, upd_same⟩ (fun m H' _ h => st_of (h.1 _ _ hp5)) ?_ ?_
        · rintro m y H' hy ⟨e', hb⟩
          rw [List.getElem?_map] at hy
          obtain ⟨g, hg, rfl⟩ := Option.map_eq_some_iff.mp hy
          have gl := grip_len g (List.mem_of_getElem? hg)
          have l3 : (" " : Str).length = 1 := by decide +kernel
          have l2 : (((toString k : String) : Str)).length ≤ 2000 := by
            rw [PySem.ofString_length]
            have := int_text_length_le (k := 1900) (by decide) lk
            omega
          refine ⟨rfl, ?_⟩
          dsimp only [tYes]
          rw [if_pos rfl]
          refine Sn.op_of (Sn.op_of (Sn.v_of rfl (Sn.k_of ⟨g, _, rfl, rfl, by rw [l3, sizeLine_eq]; omega, Sn.cb_of (Sn.c_of (Sn.v_of rfl (Sn.n_of ⟨k, rfl, by omega, ⟨_, _, rfl, rfl, by rw [Str.length_append, l3, sizeLine_eq]; omega, _, hb, sz_lt (by rw [List.length_map, List.length_take, show grips3.length = 3 from rfl]; omega), Ex.mut e' hB, ?_⟩⟩)))⟩)))
          rw [upd_same, take_one hg, List.map_append]
          rfl
        · rintro H6 ⟨e6, hb⟩
          rw [List.length_map, List.take_length] at hb
          have e7 : (grips3.map fun g => V.str (gripK g k)) = (grips3.map fun g => gripK g k).map V.str := by rw [List.map_map]; rfl
          rw [e7] at hb
          refine ⟨B, _, rfl, .inl (sq_of hb), rfl, texts_flat _, q' H6 _ (x5.trans e6) ?_⟩
          rw [if_pos rfl, inV_texts]
          exact nb_iff.trans (not_congr (List.mem_map.trans ⟨fun ⟨g, m, e⟩ => ⟨g, m, e.symm⟩, fun ⟨g, m, e⟩ => ⟨g, m, e.symm⟩⟩))
      · refine Sn.ret_of (Sn.k_of (bad ?_ H4 (x3.trans x4)))
        rintro ⟨z', k', e, _, _, h⟩
        cases e
        exact h.elim c.1 c.2
      · refine ⟨_, _, rfl, e3.trans x4, fun j r' hj hrj => ?_⟩
        by_cases cj : j = i
        · subst cj
          rw [hr2] at hrj
          cases hrj
          refine ⟨z, k, rfl, k0, kn, ?_⟩
          by_cases n : nameB z = true
          · exact .inl n
          · exact .inr (Classical.byContradiction fun h => c ⟨n, h⟩)
        · exact before j r' (by omega) hrj
    · rintro σ' H2 ⟨y, z, rfl, e2, all⟩
      have ok : ∀ r ∈ rs, gAnR ns r := fun r hr => by
        obtain ⟨j, hj⟩ := List.mem_iff_getElem?.mp hr
        exact all j r (by rw [ll]; exact (List.getElem?_eq_some_iff.mp hj).1) hj
      dsimp only
      refine Sn.seq_of (Sn.asg_of (firstsP (f := V.str) (dt := PyData.str) (key := keyS) (fun a => a.str_at) (fun Q' q' => Sn.v_of rfl (q' t xs (e2 _ _ ht) (al.kept e2))) (fun r hr => ?_) few (fun _ _ => rfl) (fun _ _ => rfl) fun H3 p x3 hp => ?_))
      · obtain ⟨z, k, rfl, _⟩ := ok r hr
        exact ⟨_, rfl⟩
      dsimp only [gName]
      refine Says.ret (srtS (l := p) (ws := rs.map keyS) rfl hp (by rw [List.length_map]; omega)) fun H4 b x4 hb => q H4 b (((x1.trans e2).trans x3).trans x4) (hb.trans ⟨fun z => ⟨rs, rfl, ok, z⟩, ?_⟩)
      rintro ⟨rs', e, _, z⟩
      cases e
      exact z
end
end Kn
/-! _law_inner_right -/
namespace Kn
open PySem PySem.Spec PyProof.Rows L2 Evl Gd Sn Qw
abbrev sInR : Stmt := topS 35
abbrev nInR : List Str := ["_law_shape", "_law_thing", "_law_figures_here", "_law_is_short", "_law_one", "_law_spot", "_law_worth", "_law_spots"]
theorem scInR : FnScope nInR ["_law_shape", "_law_thing", "_law_figures_here"] (defScope sInR) := ⟨rfl, rfl, rfl, by decide +kernel, rfl, by decide +kernel, by decide +kernel⟩
def gP (s : Str) (ns : List Int) (p : PyData) : Prop := ∃ k v, p = .tuple [.int k, v] ∧ 0 ≤ k ∧ (s = "record" → k < 6 ∧ v ≠ .none) ∧ (s = "map" → k ∈ ns) ∧ (v = .none ∨ gOne ns v)
def gMid (s : Str) (ns : List Int) (ps : List PyData) : Prop := (∀ p ∈ ps, gP s ns p) ∧ (ps.map keyP).Pairwise (· < ·)
def gInR (ns : List Int) (s : Str) (e : PyData) : Prop := ∃ ps, e = .tuple ps ∧ gFits ns (.str s) ps
theorem wr : ¬ ("weak" : Str) = "record" := by decide +kernel
theorem wm : ¬ ("weak" : Str) = "map" := by decide +kernel
theorem rm : ¬ ("record" : Str) = "map" := by decide +kernel
theorem fits_weak {ns : List Int} {ps : List PyData} : gFits ns (.str "weak") ps ↔ ps.length ≤ 1 ∧ ∀ p ∈ ps, gOne ns p := by
  constructor
  · rintro (⟨_, h⟩ | ⟨e, _⟩ | ⟨e, _⟩)
    · exact h
    · exact absurd (PyData.str.inj e) wr
    · exact absurd (PyData.str.inj e) wm
  · exact fun h => .inl ⟨rfl, h⟩
theorem fits_mid {ns : List Int} {s : Str} {ps : List PyData} (hn : ∀ k ∈ ns, 0 ≤ k) (hs : s = "record" ∨ s = "map") : gFits ns (.str s) ps ↔ gMid s ns ps := by
  rcases hs with rfl | rfl
  · constructor
    · rintro (⟨e, _⟩ | ⟨_, h, pw⟩ | ⟨e, _⟩)
      · exact absurd (PyData.str.inj e).symm wr
      · refine ⟨fun p hp => ?_, pw⟩
        obtain ⟨k, v, rfl, k0, k6, hv⟩ := h p hp
        exact ⟨k, .int v, rfl, k0, fun _ => ⟨k6, nofun⟩, fun z => absurd z rm, .inr ⟨v, rfl, hv⟩⟩
      · exact absurd (PyData.str.inj e) rm
    · rintro ⟨h, pw⟩
      refine .inr (.inl ⟨rfl, fun p hp => ?_, pw⟩)
      obtain ⟨k, v, rfl, k0, h6, _, hv⟩ := h p hp
      obtain ⟨i, rfl, hi⟩ := hv.resolve_left (h6 rfl).2
      exact ⟨k, i, rfl, k0, (h6 rfl).1, hi⟩
  · constructor
    · rintro (⟨e, _⟩ | ⟨e, _⟩ | ⟨_, h, pw⟩)
      · exact absurd (PyData.str.inj e).symm wm
      · exact absurd (PyData.str.inj e).symm rm
      · refine ⟨fun p hp => ?_, pw⟩
        obtain ⟨k, v, rfl, hk, hv⟩ := h p hp
        exact ⟨k, v, rfl, hn k hk, fun z => absurd z.symm rm, fun _ => hk, hv⟩
    · rintro ⟨h, pw⟩
      refine .inr (.inr ⟨rfl, fun p hp => ?_, pw⟩)
      obtain ⟨k, v, rfl, k0, _, hk, hv⟩ := h p hp
      exact ⟨k, v, rfl, hk rfl, hv⟩
def spInR (K : PySem.W.Frag) : Sp := fun vs H Q _ => ∃ (D : Addr → Prop) (s : Str) (x : V) (e : PyData) (l : Addr) (ns : List Int), vs = [.str s, x, .ref l] ∧ (s = "weak" ∨ s = "record" ∨ s = "map") ∧ Av K D H x e ∧ tame e = true ∧ H l = some (.lst (ns.map V.int)) ∧ (∀ k ∈ ns, 0 ≤ k) ∧ ∀ H' (b : Bool), Ex H H' → (b = true ↔ gInR ns s e) → Q (.bl b) H'
section
variable {K : PySem.W.Frag} {D : Addr → Prop} {σ : L2.St} {H : Hp} {e : PyData} {te tl : TE} {l : Addr} {ns : List Int}
theorem says_isN (h : At K D σ H te e) : Says σ H (tOp (fun x y H Q => y = .non ∧ Q (.bl (decide (x = .non))) H) te (tC .non)) (e = .none) := fun Q q =>
  Sn.op_of (h _ fun x a => Sn.k_of ⟨rfl, q H _ (Ex.refl H) (b_iff.trans (non_iff a))⟩)
theorem says_bvar {i : Nat} {b : Bool} {A : Prop} (h : σ[i]? = some (some (.bl b))) (a : b = true ↔ A) : Says σ H (tVar i) A := fun Q q => Sn.v_of h (q H b (Ex.refl H) a)
/-- is_figure(..) and .. in figures -/
theorem fig_in {E : XK} {i : Nat} {x : V} (h : σ[i]? = some (some x)) (a : Av K D H x e) (tm : tame e = true) (hl : ∀ (H' : Hp) (Q : VK), Q (.ref l) H' → tl σ H' Q) (el : H l = some (.lst (ns.map V.int))) (hn : ∀ k ∈ ns, 0 ≤ k) : Says σ H (tAndV (tCall (spV K gFigure) [] E (tCons (tVar i) tNil)) (tOp (rIn K false) (tVar i) tl)) (gOne ns e) :=
  Says.imp (A := gFigure e ∧ gOne ns e) (.and (says_call (at_var h a) tm) fun H1 x1 ⟨k, ek, k0⟩ => by
    subst ek
    exact Says.imp (says_inI (at_var h (a.kept x1)) (hl H1) (x1 _ _ el)) ⟨fun m => ⟨k, rfl, m⟩, fun ⟨k', e, m⟩ => by cases e; exact m⟩) ⟨fun z => z.2, fun z => ⟨⟨z.choose, z.choose_spec.1, hn _ z.choose_spec.2⟩, z⟩⟩
/-- all([.. for k in ints]) -/
theorem says_allI {el : TE} {i j : Nat} {ks : List Int} {G : Int → Prop} (e : σ[i]? = some (some (.ref l))) (hl : H l = some (.lst (ks.map V.int))) (few : ks.length ≤ 90000) (hw : ∀ y : V, wipe ((wipe σ [j]).set j (some y)) [j] = wipe σ [j])
    (he : ∀ H' k, Ex H H' → k ∈ ks → Says ((wipe σ [j]).set j (some (.int k))) H' el (G k)) : Says σ H (tCB (rAll K) (tCons (tLc (iList K (tVar i)) (gName j) tYes el [j]) tNil)) (∀ k ∈ ks, G k) := fun Q q =>
  Sn.cb_of (Sn.c_of (lc_of (iL_of (Sn.v_of e ⟨l, rfl, ⟨_, sq_of hl⟩, fun B hB => by
    refine lc_list (xs := ks.map V.int) (fun m H' => Ex H H' ∧ ∃ bs : List Bool, H' B = some (.lst (bs.map V.bl)) ∧ bs.length = m ∧ m ≤ ks.length ∧ (bs.all id = true ↔ ∀ k ∈ ks.take m, G k)) ⟨Ex.new hB, [], upd_same, rfl, Nat.zero_le _, ⟨fun _ p hp => (by simp at hp), fun _ => rfl⟩⟩ (fun m H' _ h => sq_of (h.1 _ _ hl)) ?_ ?_
    · rintro m y H' hy ⟨e', bs, hb, ln, le, iff⟩
      rw [List.getElem?_map] at hy
      obtain ⟨k, hk, rfl⟩ := Option.map_eq_some_iff.mp hy
      have il := (List.getElem?_eq_some_iff.mp hk).1
      refine ⟨hw _, ?_⟩
      dsimp only [tYes]
      rw [if_pos rfl]
      refine he H' k e' (List.mem_of_getElem? hk) _ fun H2 b x2 hb2 => ?_
      refine ⟨bs.map V.bl, x2 _ _ hb, sz_lt (by rw [List.length_map]; omega), Ex.mut (e'.trans x2) hB, bs ++ [b], by rw [upd_same, List.map_append]; rfl, by rw [List.length_append, ln]; rfl, il, ?_⟩
      rw [List.all_append, Bool.and_eq_true, iff, take_one hk]
      constructor
      · rintro ⟨a, c⟩ v hv
        rcases List.mem_append.mp hv with hv | hv
        · exact a v hv
        · rw [List.mem_singleton.mp hv]
          exact hb2.mp (by simpa using c)
      · exact fun a => ⟨fun v hv => a v (List.mem_append_left _ hv), by have := hb2.mpr (a k (by simp)); simp [this]⟩
    · rintro H2 ⟨e2, bs, hb, ln, le, iff⟩
      rw [List.length_map, List.take_length] at iff
      exact Sn.n_of ⟨B, bs, rfl, sq_of hb, q H2 _ e2 iff⟩⟩))))
theorem says_eqS {i : Nat} {s z : Str} (h : σ[i]? = some (some (.str s))) : Says σ H (tOp rEq (tVar i) (tC (.str z))) (s = z) := fun Q q =>
  Sn.op_of (Sn.v_of h (Sn.k_of ⟨rfl, q H _ (Ex.refl H) (b_iff.trans ⟨V.str.inj, fun z => by rw [z]⟩)⟩))
end
section
variable {P : Program} {w : World} {K : PySem.W.Frag} {mg : Str → Option Value} {base : Heap}
theorem ok_inR {f fP fG : Addr} {fd fdP fdG : FuncData} (F : Fun K "_law_inner_right" "_law_inner_right" sInR f fd) (FP : Fun K "_law_pairs_right" "_law_pairs_right" sPairsR fP fdP) (FG : Fun K "_law_is_figure" "_law_is_figure" sFigure fG fdG)
    (bP : Binds K fdP ["_law_thing"] []) (bG : Binds K fdG ["_law_thing"] []) (gP' : mg "_law_pairs_right" = some (.ref fP)) (gG : mg "_law_is_figure" = some (.ref fG)) (mI : mg "isinstance" = none) (mT : mg "tuple" = none) (mN : mg "int" = none) (mB : mg "bool" = none) (mL : mg "len" = none) (mA : mg "all" = none) (mO : mg "sorted" = none) (mE : mg "set" = none) : FnOk P w K mg base CX0 2 f fd ["_law_shape", "_law_thing", "_law_figures_here"] (spInR K) := by
  have GP : FnOk P w K mg base CX0 1 fP fdP ["_law_thing"] (spV K gPairs) := ok_pairsR FP mI mT mL mA
  have GG : FnOk P w K mg base CX0 1 fG fdG ["_law_thing"] (spV K gFigure) := ok_figure FG mI mN mB
  refine F.ok scInR (fun vs H Q E h => ?_) (fun cdv A outer s H vs Q E hr h => ?_)
  · obtain ⟨D, s', x, e, l, ns, rfl, _⟩ := h
    rfl
  · obtain ⟨D, s', x, e, l, ns, rfl, hs, av, tm, hl, hn, q⟩ := h
    have hu := hu_of hr
    refine ⟨_, pss_cons (ps_if (pt_cmpR op_eq (pv 0) pe_str (nomark _))
        (pss_cons (ps_set (i := 3) scInR.nd rfl (.inl rfl) (pe_and (pe_callB call_isi (by rfl) mI (by decide +kernel) (pa_cons (pv 1) (pa_cons (pe_bltn (v := .ty "tuple") (by rfl) mT (by decide +kernel) rfl) pa_nil))) (pe_one (pe_cmpR op_lt (pe_callB call_len_seq (by rfl) mL PySem.boot_len (pa_cons (pv 1) pa_nil)) pe_int (nomark _))))) <|
         pss_one (ps_ret (pe_and (pv 3) (pe_one (pe_callB (cr_all rfl) (by rfl) mA (by decide +kernel) (pa_cons (pe_lc (own := [("_law_one", 4)]) (g := gName 4) (tt := tYes) (te := tAndV (tCall (spV K gFigure) [] E0 (tCons (tVar 4) tNil)) (tOp (rIn K false) (tVar 4) (tVar 2))) rfl scInR.nd (pi_tup (pv 1)) (blkOk_by (N := nInR) (sc := defScope sInR) (by decide +kernel))
            (fun _ _ _ _ _ => pg_name (i := 4) scInR.nd rfl (.inl rfl)) (fun _ _ _ _ _ => pts_nil) (fun _ _ _ _ _ => pe_and (pe_call GG hr (by rfl) gG FG.kp bG .nil pass0 (pa_cons (pv 4) pa_nil)) (pe_one (pe_cmpR op_in_seq (pv 4) (pv 2) (by rfl))))) pa_nil)))))) pss_nil) <|
      pss_cons (ps_if (pw_or (pt_not (pt_val (pe_call GP hr (by rfl) gP' FP.kp bP .nil pass0 (pa_cons (pv 1) pa_nil)))) (pw_or1 (pt_not (pt_val (pe_callB (cr_all rfl) (by rfl) mA (by decide +kernel) (pa_cons (pe_lc (own := [("_law_spot", 5), ("_law_worth", 6)]) (g := gTup K 2 (gCons (gName 5) (gCons (gName 6) gNil))) (tt := tYes) (te := tCall (spV K gFigure) [] E0 (tCons (tVar 5) tNil)) rfl scInR.nd (pi_tup (pv 1)) (blkOk_by (N := nInR) (sc := defScope sInR) (by decide +kernel))
            (fun _ _ _ _ _ => pg_tup rfl (pgs_cons (pg_name (i := 5) scInR.nd rfl (.inl rfl)) <| pgs_cons (pg_name (i := 6) scInR.nd rfl (.inl rfl)) pgs_nil)) (fun _ _ _ _ _ => pts_nil) (fun _ _ _ _ _ => pe_call GG hr (by rfl) gG FG.kp bG .nil pass0 (pa_cons (pv 5) pa_nil))) pa_nil)))))).pt (pss_one (ps_ret pe_bl)) pss_nil) <|
      pss_cons (ps_setLc (i := 7) (own := [("_law_spot", 5), ("_law_worth", 6)]) (g := gTup K 2 (gCons (gName 5) (gCons (gName 6) gNil))) (tt := tYes) (te := tVar 5) rfl scInR.nd rfl rfl (sw_true rfl rfl rfl (by decide +kernel)) (pi_tup (pv 1)) (blkOk_by (N := nInR) (sc := defScope sInR) (by decide +kernel))
        (fun _ _ _ _ _ => pg_tup rfl (pgs_cons (pg_name (i := 5) scInR.nd rfl (.inl rfl)) <| pgs_cons (pg_name (i := 6) scInR.nd rfl (.inl rfl)) pgs_nil)) (fun _ _ _ _ _ => pts_nil) (fun _ _ _ _ _ => pv 5)) <|
      pss_cons (ps_if (pt_cmpR (op_neI hr.units) (pv 7) (pe_sortI rfl (by rfl) mO (by rfl) mE (pv 7)) (by rfl)) (pss_one (ps_ret pe_bl)) pss_nil) <|
      pss_cons (ps_if (pw_and (pt_cmpR op_eq (pv 0) pe_str (nomark _)) (pw_and1 (pt_not (pt_val (pe_callB (cr_all rfl) (by rfl) mA (by decide +kernel) (pa_cons (pe_lc (own := [("_law_spot", 5), ("_law_worth", 6)]) (g := gTup K 2 (gCons (gName 5) (gCons (gName 6) gNil))) (tt := tYes) (te := tAndV (tOp (rI0 fun i j => .bl (decide (i < j))) (tVar 5) (tC (.int 6))) (tOp (fun x y H Q => y = .non ∧ Q (.bl (!decide (x = .non))) H) (tVar 6) (tC .non))) rfl scInR.nd (pi_tup (pv 1)) (blkOk_by (N := nInR) (sc := defScope sInR) (by decide +kernel))
            (fun _ _ _ _ _ => pg_tup rfl (pgs_cons (pg_name (i := 5) scInR.nd rfl (.inl rfl)) <| pgs_cons (pg_name (i := 6) scInR.nd rfl (.inl rfl)) pgs_nil)) (fun _ _ _ _ _ => pts_nil) (fun _ _ _ _ _ => pe_and (pe_cmpR op_lt (pv 5) pe_int (nomark _)) (pe_one (pe_cmpR op_notN (pv 6) pe_non (nomark _))))) pa_nil)))))).pt (pss_one (ps_ret pe_bl)) pss_nil) <|
      pss_cons (ps_if (pw_and (pt_cmpR op_eq (pv 0) pe_str (nomark _)) (pw_and1 (pt_not (pt_val (pe_callB (cr_all rfl) (by rfl) mA (by decide +kernel) (pa_cons (pe_lc (own := [("_law_spot", 5)]) (g := gName 5) (tt := tYes) (te := tOp (rIn K false) (tVar 5) (tVar 2)) rfl scInR.nd (pi_list (pv 7)) (blkOk_by (N := nInR) (sc := defScope sInR) (by decide +kernel))
            (fun _ _ _ _ _ => pg_name (i := 5) scInR.nd rfl (.inl rfl)) (fun _ _ _ _ _ => pts_nil) (fun _ _ _ _ _ => pe_cmpR op_in_seq (pv 5) (pv 2) (by rfl))) pa_nil)))))).pt (pss_one (ps_ret pe_bl)) pss_nil) <|
      pss_one (ps_ret (pe_callB (cr_all rfl) (by rfl) mA (by decide +kernel) (pa_cons (pe_lc (own := [("_law_spot", 5), ("_law_worth", 6)]) (g := gTup K 2 (gCons (gName 5) (gCons (gName 6) gNil))) (tt := tYes) (te := tOrV (tOp (fun x y H Q => y = .non ∧ Q (.bl (decide (x = .non))) H) (tVar 6) (tC .non)) (tAndV (tCall (spV K gFigure) [] E0 (tCons (tVar 6) tNil)) (tOp (rIn K false) (tVar 6) (tVar 2)))) rfl scInR.nd (pi_tup (pv 1)) (blkOk_by (N := nInR) (sc := defScope sInR) (by decide +kernel))
            (fun _ _ _ _ _ => pg_tup rfl (pgs_cons (pg_name (i := 5) scInR.nd rfl (.inl rfl)) <| pgs_cons (pg_name (i := 6) scInR.nd rfl (.inl rfl)) pgs_nil)) (fun _ _ _ _ _ => pts_nil) (fun _ _ _ _ _ => pe_or (pe_cmpR op_isN (pv 6) pe_non (nomark _)) (pe_one (pe_and (pe_call GG hr (by rfl) gG FG.kp bG .nil pass0 (pa_cons (pv 6) pa_nil)) (pe_one (pe_cmpR op_in_seq (pv 6) (pv 2) (by rfl))))))) pa_nil))), ?_⟩
    refine Sn.seq_of (SaysT.ifS (Says.test (says_eqS rfl)) (fun H1 x1 a => ?_) fun H1 x1 nw => ?_)
    · subst a
      have av1 := av.kept x1
      refine Sn.seq_of (Sn.asg_of (Says.and (B := ∀ ps, e = .tuple ps → ps.length ≤ 1) (says_isi kit_tup (at_var rfl av1)) (fun H2 x2 it => ?_) _ fun H2 b x2 hb => ?_))
      · obtain ⟨ps, rfl⟩ := tup_iff.mp it
        obtain ⟨t, xs, rfl, _, ht, al⟩ := id (av1.kept x2).tup_at
        have ll := al.len
        exact fun Q' q' => Sn.op_of (Sn.cb_of (Sn.c_of (Sn.v_of rfl (Sn.n_of ⟨t, xs, rfl, .inr (st_of ht), Sn.k_of ⟨_, _, rfl, rfl, q' H2 _ (Ex.refl H2) (b_iff.trans ⟨fun z ps' e => by cases e; omega, fun z => by have := z _ rfl; omega⟩)⟩⟩))))
      dsimp only [gName]
      refine Says.ret (.and (B := ∀ ps, e = .tuple ps → ∀ p ∈ ps, gOne ns p) (says_bvar rfl hb) fun H3 x3 h => ?_) fun H4 b' x4 hb' => q H4 b' ((x1.trans x2).trans x4) (hb'.trans ⟨fun ⟨⟨z1, z2⟩, z3⟩ => ?_, ?_⟩)
      · obtain ⟨ps, rfl⟩ := tup_iff.mp h.1
        have av3 := (av1.kept x2).kept x3
        obtain ⟨t, xs, rfl, _, ht, al⟩ := id av3.tup_at
        exact Says.imp (says_allV (G := gOne ns) (fun Q' q' => Sn.v_of rfl (q' t xs ht al)) (tame_tup tm).2 (fun _ => rfl) fun H' y p e' hp ap => fig_in (tl := tVar 2) rfl ap ((tame_tup tm).1 p hp) (fun H5 Q' q' => Sn.v_of rfl q') ((((x1.trans x2).trans x3).trans e') _ _ hl) hn) ⟨fun z ps' e => (by cases e; exact z), fun z => z _ rfl⟩
      · obtain ⟨ps, rfl⟩ := tup_iff.mp z1
        exact ⟨ps, rfl, fits_weak.mpr ⟨z2 _ rfl, z3 _ rfl⟩⟩
      · rintro ⟨ps, rfl, h⟩
        obtain ⟨h1, h2⟩ := fits_weak.mp h
        exact ⟨⟨rfl, fun ps' e => by cases e; exact h1⟩, fun ps' e => by cases e; exact h2⟩
    dsimp only [tNext]
    have hs2 : s' = "record" ∨ s' = "map" := hs.resolve_left nw
    have q : ∀ H' (b : Bool), Ex H1 H' → (b = true ↔ ∃ ps, e = .tuple ps ∧ gMid s' ns ps) → Q (.bl b) H' := fun H' b x hb => q H' b (x1.trans x) (hb.trans ⟨fun ⟨ps, e, z⟩ => ⟨ps, e, (fits_mid hn hs2).mpr z⟩, fun ⟨ps, e, z⟩ => ⟨ps, e, (fits_mid hn hs2).mp z⟩⟩)
    have av1 := av.kept x1
    have hl1 := x1 _ _ hl
    refine Sn.seq_of (SaysT.ifS (A := (¬ gPairs e) ∨ ¬ ∀ ps, e = .tuple ps → ∀ a b, PyData.tuple [a, b] ∈ ps → gFigure a) (.or (SaysT.not (Says.val (says_call (at_var rfl av1) tm))) fun H2 x2 gp => ?_) (fun H2 x2 a => ?_) fun H2 x2 a => ?_)
    · obtain ⟨ps, rfl, pairs⟩ := Classical.not_not.mp gp
      obtain ⟨t, xs, rfl, _, ht, al⟩ := id (av1.kept x2).tup_at
      obtain ⟨tp, few⟩ := tame_tup tm
      exact SaysT.imp (SaysT.not (Says.val (says_allP (G := fun a _ => gFigure a) (fun Q' q' => Sn.v_of rfl (q' t xs ht al)) few pairs (fun _ _ => rfl) fun H' y z a b e' hm ay _ => says_call (at_var rfl ay) ((tame_tup (tp _ hm)).1 a (by simp))))) ⟨fun n z => n (z ps rfl), fun n z => n fun ps' e => (by cases e; exact z)⟩
    · refine Sn.ret_of (Sn.k_of (q H2 false x2 (f_iff ?_)))
      rintro ⟨ps, rfl, h, _⟩
      rcases a with a | a
      · refine a ⟨ps, rfl, fun p hp => ?_⟩
        obtain ⟨k, v, rfl, _⟩ := h p hp
        exact ⟨_, _, rfl⟩
      · refine a fun ps' e a b hm => ?_
        cases e
        obtain ⟨k, v, e, k0, _⟩ := h _ hm
        cases e
        exact ⟨k, rfl, k0⟩
    dsimp only [tNext]
    obtain ⟨a1, a2⟩ := not_or.mp a
    obtain ⟨ps, rfl, pairs⟩ := Classical.not_not.mp a1
    have figs := Classical.not_not.mp a2 ps rfl
    obtain ⟨tp, few⟩ := tame_tup tm
    have few3 := tame_few tm
    have keys : ∀ p ∈ ps, ∃ b, p = .tuple [.int (keyP p), b] ∧ 0 ≤ keyP p := fun p hp => by
      obtain ⟨a, b, rfl⟩ := pairs p hp
      obtain ⟨k, rfl, k0⟩ := figs a b hp
      exact ⟨b, rfl, k0⟩
    have q : ∀ H' (b : Bool), Ex H1 H' → (b = true ↔ gMid s' ns ps) → Q (.bl b) H' := fun H' b x hb => q H' b x (hb.trans ⟨fun z => ⟨ps, rfl, z⟩, fun ⟨ps', e, z⟩ => by cases e; exact z⟩)
    have tup : ∀ {H'}, Ex H1 H' → ∀ {σ : L2.St}, σ[1]? = some (some x) → ∀ Q : VK, (∀ t xs, H' t = some (.tup xs) → AvAll K D H' xs ps → Q (.ref t) H') → tVar 1 σ H' Q := fun e' σ hσ Q q => by
      obtain ⟨t, xs, rfl, _, ht, al⟩ := id (av1.kept e').tup_at
      exact Sn.v_of hσ (q t xs ht al)
    refine Sn.seq_of (Sn.asg_of (firstsP (f := V.int) (dt := PyData.int) (key := keyP) (fun a => a.int_at) (tup x2 rfl) (fun p hp => (keys p hp).imp fun b h => h.1) few (fun _ _ => rfl) (fun _ _ => rfl) fun H3 p3 x3 hp3 => ?_))
    dsimp only [gName]
    have x13 := x2.trans x3
    refine Sn.seq_of (SaysT.ifS (Says.test (srtI (l := p3) (ns := ps.map keyP) rfl hp3 (by rw [List.length_map]; omega))) (fun H4 x4 c => ?_) fun H4 x4 c => ?_)
    · exact Sn.ret_of (Sn.k_of (q H4 false (x13.trans x4) (f_iff fun z => c z.2)))
    dsimp only [tNext]
    have asc := Classical.not_not.mp c
    have x14 := x13.trans x4
    refine Sn.seq_of (SaysT.ifS (A := s' = "record" ∧ ¬ ∀ a b, PyData.tuple [a, b] ∈ ps → (∀ k, a = .int k → k < 6) ∧ ¬ b = .none) (.and (Says.test (says_eqS rfl)) fun H5 x5 _ => SaysT.not (Says.val (says_allP (tup (x14.trans x5) rfl) few pairs (fun _ _ => rfl) fun H' y z a b e' hm ay az => .and ?_ fun H6 x6 _ => says_notN (at_var rfl (az.kept x6))))) (fun H5 x5 d => ?_) fun H5 x5 d => ?_)
    · obtain ⟨k, rfl, _⟩ := figs a b hm
      obtain rfl := ay.int_at
      exact fun Q' q' => Sn.op_of (Sn.v_of rfl (Sn.k_of ⟨k, 6, rfl, rfl, q' H' _ (Ex.refl H') (b_iff.trans ⟨fun z j e => (by cases e; exact z), fun z => z k rfl⟩)⟩))
    · refine Sn.ret_of (Sn.k_of (q H5 false (x14.trans x5) (f_iff fun z => d.2 fun a b hm => ?_)))
      obtain ⟨k, v, e, _, h6, _⟩ := z.1 _ hm
      cases e
      exact ⟨fun j e => (by cases e; exact (h6 d.1).1), (h6 d.1).2⟩
    dsimp only [tNext]
    have x15 := x14.trans x5
    have p35 := (x4.trans x5) _ _ hp3
    refine Sn.seq_of (SaysT.ifS (A := s' = "map" ∧ ¬ ∀ k ∈ ps.map keyP, k ∈ ns) (.and (Says.test (says_eqS rfl)) fun H6 x6 _ => SaysT.not (Says.val (says_allI (l := p3) rfl (x6 _ _ p35) (by rw [List.length_map]; exact few) (fun _ => rfl) fun H' k e' hk => says_inI (tl := tVar 2) (D := D) (at_var rfl (.int k)) (fun Q' q' => Sn.v_of rfl q') (((x15.trans x6).trans e') _ _ hl1)))) (fun H6 x6 g => ?_) fun H6 x6 g => ?_)
    · refine Sn.ret_of (Sn.k_of (q H6 false (x15.trans x6) (f_iff fun z => g.2 fun k hk => ?_)))
      obtain ⟨p, hp, rfl⟩ := List.mem_map.mp hk
      obtain ⟨k, v, rfl, _, _, hm, _⟩ := z.1 p hp
      exact hm g.1
    dsimp only [tNext]
    have x16 := x15.trans x6
    refine Says.ret (A := ∀ a b, PyData.tuple [a, b] ∈ ps → b = .none ∨ gOne ns b) (says_allP (tup x16 rfl) few pairs (fun _ _ => rfl) fun H' y z a b e' hm ay az => .or (says_isN (at_var rfl az)) fun H7 x7 _ => fig_in (tl := tVar 2) rfl (az.kept x7) ((tame_tup (tp _ hm)).1 b (by simp)) (fun H8 Q' q' => Sn.v_of rfl q') (((x16.trans e').trans x7) _ _ hl1) hn) fun H7 b' x7 hb => q H7 b' (x16.trans x7) (hb.trans ⟨fun z => ⟨fun p hp => ?_, asc⟩, fun z a b hm => ?_⟩)
    · obtain ⟨b, ep, k0⟩ := keys p hp
      have hm : PyData.tuple [.int (keyP p), b] ∈ ps := by rw [← ep]; exact hp
      refine ⟨keyP p, b, ep, k0, fun e => ?_, fun e => ?_, z _ _ hm⟩
      · have := Classical.not_not.mp (fun n => d ⟨e, n⟩) _ _ hm
        exact ⟨this.1 _ rfl, this.2⟩
      · exact Classical.not_not.mp (fun n => g ⟨e, n⟩) _ (List.mem_map.mpr ⟨p, hp, rfl⟩)
    · obtain ⟨k, v, e, _, _, _, hv⟩ := z.1 _ hm
      cases e
      exact hv
end
end Kn
/-! _law_shot_right -/
namespace Kn
open PySem PySem.Spec PyProof.Rows L2 Evl Gd Sn Qw
abbrev sShR : Stmt := topS 36
abbrev nShR : List Str := ["_law_thing", "_law_one", "_law_figures_here", "_law_home", "_law_shape", "_law_parts_here"]
theorem scShR : FnScope nShR ["_law_thing"] (defScope sShR) := ⟨rfl, rfl, rfl, by decide +kernel, rfl, by decide +kernel, by decide +kernel⟩
def kindsK : List Str := ["record", "weak", "map"]
def gL4 (o : PyData) : Prop := ∃ i h s p, o = .tuple [.int i, .str h, .str s, p] ∧ 0 ≤ i ∧ h ∈ homesK ∧ s ∈ kindsK
def gIn (ns : List Int) (o : PyData) : Prop := ∀ i h s p, o = .tuple [i, h, .str s, p] → gInR ns s p
def gLaw (e : PyData) : Prop := ∃ a os, e = .tuple [a, .tuple os] ∧ os.length ≤ 400 ∧ (∀ o ∈ os, gL4 o) ∧ (os.map keyP).Pairwise (· < ·) ∧ gAncR (os.map keyP) a ∧ ∀ o ∈ os, gIn (os.map keyP) o
theorem fits_kind {ns : List Int} {s : PyData} {ps : List PyData} (h : gFits ns s ps) : ∃ z, s = .str z ∧ z ∈ kindsK := by
  rcases h with ⟨rfl, _⟩ | ⟨rfl, _⟩ | ⟨rfl, _⟩
  · exact ⟨_, rfl, .tail _ (.head _)⟩
  · exact ⟨_, rfl, .head _⟩
  · exact ⟨_, rfl, .tail _ (.tail _ (.head _))⟩
theorem snap_law {e : PyData} : gLaw e ↔ gSnap e := by
  constructor
  · rintro ⟨a, os, rfl, l4, h4, asc, ⟨rs, rfl, ra, rp⟩, ins⟩
    refine ⟨rs, os, rfl, l4, fun o ho => ?_, asc, fun o ho => ?_, fun r hr => ?_, rp⟩
    · obtain ⟨i, h, s, p, rfl, i0, hh, _⟩ := h4 o ho
      obtain ⟨ps, rfl, _⟩ := ins _ ho _ _ _ _ rfl
      exact ⟨i, h, _, ps, rfl, i0, hh⟩
    · obtain ⟨i, h, s, p, rfl, _⟩ := h4 o ho
      intro i' h' s' ps e
      obtain ⟨ps', ep, f⟩ := ins _ ho _ _ _ _ rfl
      subst ep
      cases e
      exact f
    · obtain ⟨z, i, rfl, _, hi, hz⟩ := ra r hr
      exact ⟨z, i, rfl, hi, hz⟩
  · rintro ⟨rs, os, rfl, l4, hd, asc, srt, rts, rp⟩
    have hn : ∀ k ∈ os.map keyP, 0 ≤ k := fun k hk => by
      obtain ⟨o, ho, rfl⟩ := List.mem_map.mp hk
      obtain ⟨i, h, s, ps, rfl, i0, _⟩ := hd o ho
      exact i0
    refine ⟨_, os, rfl, l4, fun o ho => ?_, asc, ⟨rs, rfl, fun r hr => ?_, rp⟩, fun o ho => ?_⟩
    · obtain ⟨i, h, s, ps, rfl, i0, hh⟩ := hd o ho
      obtain ⟨z, rfl, hz⟩ := fits_kind (srt _ ho _ _ _ _ rfl)
      exact ⟨i, h, z, _, rfl, i0, hh, hz⟩
    · obtain ⟨z, i, rfl, hi, hz⟩ := rts r hr
      exact ⟨z, i, rfl, hn i hi, hi, hz⟩
    · obtain ⟨i, h, s, ps, rfl, i0, hh⟩ := hd o ho
      intro i' h' s' p e
      have f := srt _ ho _ _ _ _ rfl
      cases e
      exact ⟨ps, rfl, f⟩
section
variable {K : PySem.W.Frag} {D : Addr → Prop} {σ : L2.St} {H : Hp} {e : PyData} {te tl : TE} {l : Addr} {ns : List Int}
abbrev lenK (K : PySem.W.Frag) : List V → Hp → VK → Prop := fun xs H Q => ∃ p ys, xs = [.ref p] ∧ (SqL K H p ys ∨ SqT K H p ys) ∧ Q (.int ys.length) H
theorem len_at {ds : List PyData} (h : At K D σ H te (.tuple ds)) {Q : VK} (q : Q (.int ds.length) H) : tCB (lenK K) (tCons te tNil) σ H Q :=
  Sn.cb_of (Sn.c_of (h _ fun x a => by
    obtain ⟨t, xs, rfl, _, ht, al⟩ := a.tup_at
    have ll := al.len
    exact Sn.n_of ⟨t, xs, rfl, .inr (st_of ht), by rw [ll]; exact q⟩))
theorem says_lenNe {ds : List PyData} {k : Nat} (h : At K D σ H te (.tuple ds)) : Says σ H (tOp rNe (tCB (lenK K) (tCons te tNil)) (tC (.int k))) (¬ ds.length = k) := fun Q q =>
  Sn.op_of (len_at h (Sn.k_of ⟨rfl, q H _ (Ex.refl H) (nb_iff.trans ⟨fun z y => z (by rw [y]), fun z y => z (by have := V.int.inj y; omega)⟩)⟩))
theorem says_notTx {ta : TA} {z : Str} {zs : List Str} (h : At K D σ H te (.str z)) (ht : ∀ Q : List V → Hp → Prop, Q (zs.map V.str) H → ta σ H Q) (few : zs.length ≤ 100) : Says σ H (tOp (rIn K true) te (tTup ta)) (¬ z ∈ zs) := fun Q q =>
  Sn.op_of (h _ fun x a => tup_of (ht _ ⟨by rw [List.length_map]; exact Nat.le_trans few (by show 100 ≤ sizeLine; decide), fun p hp => (by
    obtain rfl := a.str_at
    refine ⟨p, _, rfl, .inr (st_of upd_same), rfl, texts_flat zs, ?_⟩
    rw [if_pos rfl, inV_texts]
    exact q _ _ (Ex.new hp) nb_iff)⟩))
/-- [row[0] for row in rows] -/
theorem firstsT {α : Type} {f : α → V} {dt : α → PyData} {key : PyData → α} {j : Nat} {ps : List PyData} (hf : ∀ {H' : Hp} {y : V} {a : α}, Av K D H' y (dt a) → y = f a) (ht : ∀ Q : VK, (∀ t xs, H t = some (.tup xs) → AvAll K D H xs ps → Q (.ref t) H) → te σ H Q) (hk : ∀ p ∈ ps, ∃ r, p = .tuple (dt (key p) :: r)) (few : ps.length ≤ 90000) (hw : ∀ y : V, wipe ((wipe σ [j]).set j (some y)) [j] = wipe σ [j]) (hj : ∀ y : V, ((wipe σ [j]).set j (some y))[j]? = some (some y)) {Q : VK}
    (q : ∀ H' p, Ex H H' → H' p = some (.lst ((ps.map key).map f)) → Q (.ref p) H') : tLc (iTup K te) (gName j) tYes (tOp (rIxT K) (tVar j) (tC (.int 0))) [j] σ H Q :=
  lc_of (iT_of (ht _ fun t xs ht al => ⟨t, rfl, ⟨_, st_of ht⟩, fun B hB => by
    have ll := al.len
    refine lc_tup (xs := xs) (fun m H' => Ex H H' ∧ H' B = some (.lst (((ps.take m).map key).map f))) ⟨Ex.new hB, upd_same⟩ (fun m H' _ h => st_of (h.1 _ _ ht)) ?_ ?_
    · rintro m y H' hy ⟨e', hb⟩
      have il := (List.getElem?_eq_some_iff.mp hy).1
      obtain ⟨p, hp, ap⟩ := al.get hy
      obtain ⟨r, ep⟩ := hk p (List.mem_of_getElem? hp)
      rw [ep] at ap
      refine ⟨hw y, ?_⟩
      dsimp only [tYes]
      rw [if_pos rfl]
      refine at_item (k := 0) (d := dt (key p)) (hj y) (ap.kept e') rfl _ fun v av => ?_
      rw [hf av]
      refine ⟨_, hb, sz_lt (by rw [List.length_map, List.length_map, List.length_take]; omega), Ex.mut e' hB, ?_⟩
      rw [upd_same, take_one hp, List.map_append, List.map_append]
      rfl
    · rintro H' ⟨e', hb⟩
      rw [ll, List.take_length] at hb
      exact q H' B e' hb⟩))
/-- all([.. for a, b, c, d in rows]) -/
theorem says_all4 {el : TE} {i j k m : Nat} {ps : List PyData} {G : PyData → Prop} (ht : ∀ Q : VK, (∀ t xs, H t = some (.tup xs) → AvAll K D H xs ps → Q (.ref t) H) → te σ H Q) (few : ps.length ≤ 90000) (quads : ∀ p ∈ ps, ∃ a b c d, p = .tuple [a, b, c, d]) (hw : ∀ y z u v : V, wipe (((((wipe σ [i, j, k, m]).set i (some y)).set j (some z)).set k (some u)).set m (some v)) [i, j, k, m] = wipe σ [i, j, k, m])
    (he : ∀ H' y z u v a b c d, Ex H H' → PyData.tuple [a, b, c, d] ∈ ps → Av K D H' y a → Av K D H' z b → Av K D H' u c → Av K D H' v d → Says (((((wipe σ [i, j, k, m]).set i (some y)).set j (some z)).set k (some u)).set m (some v)) H' el (G (.tuple [a, b, c, d]))) : Says σ H (tCB (rAll K) (tCons (tLc (iTup K te) (gTup K 4 (gCons (gName i) (gCons (gName j) (gCons (gName k) (gCons (gName m) gNil))))) tYes el [i, j, k, m]) tNil)) (∀ p ∈ ps, G p) := fun Q q =>
  Sn.cb_of (Sn.c_of (lc_of (iT_of (ht _ fun t xs ht al => ⟨t, rfl, ⟨_, st_of ht⟩, fun B hB => by
    have ll := al.len
    refine lc_tup (xs := xs) (fun m H' => Ex H H' ∧ ∃ bs : List Bool, H' B = some (.lst (bs.map V.bl)) ∧ bs.length = m ∧ m ≤ ps.length ∧ (bs.all id = true ↔ ∀ p ∈ ps.take m, G p)) ⟨Ex.new hB, [], upd_same, rfl, Nat.zero_le _, ⟨fun _ p hp => (by simp at hp), fun _ => rfl⟩⟩ (fun m H' _ h => st_of (h.1 _ _ ht)) ?_ ?_
    · rintro m' w' H' hu ⟨e', bs, hb, ln, le, iff⟩
      obtain ⟨p, hp, ap⟩ := al.get hu
      have hm := List.mem_of_getElem? hp
      obtain ⟨a, b, c, d, rfl⟩ := quads p hm
      have il := (List.getElem?_eq_some_iff.mp hp).1
      obtain ⟨tp, y, z, u, v, rfl, htp, ay, az, au, av⟩ := (ap.kept e').four_at
      refine ⟨tp, _, rfl, st_of htp, rfl, y, _, rfl, z, _, rfl, u, _, rfl, v, _, rfl, rfl, hw y z u v, ?_⟩
      dsimp only [tYes]
      rw [if_pos rfl]
      refine he H' y z u v a b c d e' hm ay az au av _ fun H2 b' x2 hb2 => ?_
      refine ⟨bs.map V.bl, x2 _ _ hb, sz_lt (by rw [List.length_map]; omega), Ex.mut (e'.trans x2) hB, bs ++ [b'], by rw [upd_same, List.map_append]; rfl, by rw [List.length_append, ln]; rfl, il, ?_⟩
      rw [List.all_append, Bool.and_eq_true, iff, take_one hp]
      constructor
      · rintro ⟨c1, c2⟩ p' hv
        rcases List.mem_append.mp hv with hv | hv
        · exact c1 p' hv
        · rw [List.mem_singleton.mp hv]
          exact hb2.mp (by simpa using c2)
      · exact fun c => ⟨fun p' hv => c p' (List.mem_append_left _ hv), by have := hb2.mpr (c _ (List.mem_append_right _ List.mem_cons_self)); simp [this]⟩
    · rintro H2 ⟨e2, bs, hb, ln, le, iff⟩
      rw [ll, List.take_length] at iff
      exact Sn.n_of ⟨B, bs, rfl, sq_of hb, q H2 _ e2 iff⟩⟩))))
end
section
variable {P : Program} {w : World} {K : PySem.W.Frag} {mg : Str → Option Value} {base : Heap}
theorem ok_shR {f fP fG fC fA fN : Addr} {fd fdP fdG fdC fdA fdN : FuncData} (F : Fun K "_law_shot_right" "_law_shot_right" sShR f fd) (FP : Fun K "_law_pairs_right" "_law_pairs_right" sPairsR fP fdP) (FG : Fun K "_law_is_figure" "_law_is_figure" sFigure fG fdG) (FC : Fun K "_law_is_called" "_law_is_called" sCalled fC fdC) (FA : Fun K "_law_anchors_right" "_law_anchors_right" sAncR fA fdA) (FN : Fun K "_law_inner_right" "_law_inner_right" sInR fN fdN)
    (bP : Binds K fdP ["_law_thing"] []) (bG : Binds K fdG ["_law_thing"] []) (bC : Binds K fdC ["_law_thing"] []) (bA : Binds K fdA ["_law_thing", "_law_figures_here"] []) (bN : Binds K fdN ["_law_shape", "_law_thing", "_law_figures_here"] []) (gP' : mg "_law_pairs_right" = some (.ref fP)) (gG : mg "_law_is_figure" = some (.ref fG)) (gC : mg "_law_is_called" = some (.ref fC)) (gA : mg "_law_anchors_right" = some (.ref fA)) (gN : mg "_law_inner_right" = some (.ref fN)) (mI : mg "isinstance" = none) (mT : mg "tuple" = none) (mS : mg "str" = none) (mN : mg "int" = none) (mB : mg "bool" = none) (mL : mg "len" = none) (mA : mg "all" = none) (mO : mg "sorted" = none) (mE : mg "set" = none) : FnOk P w K mg base CX0 3 f fd ["_law_thing"] (spV K gSnap) := by
  have GG : FnOk P w K mg base CX0 2 fG fdG ["_law_thing"] (spV K gFigure) := (ok_figure FG mI mN mB).mono (by decide)
  have GA : FnOk P w K mg base CX0 2 fA fdA ["_law_thing", "_law_figures_here"] (spFs K gAncR) := ok_ancR FA FP FG FC bP bG bC gP' gG gC mI mT mS mN mB mL mA mO mE
  have GN : FnOk P w K mg base CX0 2 fN fdN ["_law_shape", "_law_thing", "_law_figures_here"] (spInR K) := ok_inR FN FP FG bP bG gP' gG mI mT mN mB mL mA mO mE
  refine F.ok scShR (fun vs H Q E h => ?_) (fun cdv A outer s H vs Q E hr h => ?_)
  · obtain ⟨D, x, e, rfl, _⟩ := h
    rfl
  · obtain ⟨D, x, e, rfl, av, tm, q⟩ := h
    have hu := hu_of hr
    refine ⟨_, pss_cons (ps_if (pw_or (pt_not (pt_val (pe_callB call_isi (by rfl) mI (by decide +kernel) (pa_cons (pv 0) (pa_cons (pe_bltn (v := .ty "tuple") (by rfl) mT (by decide +kernel) rfl) pa_nil))))) (pw_or (pt_cmpR op_ne (pe_callB call_len_seq (by rfl) mL PySem.boot_len (pa_cons (pv 0) pa_nil)) pe_int (nomark _)) (pw_or (pt_not (pt_val (pe_callB call_isi (by rfl) mI (by decide +kernel) (pa_cons (pe_ix ix_tup (pv 0) pe_int (fun _ _ => rfl)) (pa_cons (pe_bltn (v := .ty "tuple") (by rfl) mT (by decide +kernel) rfl) pa_nil))))) (pw_or1 (pt_cmpR op_gt (pe_callB call_len_seq (by rfl) mL PySem.boot_len (pa_cons (pe_ix ix_tup (pv 0) pe_int (fun _ _ => rfl)) pa_nil)) pe_int (nomark _)))))).pt (pss_one (ps_ret pe_bl)) pss_nil) <|
      pss_cons (ps_for PassesOwn.never rfl (pi_tup (pe_ix ix_tup (pv 0) pe_int (fun _ _ => rfl))) (pg_name (i := 1) scShR.nd rfl (.inl rfl))
        (pss_cons (ps_if (pw_or (pt_not (pt_val (pe_callB call_isi (by rfl) mI (by decide +kernel) (pa_cons (pv 1) (pa_cons (pe_bltn (v := .ty "tuple") (by rfl) mT (by decide +kernel) rfl) pa_nil))))) (pw_or (pt_cmpR op_ne (pe_callB call_len_seq (by rfl) mL PySem.boot_len (pa_cons (pv 1) pa_nil)) pe_int (nomark _)) (pw_or1 (pt_not (pt_val (pe_call GG hr (by rfl) gG FG.kp bG .nil pass0 (pa_cons (pe_ix ix_tup (pv 1) pe_int (fun _ _ => rfl)) pa_nil))))))).pt (pss_one (ps_ret pe_bl)) pss_nil) <|
         pss_cons (ps_if (pw_or (pt_not (pt_val (pe_callB call_isi (by rfl) mI (by decide +kernel) (pa_cons (pe_ix ix_tup (pv 1) pe_int (fun _ _ => rfl)) (pa_cons (pe_bltn (v := .ty "str") (by rfl) mS (by decide +kernel) rfl) pa_nil))))) (pw_or (pt_not (pt_val (pe_callB call_isi (by rfl) mI (by decide +kernel) (pa_cons (pe_ix ix_tup (pv 1) pe_int (fun _ _ => rfl)) (pa_cons (pe_bltn (v := .ty "str") (by rfl) mS (by decide +kernel) rfl) pa_nil))))) (pw_or1 (pt_cmpR op_notIn_seq (pe_ix ix_tup (pv 1) pe_int (fun _ _ => rfl)) (pe_tup (pa_cons pe_str (pa_cons pe_str pa_nil))) (by rfl))))).pt (pss_one (ps_ret pe_bl)) pss_nil) <|
         pss_one (ps_if (pt_cmpR op_notIn_seq (pe_ix ix_tup (pv 1) pe_int (fun _ _ => rfl)) (pe_tup (pa_cons pe_str (pa_cons pe_str (pa_cons pe_str pa_nil)))) (by rfl)) (pss_one (ps_ret pe_bl)) pss_nil))) <|
      pss_cons (ps_set (i := 2) scShR.nd rfl (.inr rfl) (pe_lc (own := [("_law_one", 1)]) (g := gName 1) (tt := tYes) (te := tOp (rIxT K) (tVar 1) (tC (.int 0))) rfl scShR.nd (pi_tup (pe_ix ix_tup (pv 0) pe_int (fun _ _ => rfl))) (blkOk_by (N := nShR) (sc := defScope sShR) (by decide +kernel))
        (fun _ _ _ _ _ => pg_name (i := 1) scShR.nd rfl (.inl rfl)) (fun _ _ _ _ _ => pts_nil) (fun _ _ _ _ _ => pe_ix ix_tup (pv 1) pe_int (fun _ _ => rfl)))) <|
      pss_cons (ps_if (pw_or (pt_cmpR (op_neI hr.units) (pv 2) (pe_sortI rfl (by rfl) mO (by rfl) mE (pv 2)) (by rfl)) (pw_or1 (pt_not (pt_val (pe_call GA hr (by rfl) gA FA.kp bA .nil pass0 (pa_cons (pe_ix ix_tup (pv 0) pe_int (fun _ _ => rfl)) <| pa_cons (pv 2) pa_nil)))))).pt (pss_one (ps_ret pe_bl)) pss_nil) <|
      pss_one (ps_ret (pe_callB (cr_all rfl) (by rfl) mA (by decide +kernel) (pa_cons (pe_lc (own := [("_law_one", 1), ("_law_home", 3), ("_law_shape", 4), ("_law_parts_here", 5)]) (g := gTup K 4 (gCons (gName 1) (gCons (gName 3) (gCons (gName 4) (gCons (gName 5) gNil))))) (tt := tYes) (te := tCall (spInR K) [] E0 (tCons (tVar 4) <| tCons (tVar 5) <| tCons (tVar 2) tNil)) rfl scShR.nd (pi_tup (pe_ix ix_tup (pv 0) pe_int (fun _ _ => rfl))) (blkOk_by (N := nShR) (sc := defScope sShR) (by decide +kernel))
        (fun _ _ _ _ _ => pg_tup rfl (pgs_cons (pg_name (i := 1) scShR.nd rfl (.inl rfl)) <| pgs_cons (pg_name (i := 3) scShR.nd rfl (.inl rfl)) <| pgs_cons (pg_name (i := 4) scShR.nd rfl (.inl rfl)) <| pgs_cons (pg_name (i := 5) scShR.nd rfl (.inl rfl)) pgs_nil)) (fun _ _ _ _ _ => pts_nil) (fun _ _ _ _ _ => pe_call GN hr (by rfl) gN FN.kp bN .nil pass0 (pa_cons (pv 4) <| pa_cons (pv 5) <| pa_cons (pv 2) pa_nil))) pa_nil))), ?_⟩
    have q : ∀ H' (b : Bool), Ex H H' → (b = true ↔ gLaw e) → Q (.bl b) H' := fun H' b x hb => q H' b x (hb.trans snap_law)
    refine Sn.seq_of (SaysT.ifS (A := ¬ ∃ a os, e = .tuple [a, .tuple os] ∧ os.length ≤ 400) (SaysT.imp (.or (SaysT.not (Says.val (says_isi kit_tup (at_var rfl av)))) (B := ¬ ∃ a os, e = .tuple [a, .tuple os] ∧ os.length ≤ 400) fun H1 x1 a => ?_) ⟨fun h => h.elim (fun n ⟨a, os, e, _⟩ => n (by rw [e]; rfl)) id, .inr⟩) (fun H1 x1 a => ?_) fun H1 x1 a => ?_)
    · obtain ⟨ds, rfl⟩ := tup_iff.mp (Classical.not_not.mp a)
      refine SaysT.imp (.or (Says.test (says_lenNe (k := 2) (at_var rfl (av.kept x1)))) (B := ¬ ∀ a o, ds = [a, o] → ∃ os, o = .tuple os ∧ os.length ≤ 400) fun H2 x2 l2 => ?_) ⟨fun h => ?_, fun h => ?_⟩
      · obtain ⟨a1, a2, rfl⟩ := two (Classical.not_not.mp l2)
        have av2 := (av.kept x1).kept x2
        refine SaysT.imp (.or (SaysT.not (Says.val (says_isi kit_tup (at_item (k := 1) rfl av2 rfl)))) (B := ¬ ∀ os, a2 = .tuple os → os.length ≤ 400) fun H3 x3 it => ?_) ⟨fun h z => ?_, fun h => ?_⟩
        · obtain ⟨os, rfl⟩ := tup_iff.mp (Classical.not_not.mp it)
          exact Says.test fun Q' q' => Sn.op_of (len_at (at_item (k := 1) rfl (av2.kept x3) rfl) (Sn.k_of ⟨_, _, rfl, rfl, q' H3 _ (Ex.refl H3) (b_iff.trans ⟨fun z y => (by have := y os rfl; omega), fun z => Classical.byContradiction fun c => z fun os' e => (by cases e; omega)⟩)⟩))
        · obtain ⟨os, rfl, l⟩ := z a1 a2 rfl
          exact h.elim (fun n => n rfl) fun n => n fun os' e => by cases e; exact l
        · refine (Classical.em _).elim .inr fun c => .inl fun it => h fun a o e => ?_
          cases e
          obtain ⟨os, rfl⟩ := tup_iff.mp it
          exact ⟨os, rfl, Classical.not_not.mp c os rfl⟩
      · rintro ⟨a, os, e, l⟩
        cases e
        exact h.elim (fun n => n rfl) fun n => n fun a' o e => by cases e; exact ⟨os, rfl, l⟩
      · refine (Classical.em _).elim .inr fun c => .inl fun l2 => ?_
        obtain ⟨a1, a2, rfl⟩ := two l2
        obtain ⟨os, rfl, l⟩ := Classical.not_not.mp c a1 a2 rfl
        exact h ⟨a1, os, rfl, l⟩
    · exact Sn.ret_of (Sn.k_of (q H1 false x1 (f_iff fun ⟨a', os, e, l, _⟩ => a ⟨a', os, e, l⟩)))
    dsimp only [tNext]
    obtain ⟨rt0, os, rfl, l4⟩ := Classical.not_not.mp a
    have av1 := av.kept x1
    have tm2 := (tame_tup tm).1 (.tuple os) (by simp)
    have tma := (tame_tup tm).1 rt0 (by simp)
    obtain ⟨tp, few⟩ := tame_tup tm2
    have tup : ∀ {H'}, Ex H1 H' → ∀ {σ : L2.St}, σ[0]? = some (some x) → ∀ Q : VK, (∀ t xs, H' t = some (.tup xs) → AvAll K D H' xs os → Q (.ref t) H') → tOp (rIxT K) (tVar 0) (tC (.int 1)) σ H' Q := fun e' σ hσ Q q => at_item (k := 1) hσ (av1.kept e') rfl _ fun v a2 => by
      obtain ⟨t, xs, rfl, _, ht, al⟩ := id a2.tup_at
      exact q t xs ht al
    refine Sn.seq_of (for_of (iT_of (tup (Ex.refl H1) rfl _ fun t xs ht al => ⟨t, rfl, ⟨_, st_of ht⟩, for_it (walk_tup (K := K) (a := t) (xs := xs)) (fun i σ' H' => ∃ y, σ' = [some x, y, none, none, none, none] ∧ Ex H1 H' ∧ ∀ (j : Nat) o, j < i → os[j]? = some o → gL4 o) ⟨none, rfl, Ex.refl H1, fun j r h => absurd h (Nat.not_lt_zero _)⟩ (fun i σ' H' _ ⟨_, _, e, _⟩ => st_of (e _ _ ht)) ?_ ?_⟩)))
    · rintro at0 u σ' H20 H2 hi ⟨y, rfl, e2, before⟩ ⟨rfl, hu'⟩
      obtain ⟨o, ho, ao⟩ := al.get hu'
      have mo := List.mem_of_getElem? ho
      have tmo := tp o mo
      have ao := ao.kept e2
      have bad : ¬ gL4 o → ∀ H', Ex H2 H' → Q (.bl false) H' := fun n H' e => q H' false ((x1.trans e2).trans e) (f_iff fun ⟨a', os', e', _, c, _⟩ => n (by cases e'; exact c o mo))
      dsimp only [gName]
      refine Sn.seq_of (SaysT.ifS (A := (¬ isTup o = true) ∨ ¬ ∃ i b c d, o = .tuple [.int i, b, c, d] ∧ 0 ≤ i) (.or (SaysT.not (Says.val (says_isi kit_tup (at_var rfl ao)))) fun H3 x3 it => ?_) (fun H3 x3 c => ?_) fun H3 x3 c => ?_)
      · obtain ⟨ds, rfl⟩ := tup_iff.mp (Classical.not_not.mp it)
        refine SaysT.imp (.or (Says.test (says_lenNe (k := 4) (at_var rfl (ao.kept x3)))) (B := ¬ ∀ a b c d, ds = [a, b, c, d] → gFigure a) fun H4 x4 n4 => ?_) ⟨fun h => ?_, fun h => ?_⟩
        · obtain ⟨b1, b2, b3, b4, rfl⟩ := four (Classical.not_not.mp n4)
          exact SaysT.imp (SaysT.not (Says.val (says_call (at_item (k := 0) rfl ((ao.kept x3).kept x4) rfl) ((tame_tup tmo).1 b1 (by simp))))) ⟨fun n z => n (z _ _ _ _ rfl), fun n z => n fun _ _ _ _ e => (by cases e; exact z)⟩
        · rintro ⟨i, b, c, d, e, i0⟩
          cases e
          exact h.elim (fun n => n rfl) fun n => n fun _ _ _ _ e => by cases e; exact ⟨i, rfl, i0⟩
        · refine (Classical.em _).elim .inr fun c => .inl fun l4 => ?_
          obtain ⟨b1, b2, b3, b4, rfl⟩ := four l4
          obtain ⟨i, rfl, i0⟩ := Classical.not_not.mp c _ _ _ _ rfl
          exact h ⟨i, _, _, _, rfl, i0⟩
      · refine Sn.ret_of (Sn.k_of (bad ?_ H3 x3))
        rintro ⟨i, h, s, p, rfl, i0, _⟩
        exact c.elim (fun n => n rfl) fun n => n ⟨i, _, _, _, rfl, i0⟩
      dsimp only [tNext]
      obtain ⟨i, b, c', d, rfl, i0⟩ := Classical.not_not.mp (not_or.mp c).2
      have ao3 := ao.kept x3
      refine Sn.seq_of (SaysT.ifS (A := (¬ isStr b = true) ∨ (¬ isStr c' = true) ∨ ¬ ∃ h ∈ homesK, b = .str h) (.or (SaysT.not (Says.val (says_isi kit_str (at_item (k := 1) rfl ao3 rfl)))) fun H4 x4 it => .or (SaysT.not (Says.val (says_isi kit_str (at_item (k := 2) rfl (ao3.kept x4) rfl)))) fun H5 x5 _ => ?_) (fun H4 x4 g => ?_) fun H4 x4 g => ?_)
      · obtain ⟨z, rfl⟩ := str_iff.mp (Classical.not_not.mp it)
        exact Says.test (Says.imp (says_notTx (zs := homesK) (at_item (k := 1) rfl ((ao3.kept x4).kept x5) rfl) (fun Q' q' => Sn.c_of (Sn.k_of (Sn.c_of (Sn.k_of (Sn.n_of q'))))) (by decide)) ⟨fun n ⟨h, m, e⟩ => n (by cases e; exact m), fun n m => n ⟨z, m, rfl⟩⟩)
      · refine Sn.ret_of (Sn.k_of (bad ?_ H4 (x3.trans x4)))
        rintro ⟨i', h, s, p, e, _, hh, _⟩
        cases e
        rcases g with g | g | g
        · exact g rfl
        · exact g rfl
        · exact g ⟨h, hh, rfl⟩
      dsimp only [tNext]
      obtain ⟨g1, g2⟩ := not_or.mp g
      obtain ⟨g4, g5⟩ := not_or.mp g2
      obtain ⟨h, hh, rfl⟩ := Classical.not_not.mp g5
      obtain ⟨s', rfl⟩ := str_iff.mp (Classical.not_not.mp g4)
      have ao4 := ao3.kept x4
      refine SaysT.ifS (Says.test (says_notTx (zs := kindsK) (at_item (k := 2) rfl ao4 rfl) (fun Q' q' => Sn.c_of (Sn.k_of (Sn.c_of (Sn.k_of (Sn.c_of (Sn.k_of (Sn.n_of q'))))))) (by decide))) (fun H5 x5 n => ?_) fun H5 x5 n => ?_
      · refine Sn.ret_of (Sn.k_of (bad ?_ H5 ((x3.trans x4).trans x5)))
        rintro ⟨i', h', s, p, e, _, _, hs⟩
        cases e
        exact n hs
      · refine ⟨_, rfl, ((e2.trans x3).trans x4).trans x5, fun j o' hj hoj => ?_⟩
        by_cases cj : j = at0
        · rw [cj, ho] at hoj
          cases hoj
          exact ⟨i, h, s', d, rfl, i0, hh, Classical.not_not.mp n⟩
        · exact before j o' (by omega) hoj
    · rintro σ' H2 ⟨y, rfl, e2, all⟩
      have h4 : ∀ o ∈ os, gL4 o := fun o ho => by
        obtain ⟨j, hj⟩ := List.mem_iff_getElem?.mp ho
        exact all j o (by rw [al.len]; exact (List.getElem?_eq_some_iff.mp hj).1) hj
      have hn : ∀ k ∈ os.map keyP, 0 ≤ k := fun k hk => by
        obtain ⟨o, ho, rfl⟩ := List.mem_map.mp hk
        obtain ⟨i, h, s, p, rfl, i0, _⟩ := h4 o ho
        exact i0
      dsimp only
      refine Sn.seq_of (Sn.asg_of (firstsT (f := V.int) (dt := PyData.int) (key := keyP) (fun a => a.int_at) (tup e2 rfl) (fun o ho => ?_) few (fun _ => rfl) (fun _ => rfl) fun H3 p3 x3 hp3 => ?_))
      · obtain ⟨i, h, s, p, rfl, _⟩ := h4 o ho
        exact ⟨_, rfl⟩
      dsimp only [gName]
      have x13 := e2.trans x3
      refine Sn.seq_of (SaysT.ifS (.or (Says.test (srtI (l := p3) (ns := os.map keyP) rfl hp3 (by rw [List.length_map]; omega))) fun H4 x4 _ => SaysT.not (A := gAncR (os.map keyP) rt0) (Says.val fun Q' q' => Sn.call_of (Sn.c_of (at_item (k := 0) rfl (av1.kept (x13.trans x4)) rfl _ fun v aa => Sn.c_of (Sn.v_of rfl (Sn.n_of ⟨D, v, rt0, p3, _, rfl, aa, tma, x4 _ _ hp3, q'⟩)))))) (fun H4 x4 c => ?_) fun H4 x4 c => ?_)
      · refine Sn.ret_of (Sn.k_of (q H4 false ((x1.trans x13).trans x4) (f_iff ?_)))
        rintro ⟨a', os', e, _, _, z1, z2, _⟩
        cases e
        exact c.elim (fun n => n z1) fun n => n z2
      dsimp only [tNext]
      obtain ⟨c1, c2⟩ := not_or.mp c
      have x14 := x13.trans x4
      refine Says.ret (A := ∀ o ∈ os, gIn (os.map keyP) o) (says_all4 (tup x14 rfl) few (fun o ho => ?_) (fun _ _ _ _ => rfl) fun H' y z u v a' b c d e' hm ay az au av' => ?_) fun H5 b x5 hb => q H5 b ((x1.trans x14).trans x5) (hb.trans ⟨fun z => ⟨rt0, os, rfl, l4, h4, Classical.not_not.mp c1, Classical.not_not.mp c2, z⟩, ?_⟩)
      · obtain ⟨i, h, s, p, rfl, _⟩ := h4 o ho
        exact ⟨_, _, _, _, rfl⟩
      · obtain ⟨i, h, s, p, e, _, _, hs⟩ := h4 _ hm
        cases e
        obtain rfl := au.str_at
        have kd : s = "weak" ∨ s = "record" ∨ s = "map" := by
          simp only [kindsK, List.mem_cons, List.not_mem_nil, or_false] at hs
          rcases hs with h | h | h
          · exact .inr (.inl h)
          · exact .inl h
          · exact .inr (.inr h)
        exact fun Q' q' => Sn.call_of (Sn.c_of (Sn.v_of rfl (Sn.c_of (Sn.v_of rfl (Sn.c_of (Sn.v_of rfl (Sn.n_of ⟨D, s, v, d, p3, _, rfl, kd, av', (tame_tup (tp _ hm)).1 d (by simp), (x4.trans e') _ _ hp3, hn, fun H6 b x6 hb => q' H6 b x6 (hb.trans ⟨fun z i' h' s' p' e => (by cases e; exact z), fun z => z _ _ _ _ rfl⟩)⟩)))))))
      · rintro ⟨a', os', e, _, _, _, _, z⟩
        cases e
        exact z
end
end Kn
/-! t[1::2], t a tuple -/
namespace L2
open PySem PySem.Spec PyProof.Rows
/-- every other item, from the second -/
def odds {α : Type} (xs : List α) : List α := (List.range (Builtin.Slice.slicePlaces (Builtin.Slice.sliceAdjust (some 1) none 2 (xs.length : Int)).1 (Builtin.Slice.sliceAdjust (some 1) none 2 (xs.length : Int)).2 2)).filterMap fun (k : Nat) => xs[((Builtin.Slice.sliceAdjust (some 1) none 2 (xs.length : Int)).1 + (k : Int) * 2).toNat]?
theorem vals_pick (f : Nat → Nat) {xs : List V} {its : List Value} (r : Vals xs its) : ∀ ks : List Nat, Vals (ks.filterMap fun k => xs[f k]?) (ks.filterMap fun k => its[f k]?)
  | [] => .nil
  | k :: ks => by
    have ih := vals_pick f r ks
    have ln := r.length
    cases e : xs[f k]? with
    | none =>
      have e2 : its[f k]? = none := by
        rw [List.getElem?_eq_none_iff] at e ⊢
        omega
      rw [List.filterMap_cons_none (f := fun k => xs[f k]?) e, List.filterMap_cons_none (f := fun k => its[f k]?) e2]
      exact ih
    | some x =>
      obtain ⟨u, hu, ru⟩ := r.get e
      rw [List.filterMap_cons_some (f := fun k => xs[f k]?) e, List.filterMap_cons_some (f := fun k => its[f k]?) hu]
      exact .cons ru ih
theorem vals_odds {xs : List V} {its : List Value} (r : Vals xs its) : Vals (odds xs) (odds its) := by
  unfold odds
  rw [← r.length]
  exact vals_pick _ r _
theorem odds_le {α : Type} (xs : List α) : (odds xs).length ≤ xs.length + 1 := by
  unfold odds
  refine Nat.le_trans (List.length_filterMap_le _ _) ?_
  rw [List.length_range]
  unfold Builtin.Slice.slicePlaces Builtin.Slice.sliceAdjust
  simp only [show ¬ (2 : Int) < 0 from by decide, show (2 : Int) > 0 from by decide, if_true, if_false, show ¬ (1 : Int) < 0 from by decide]
  split <;> omega
section
variable {prog : Program} {w : World} {A : Around} {E : Value → Shared → Prop} {s : Shared}
theorem getItem_odds {t sl : Addr} {items : Array Value} {tu ts : Tok} {Q : Value → Shared → Prop} (ht : IsTup s.heap t items) (hs : s.heap.IsSliceOf sl (.int 1 tu) .none (.int 2 ts))
    (h : Q (.ref s.heap.objs.size) { s with heap := s.heap.push { cls := .type "tuple", data := .seq (odds items.toList).toArray } })
    (hsz : items.size < sizeLine) : wpAny (model prog w) A (getItem (.ref t) (.ref sl)) Q E s := by
  have htake : sizeOk (.seq (odds items.toList).toArray) := by
    show (odds items.toList).toArray.size ≤ sizeLine
    have := odds_le items.toList
    have l2 : items.toList.length = items.size := Array.length_toList
    have l3 : (odds items.toList).toArray.size = (odds items.toList).length := List.size_toArray
    omega
  obtain ⟨os, hos, hcs, hds⟩ := id hs
  have hTs : s.TypeIs (.ref sl) "slice" := ⟨os, hos, hcs⟩
  unfold getItem
  try with_reducible refine wpAny_holding ?_
  first | refine wpAny_bind (wpAny_pure ?_) | skip
  refine wpAny_bind (wpAny_sequenceKey ht.typeIs (by decide) ?_)
  refine wpAny_bind (wpAny_callSpecial?_slot (name := Str.ofString "__getitem__") ht.typeIs PyProof.Rows.slot_tuple_getitem (wpAny_call_entry PyProof.Rows.slot_tuple_getitem ht.typeIs entry_tuple_getitem ?_ (args_tuple_getitem _ _)))
  show wpAny _ _ (Builtin.Tuple.tupleItemsOf (.ref t) >>= fun _ => _) _ _ s
  refine wpAny_bind (tupleItemsOf_ ht ?_)
  refine wpAny_bind (wpAny_typeOf hTs ?_)
  rw [if_pos (by decide)]
  have app : ∀ {Q2 : Int × Int × Nat → Shared → Prop} {E2 : Value → Shared → Prop} {A2 : Around}, Q2 ((Builtin.Slice.sliceAdjust (some 1) none 2 (items.size : Int)).1, 2, Builtin.Slice.slicePlaces (Builtin.Slice.sliceAdjust (some 1) none 2 (items.size : Int)).1 (Builtin.Slice.sliceAdjust (some 1) none 2 (items.size : Int)).2 2) s →
      wpAny (model prog w) A2 (Builtin.Slice.sliceApplied (.ref sl) (pure (items.size : Int))) Q2 E2 s := fun {Q2 E2 A2} q => by
    unfold Builtin.Slice.sliceApplied Builtin.Slice.sliceFields
    refine wpAny_bind (wpAny_bind (wpAny_field hos hds (x := .int 1 tu) rfl (wpAny_bind (wpAny_field hos hds (x := .none) rfl (wpAny_bind (wpAny_field hos hds (x := .int 2 ts) rfl (wpAny_pure ?_)))))))
    refine wpAny_bind (slicePart_int ?_)
    show wpAny _ _ (if ((2 : Int) == 0) = true then _ else _) _ _ s
    rw [if_neg (by decide)]
    refine wpAny_bind (slicePart_int (wpAny_bind (slicePart_none (wpAny_bind (wpAny_pure ?_)))))
    exact wpAny_pure q
  refine wpAny_bind (app ?_)
  have hno : ¬ (((Builtin.Slice.sliceAdjust (some 1) none 2 (items.size : Int)).1 == 0 && (2 : Int) == 1 && Builtin.Slice.slicePlaces (Builtin.Slice.sliceAdjust (some 1) none 2 (items.size : Int)).1 (Builtin.Slice.sliceAdjust (some 1) none 2 (items.size : Int)).2 2 == items.size) = true) := by
    rw [show ((2 : Int) == 1) = false from by decide, Bool.and_false, Bool.false_and]
    exact Bool.false_ne_true
  show wpAny _ _ (if ((Builtin.Slice.sliceAdjust (some 1) none 2 (items.size : Int)).1 == 0 && (2 : Int) == 1 && Builtin.Slice.slicePlaces (Builtin.Slice.sliceAdjust (some 1) none 2 (items.size : Int)).1 (Builtin.Slice.sliceAdjust (some 1) none 2 (items.size : Int)).2 2 == items.size) = true then _ else _) _ _ s
  rw [if_neg hno]
  have e : ((List.range (Builtin.Slice.slicePlaces (Builtin.Slice.sliceAdjust (some 1) none 2 (items.size : Int)).1 (Builtin.Slice.sliceAdjust (some 1) none 2 (items.size : Int)).2 2)).filterMap fun (m : Nat) => items[((Builtin.Slice.sliceAdjust (some 1) none 2 (items.size : Int)).1 + (m : Int) * 2).toNat]?).toArray = (odds items.toList).toArray := by
    unfold odds
    rw [Array.length_toList]
    congr 2
    funext m
    rw [Array.getElem?_toList]
  rw [e]
  first
    | exact wpAny_bind (m := Builtin.Tuple.tupleExact _) (wpAny_newObj_type (wpAny_pure ⟨_, rfl, wpAny_pure h⟩) htake)
    | exact wpAny_bind (m := Builtin.Tuple.tupleExact _) (wpAny_newObj_type (wpAny_bind (wpAny_pure (wpAny_pure ⟨_, rfl, wpAny_pure h⟩))) htake)
    | exact wpAny_bind (wpAny_bind (m := Builtin.Tuple.tupleExact _) (wpAny_newObj_type (wpAny_pure (wpAny_pure ⟨_, rfl, wpAny_pure h⟩)) htake))
    | exact wpAny_bind (wpAny_bind (m := Builtin.Tuple.tupleExact _) (wpAny_newObj_type (wpAny_pure ⟨_, rfl, wpAny_pure h⟩) htake))
end
def rOdds (K : PySem.W.Frag) : V → Hp → VK → Prop := fun x H Q => ∃ a xs, x = .ref a ∧ SqT K H a xs ∧ xs.length ≤ 100000 ∧ ∀ p, H p = none → Q (.ref p) (upd H p (.tup (odds xs)))
def tOdds (K : PySem.W.Frag) (te : TE) : TE := fun σ H Q => te σ H fun x H1 => rOdds K x H1 Q
section
variable {X : Cx} {e : Expr} {te : TE} {p1 p2 p3 pos : Pos} {r1 r2 : Literal}
theorem pe_odds (he : PE X e te) (e1 : PE X l1 (tC (.int 1))) (e2 : PE X l2 (tC (.int 2))) : PE X (.Subscript e (.Slice (some l1) none (some l2) p2) pos) (tOdds X.K te) := by
  refine ⟨fun pins s σ H Q I h => ?_⟩
  refine Subscript_ (thn (he.run pins s σ H _ I h) fun v s1 ⟨x, H1, I1, rx, a, xs, ex, hx, hz, q⟩ => ?_)
  subst ex
  obtain rfl : v = Value.ref a := rx
  refine wpAny_Slice (thn ((po_some e1).run pins s1 σ H1 (fun o H2 => o = some 1 ∧ H2 = H1) I1 ⟨1, rfl, rfl, rfl⟩) fun vl s2 ⟨l, H2, I2, pl, el, eh⟩ => ?_)
  subst el eh
  rw [evalPart_none]
  refine wpAny_pure ?_
  refine thn ((po_some e2).run pins s2 σ H2 (fun o H3 => o = some 2 ∧ H3 = H2) I2 ⟨2, rfl, rfl, rfl⟩) fun vs s3 ⟨st, H3, I3, ps, es, eh⟩ => ?_
  subst es eh
  have I4 : Inv X pins σ H3 { s3 with heap := s3.heap.push { cls := .type "slice", data := .fields #[vl, .none, vs] } } := I3.kept (t' := s3.toks) fun b ob q => Heap.get?_push_of_some _ q
  obtain ⟨its, r, pt, hz2⟩ := I4.tuple hx
  have l63 := line63
  cases pl
  cases ps
  refine tail_any (ops := [.ref a, .ref s3.heap.objs.size]) pt.typeIs PyProof.Rows.slot_tuple_getitem.lookup ?_ (by with_unfolding_all rfl)
  refine getItem_odds pt (Heap.IsSliceOf.new ..) ?_ ?_
  · exact ⟨.ref _, _, I4.laid (t' := s3.toks) (o := .tup (odds xs)) (fun b ob y => Heap.get?_push_of_some _ y) (Nat.le_refl _) ⟨by have := odds_le xs; rw [sizeLine_eq]; omega, _, vals_odds r, IsTup.new _ _⟩, rfl, q _ (I4.hok.fresh (Nat.le_refl _))⟩
  · rw [List.size_toArray, ← r.length, sizeLine_eq]
    omega
end
end L2
/-! t[::-1], t a tuple -/
namespace L2
open PySem PySem.Spec PyProof.Rows
/-- from the last to the first -/
def revs {α : Type} (xs : List α) : List α := (List.range (Builtin.Slice.slicePlaces (Builtin.Slice.sliceAdjust none none (-1) (xs.length : Int)).1 (Builtin.Slice.sliceAdjust none none (-1) (xs.length : Int)).2 (-1))).filterMap fun (k : Nat) => xs[((Builtin.Slice.sliceAdjust none none (-1) (xs.length : Int)).1 + (k : Int) * (-1)).toNat]?
theorem vals_revs {xs : List V} {its : List Value} (r : Vals xs its) : Vals (revs xs) (revs its) := by
  unfold revs
  rw [← r.length]
  exact vals_pick _ r _
theorem filterMap_on {α β : Type} {f g : α → Option β} : ∀ {l : List α}, (∀ x ∈ l, f x = g x) → l.filterMap f = l.filterMap g
  | [], _ => rfl
  | x :: l, h => by
    have ih := filterMap_on (l := l) fun y m => h y (List.mem_cons_of_mem _ m)
    simp only [List.filterMap_cons, h x List.mem_cons_self, ih]
theorem revs_at {α : Type} (xs : List α) : (Builtin.Slice.sliceAdjust none none (-1) (xs.length : Int)) = ((xs.length : Int) - 1, -1) := by
  unfold Builtin.Slice.sliceAdjust
  simp
theorem revs_n {α : Type} (xs : List α) : Builtin.Slice.slicePlaces ((xs.length : Int) - 1) (-1) (-1) = xs.length := by
  unfold Builtin.Slice.slicePlaces
  rw [if_neg (by decide)]
  by_cases c : (xs.length : Int) - 1 > -1
  · rw [if_pos c, show (-(-1) : Int) = 1 from rfl, Int.ediv_one]
    omega
  · rw [if_neg c]
    omega
theorem revs_is {α : Type} (xs : List α) : revs xs = xs.reverse := by
  unfold revs
  rw [revs_at, revs_n]
  have hf : ∀ k ∈ List.range xs.length, xs[((xs.length : Int) - 1 + (k : Int) * (-1)).toNat]? = (xs.reverse)[k]? := fun k hk => by
    have hk := List.mem_range.mp hk
    rw [List.getElem?_reverse hk]
    congr 1
    omega
  have all : ∀ (l : List α), (List.range l.length).filterMap (fun k => l[k]?) = l := fun l => by
    have := PySem.W.krv_all l.toArray
    simpa using this
  dsimp only
  rw [show ((List.range xs.length).filterMap fun (k : Nat) => xs[((xs.length : Int) - 1 + (k : Int) * (-1)).toNat]?) = (List.range xs.length).filterMap (fun k => (xs.reverse)[k]?) from filterMap_on hf]
  have := all xs.reverse
  rw [List.length_reverse] at this
  exact this
theorem revs_le {α : Type} (xs : List α) : (revs xs).length ≤ xs.length + 1 := by
  rw [revs_is, List.length_reverse]
  omega
section
variable {prog : Program} {w : World} {A : Around} {E : Value → Shared → Prop} {s : Shared}
theorem getItem_revs {t sl : Addr} {items : Array Value} {tu ts : Tok} {Q : Value → Shared → Prop} (ht : IsTup s.heap t items) (hs : s.heap.IsSliceOf sl .none .none (.int (-1) ts))
    (h : Q (.ref s.heap.objs.size) { s with heap := s.heap.push { cls := .type "tuple", data := .seq (revs items.toList).toArray } })
    (hsz : items.size < sizeLine) : wpAny (model prog w) A (getItem (.ref t) (.ref sl)) Q E s := by
  have htake : sizeOk (.seq (revs items.toList).toArray) := by
    show (revs items.toList).toArray.size ≤ sizeLine
    have := revs_le items.toList
    have l2 : items.toList.length = items.size := Array.length_toList
    have l3 : (revs items.toList).toArray.size = (revs items.toList).length := List.size_toArray
    omega
  obtain ⟨os, hos, hcs, hds⟩ := id hs
  have hTs : s.TypeIs (.ref sl) "slice" := ⟨os, hos, hcs⟩
  unfold getItem
  try with_reducible refine wpAny_holding ?_
  first | refine wpAny_bind (wpAny_pure ?_) | skip
  refine wpAny_bind (wpAny_sequenceKey ht.typeIs (by decide) ?_)
  refine wpAny_bind (wpAny_callSpecial?_slot (name := Str.ofString "__getitem__") ht.typeIs PyProof.Rows.slot_tuple_getitem (wpAny_call_entry PyProof.Rows.slot_tuple_getitem ht.typeIs entry_tuple_getitem ?_ (args_tuple_getitem _ _)))
  show wpAny _ _ (Builtin.Tuple.tupleItemsOf (.ref t) >>= fun _ => _) _ _ s
  refine wpAny_bind (tupleItemsOf_ ht ?_)
  refine wpAny_bind (wpAny_typeOf hTs ?_)
  rw [if_pos (by decide)]
  have app : ∀ {Q2 : Int × Int × Nat → Shared → Prop} {E2 : Value → Shared → Prop} {A2 : Around}, Q2 ((Builtin.Slice.sliceAdjust none none (-1) (items.size : Int)).1, -1, Builtin.Slice.slicePlaces (Builtin.Slice.sliceAdjust none none (-1) (items.size : Int)).1 (Builtin.Slice.sliceAdjust none none (-1) (items.size : Int)).2 (-1)) s →
      wpAny (model prog w) A2 (Builtin.Slice.sliceApplied (.ref sl) (pure (items.size : Int))) Q2 E2 s := fun {Q2 E2 A2} q => by
    unfold Builtin.Slice.sliceApplied Builtin.Slice.sliceFields
    refine wpAny_bind (wpAny_bind (wpAny_field hos hds (x := .none) rfl (wpAny_bind (wpAny_field hos hds (x := .none) rfl (wpAny_bind (wpAny_field hos hds (x := .int (-1) ts) rfl (wpAny_pure ?_)))))))
    refine wpAny_bind (slicePart_int ?_)
    show wpAny _ _ (if ((-1 : Int) == 0) = true then _ else _) _ _ s
    rw [if_neg (by decide)]
    refine wpAny_bind (slicePart_none (wpAny_bind (slicePart_none (wpAny_bind (wpAny_pure ?_)))))
    exact wpAny_pure q
  refine wpAny_bind (app ?_)
  have hno : ¬ (((Builtin.Slice.sliceAdjust none none (-1) (items.size : Int)).1 == 0 && (-1 : Int) == 1 && Builtin.Slice.slicePlaces (Builtin.Slice.sliceAdjust none none (-1) (items.size : Int)).1 (Builtin.Slice.sliceAdjust none none (-1) (items.size : Int)).2 (-1) == items.size) = true) := by
    rw [show ((-1 : Int) == 1) = false from by decide, Bool.and_false, Bool.false_and]
    exact Bool.false_ne_true
  show wpAny _ _ (if ((Builtin.Slice.sliceAdjust none none (-1) (items.size : Int)).1 == 0 && (-1 : Int) == 1 && Builtin.Slice.slicePlaces (Builtin.Slice.sliceAdjust none none (-1) (items.size : Int)).1 (Builtin.Slice.sliceAdjust none none (-1) (items.size : Int)).2 (-1) == items.size) = true then _ else _) _ _ s
  rw [if_neg hno]
  have e : ((List.range (Builtin.Slice.slicePlaces (Builtin.Slice.sliceAdjust none none (-1) (items.size : Int)).1 (Builtin.Slice.sliceAdjust none none (-1) (items.size : Int)).2 (-1))).filterMap fun (m : Nat) => items[((Builtin.Slice.sliceAdjust none none (-1) (items.size : Int)).1 + (m : Int) * (-1)).toNat]?).toArray = (revs items.toList).toArray := by
    unfold revs
    rw [Array.length_toList]
    congr 2
    funext m
    rw [Array.getElem?_toList]
  rw [e]
  first
    | exact wpAny_bind (m := Builtin.Tuple.tupleExact _) (wpAny_newObj_type (wpAny_pure ⟨_, rfl, wpAny_pure h⟩) htake)
    | exact wpAny_bind (m := Builtin.Tuple.tupleExact _) (wpAny_newObj_type (wpAny_bind (wpAny_pure (wpAny_pure ⟨_, rfl, wpAny_pure h⟩))) htake)
    | exact wpAny_bind (wpAny_bind (m := Builtin.Tuple.tupleExact _) (wpAny_newObj_type (wpAny_pure (wpAny_pure ⟨_, rfl, wpAny_pure h⟩)) htake))
    | exact wpAny_bind (wpAny_bind (m := Builtin.Tuple.tupleExact _) (wpAny_newObj_type (wpAny_pure ⟨_, rfl, wpAny_pure h⟩) htake))
end
def rRevs (K : PySem.W.Frag) : V → Hp → VK → Prop := fun x H Q => ∃ a xs, x = .ref a ∧ SqT K H a xs ∧ xs.length ≤ 100000 ∧ ∀ p, H p = none → Q (.ref p) (upd H p (.tup (revs xs)))
def tRevs (K : PySem.W.Frag) (te : TE) : TE := fun σ H Q => te σ H fun x H1 => rRevs K x H1 Q
section
variable {X : Cx} {e : Expr} {te : TE} {p1 p2 p3 pos : Pos} {k : Nat}
theorem pe_revT (he : PE X e te) : PE X (.Subscript e (.Slice none none (some (.UnaryOp .USub (.Constant (.int 1) k p1) p2)) p3) pos) (tRevs X.K te) := by
  refine ⟨fun pins s σ H Q I h => ?_⟩
  refine Subscript_ (thn (he.run pins s σ H _ I h) fun v s1 ⟨x, H1, I1, rx, a, xs, ex, hx, hz, q⟩ => ?_)
  subst ex
  obtain rfl : v = Value.ref a := rx
  have hst : PO X (some (.UnaryOp .USub (.Constant (.int 1) k p1) p2)) (tPart (tUn (rU fun i => .int (-i)) (tC (.int 1)))) := po_some (pe_un un_neg pe_int)
  refine wpAny_Slice (thn (po_none.run pins s1 σ H1 (fun o H2 => o = none ∧ H2 = H1) I1 ⟨rfl, rfl⟩) fun vl s2 ⟨l, H2, I2, pl, el, eh⟩ => ?_)
  subst el eh
  refine thn (po_none.run pins s2 σ H2 (fun o H3 => o = none ∧ H3 = H2) I2 ⟨rfl, rfl⟩) fun vu s3 ⟨u, H3, I3, pu, eu, eh⟩ => ?_
  subst eu eh
  refine thn (hst.run pins s3 σ H3 (fun o H4 => o = some (-1) ∧ H4 = H3) I3 ⟨1, rfl, -1, rfl, rfl, rfl⟩) fun vs s4 ⟨st, H4, I4, ps, es, eh⟩ => ?_
  subst es eh
  have I5 : Inv X pins σ H4 { s4 with heap := s4.heap.push { cls := .type "slice", data := .fields #[vl, vu, vs] } } := I4.kept (t' := s4.toks) fun b ob q => Heap.get?_push_of_some _ q
  obtain ⟨its, r, pt, hz2⟩ := I5.tuple hx
  have l63 := line63
  cases pl
  cases pu
  cases ps
  refine tail_any (ops := [.ref a, .ref s4.heap.objs.size]) pt.typeIs PyProof.Rows.slot_tuple_getitem.lookup ?_ (by with_unfolding_all rfl)
  refine getItem_revs (tu := 0) pt (Heap.IsSliceOf.new ..) ?_ ?_
  · exact ⟨.ref _, _, I5.laid (t' := s4.toks) (o := .tup (revs xs)) (fun b ob y => Heap.get?_push_of_some _ y) (Nat.le_refl _) ⟨by have := revs_le xs; rw [sizeLine_eq]; omega, _, vals_revs r, IsTup.new _ _⟩, rfl, q _ (I5.hok.fresh (Nat.le_refl _))⟩
  · rw [List.size_toArray, ← r.length, sizeLine_eq]
    omega
end
end L2
/-! new lists that are not sys.modules; ints and bools as numbers -/
namespace Sn
open PySem PySem.Spec PyProof.Rows L2 Gd
section
variable {X : Cx}
def tLstN (t : TA) : TE := fun σ H Q => t σ H fun xs H1 => xs.length ≤ sizeLine ∧ ∀ p, H1 p = none → p ≠ sysModules → Q (.ref p) (upd H1 p (.lst xs))
theorem pe_lstN {es : List Expr} {t : TA} {pos : Pos} (h : PA X es t) : PE X (.List es pos) (tLstN t) := by
  constructor
  intro pins s σ H Q I want
  refine wpAny_List_spliced (thn (h.run pos pins s σ H _ I want) ?_)
  rintro us s1 ⟨xs, H1, I1, r, z, q⟩
  refine ⟨by rw [← r.length]; exact z, ?_⟩
  have n : H1 s1.heap.objs.size = none := I1.hok.fresh (Nat.le_refl _)
  exact ⟨.ref s1.heap.objs.size, _, I1.laid (t' := s1.toks) (a := s1.heap.objs.size) (o := .lst xs) (fun b u e => Heap.get?_push_of_some _ e) (Nat.le_refl _) ⟨z, us, 0, r, Heap.get?_push_size _ rfl⟩, rfl, q _ n (Nat.ne_of_gt I1.big)⟩
def rListN (K : PySem.W.Frag) : List V → Hp → VK → Prop := fun xs H Q => ∃ p ys, xs = [.ref p] ∧ SqT K H p ys ∧ ∀ l, H l = none → l ≠ sysModules → Q (.ref l) (upd H l (.lst ys))
theorem call_listN : CallR X (.type "list") (rListN X.K) := by
  intro pins s σ H xs us Q I r h
  obtain ⟨p, ys, rfl, hq, q⟩ := h
  obtain ⟨u, rfl, rx⟩ := vals1 r
  cases (show u = Value.ref p from rx)
  obtain ⟨its, r', pl, hz⟩ := I.tuple hq
  have hlen := r'.length
  obtain ⟨o, ho, hc, n, hd⟩ := pl
  have fin : ∀ (h' : Heap) (c' : Nat), (∀ b o', s.heap.get? b = some o' → h'.get? b = some o') →
      h'.get? s.heap.objs.size = some { cls := .type "list", dict := none, data := .seq its.toArray c', slots := #[] } → EP X pins σ Q (.ref s.heap.objs.size) { s with heap := h' } := fun h' c' kp e =>
    ⟨.ref s.heap.objs.size, _, I.laid (t' := s.toks) kp (Nat.le_refl _) (show ObjOk X.prog X.w _ h' _ (.lst ys) from ⟨hz, its, c', r', e⟩), rfl, q _ (I.hok.fresh (Nat.le_refl _)) (Nat.ne_of_gt I.big)⟩
  exact call_list_seq p (.inr rfl) ho hc hd (fun h' c' kp e => fin h' c' kp e) (by simp only [List.size_toArray] <;> omega)
/-- an int or a bool, as a number -/
def numV : V → Option Int
  | .int i => some i
  | .bl b => some (if b = true then 1 else 0)
  | _ => none
def rNumI (g : Int → Int → Int) : R2 := fun x y H Q => ∃ i j, numV x = some i ∧ y = .int j ∧ Q (.int (g i j)) H
theorem num_is {x : V} {i : Int} (h : numV x = some i) : x = .int i ∨ ∃ b, x = .bl b ∧ i = if b = true then 1 else 0 := by
  cases x <;> simp only [numV, Option.some.injEq, reduceCtorEq] at h
  · exact .inr ⟨_, rfl, h.symm⟩
  · exact .inl (by rw [h])
theorem op_addB : OpR X (binaryOp .Add) (rNumI (· + ·)) := by
  intro pins s σ H x y v u Q I rx ry h
  obtain ⟨i, j, hx, rfl, q⟩ := h
  obtain ⟨t', rfl⟩ := (show ∃ t', u = Value.int j t' from ry)
  rcases num_is hx with rfl | ⟨b, rfl, rfl⟩
  · obtain ⟨t, rfl⟩ := (show ∃ t, v = Value.int i t from rx)
    exact add_int ⟨.int (i + j), H, I.tok _, ⟨_, rfl⟩, q⟩
  · cases (show v = Value.bool b from rx)
    exact PySem.IntBool.add_bool_int ⟨.int _, H, I.tok _, ⟨_, rfl⟩, q⟩
theorem op_subB : OpR X (binaryOp .Sub) (rNumI (· - ·)) := by
  intro pins s σ H x y v u Q I rx ry h
  obtain ⟨i, j, hx, rfl, q⟩ := h
  obtain ⟨t', rfl⟩ := (show ∃ t', u = Value.int j t' from ry)
  rcases num_is hx with rfl | ⟨b, rfl, rfl⟩
  · obtain ⟨t, rfl⟩ := (show ∃ t, v = Value.int i t from rx)
    exact sub_int ⟨.int (i - j), H, I.tok _, ⟨_, rfl⟩, q⟩
  · cases (show v = Value.bool b from rx)
    exact PySem.IntBool.sub_bool_int ⟨.int _, H, I.tok _, ⟨_, rfl⟩, q⟩
def rEqNum : R2 := fun x y H Q => ∃ i j, numV x = some i ∧ y = .int j ∧ Q (.bl (i == j)) H
theorem op_eqB : OpR X (compareOp .Eq) rEqNum := by
  intro pins s σ H x y v u Q I rx ry h
  obtain ⟨i, j, hx, rfl, q⟩ := h
  obtain ⟨t', rfl⟩ := (show ∃ t', u = Value.int j t' from ry)
  rcases num_is hx with rfl | ⟨b, rfl, rfl⟩
  · obtain ⟨t, rfl⟩ := (show ∃ t, v = Value.int i t from rx)
    exact SeqAt.RcAt.int_int i t j t' X.prog X.w _ _ ⟨.bl _, H, I, rfl, q⟩
  · cases (show v = Value.bool b from rx)
    exact SeqAt.RcAt.bool_int b j t' X.prog X.w _ _ ⟨.bl _, H, I, rfl, q⟩
/-- str of an int or a bool -/
def rStrNum : List V → Hp → VK → Prop := fun xs H Q => (∃ i : Int, xs = [.int i] ∧ i.natAbs.log2 < 1920 ∧ Q (.str (toString i)) H) ∨ ∃ b : Bool, xs = [.bl b] ∧ Q (.str (if b then "True" else "False")) H
theorem call_strNum : CallR X (.type "str") rStrNum := by
  refine call_str_int.or ?_
  rintro pins s σ H xs us Q I r ⟨b, rfl, q⟩
  obtain ⟨u, rfl, rv⟩ := vals1 r
  cases (show u = Value.bool b from rv)
  exact PySem.P.str_of_bool ⟨.str (if b then "True" else "False"), H, I.tok _, ⟨_, rfl⟩, q⟩
end
end Sn
/-! bending values: the base -/
namespace Sn
open PySem PySem.Spec PyProof.Rows L2 Evl Gd
section
variable {X : Cx}
theorem sp_of {K : PySem.W.Frag} {H : Hp} {a : Addr} {xs : List V} (h : H a = some (.tup xs)) : SqP K H a xs := h
/-- t[lo:hi], itself or new -/
def rSlW (K : PySem.W.Frag) : V → Option Int → Option Int → Hp → VK → Prop := fun x lo hi H Q => ∃ a xs, x = .ref a ∧ SqP K H a xs ∧ ∀ p H2, Ex H H2 → SqP K H2 p (cutV xs lo hi) → (p = a ∨ H p = none) → Q (.ref p) H2
theorem cut_all {xs : List V} {lo hi : Option Int} (hw : HT.sIx xs.length 0 lo = 0 ∧ HT.sIx xs.length xs.length hi = xs.length) : cutV xs lo hi = xs := by
  unfold cutV
  rw [hw.1, hw.2]
  simp
theorem sl_w : SlR X (rSlW X.K) := by
  intro pins s σ H x v vl vu lo hi sl Q I rx hs pl pu h
  obtain ⟨a, xs, rfl, hx, q⟩ := h
  refine sl_tupA pins s σ H _ v vl vu lo hi sl Q I rx hs pl pu ⟨a, xs, rfl, hx.sq, fun hw => q a H (Ex.refl H) ?_ (.inl rfl), fun _ p hp => q p _ (Ex.new hp) (sp_of upd_same) (.inr hp)⟩
  rw [cut_all hw]
  exact hx
/-- t + u, one of them or new -/
def rCatW (K : PySem.W.Frag) : R2 := fun x y H Q => ∃ a b xs ys, x = .ref a ∧ y = .ref b ∧ SqP K H a xs ∧ SqP K H b ys ∧ xs.length + ys.length ≤ sizeLine ∧ ∀ p H2, Ex H H2 → SqP K H2 p (xs ++ ys) → (p = a ∨ p = b ∨ H p = none) → Q (.ref p) H2
theorem op_catW : OpR X (binaryOp .Add) (rCatW X.K) := by
  intro pins s σ H x y v u Q I rx ry h
  obtain ⟨a, b, xs, ys, rfl, rfl, ha, hb, hz, q⟩ := h
  refine op_catA pins s σ H _ _ v u Q I rx ry ⟨a, b, xs, ys, rfl, rfl, ha.sq, hb.sq, hz, fun e => ?_, fun _ e => ?_, fun _ _ p hp => q p _ (Ex.new hp) (sp_of upd_same) (.inr (.inr hp))⟩
  · refine q b H (Ex.refl H) ?_ (.inr (.inl rfl))
    rw [e]
    exact hb
  · refine q a H (Ex.refl H) ?_ (.inl rfl)
    rw [e, List.append_nil]
    exact ha
end
theorem AvAll.cut {K : PySem.W.Frag} {D : Addr → Prop} {H : Hp} {xs : List V} {es : List PyData} (h : AvAll K D H xs es) (lo hi : Option Int) : ∃ fs, AvAll K D H (cutV xs lo hi) fs ∧ (∀ f ∈ fs, f ∈ es) ∧ shsum fs ≤ shsum es := by
  unfold cutV
  refine ⟨_, AvAll.take _ (AvAll.drop _ h), fun f hf => List.mem_of_mem_drop (List.mem_of_mem_take hf), Nat.le_trans (shsum_take _ _) (shsum_drop _ _)⟩
theorem unO_of {r : V → Hp → VK → Prop} {ta : TE} {σ : L2.St} {H : Hp} {Q : VK} (h : ta σ H fun x H1 => r x H1 Q) : tUn r ta σ H Q := h
theorem revs_of {K : PySem.W.Frag} {te : TE} {σ : L2.St} {H : Hp} {Q : VK} (h : te σ H fun x H1 => rRevs K x H1 Q) : tRevs K te σ H Q := h
theorem cut_len (xs : List V) (lo hi : Option Int) : (cutV xs lo hi).length ≤ xs.length := by
  unfold cutV
  rw [List.length_take, List.length_drop]
  omega
theorem shsum_len : ∀ xs : List PyData, 2 * xs.length ≤ shsum xs
  | [] => Nat.zero_le _
  | x :: xs => by
    have := shsum_len xs
    rw [shsum, List.length_cons]
    omega
/-- what may not be among a value's parts is there already -/
def Held (D : Addr → Prop) (H : Hp) : Prop := ∀ a, D a → H a ≠ none
theorem Held.ex {D : Addr → Prop} {H H' : Hp} (h : Held D H) (e : Ex H H') : Held D H' := fun a z n => by
  cases c : H a with
  | none => exact h a z c
  | some o => rw [e a o c] at n; cases n
theorem Held.off {D : Addr → Prop} {d : Addr} {n : Int} {H H' : Hp} (h : Held D H) (o : Off d H H') (p : Pot H' d n) : Held D H' := fun a z m => by
  by_cases ad : a = d
  · obtain ⟨g, b, c, h0, _⟩ := p
    rw [ad, h0] at m
    cases m
  · cases c : H a with
    | none => exact h a z c
    | some u => rw [o a u ad c] at m; cases m
theorem Held.new {D : Addr → Prop} {H : Hp} {p : Addr} (h : Held D H) (hp : H p = none) : ¬ D p := fun z => h p z hp
theorem bydo {D : Addr → Prop} {d : Addr} {H H' : Hp} (hD : D d) (o : Off d H H') : Byd D H H' := fun a u n h => o a u (fun z => n (by rw [z]; exact hD)) h
end Sn
/-! how large a bent value may be -/
namespace Kn
open PySem PySem.Spec PyProof.Rows L2 Evl Gd Sn Qw
mutual
/-- ints below 10^30 + n, ASCII texts, no long rows -/
def bt (n : Nat) : PyData → Bool
  | .none | .bool _ => true
  | .int i => decide (i.natAbs ≤ 10 ^ 30 + n)
  | .str z => ((TL.tl z).all fun c => decide (c < 128)) && decide (z.length ≤ 100 + n)
  | .list xs | .tuple xs => btAll n xs && decide (xs.length ≤ 401 + n)
  | .dict kvs => btKv n kvs
def btAll (n : Nat) : List PyData → Bool
  | [] => true
  | x :: xs => bt n x && btAll n xs
def btKv (n : Nat) : List (PyData × PyData) → Bool
  | [] => true
  | (k, x) :: xs => Sn.isStr k && bt n x && btKv n xs
end
theorem btAll_iff {n : Nat} : ∀ {xs : List PyData}, btAll n xs = true ↔ ∀ x ∈ xs, bt n x = true
  | [] => ⟨fun _ x h => (nomatch h), fun _ => rfl⟩
  | y :: ys => by
    rw [btAll, Bool.and_eq_true, btAll_iff]
    exact ⟨fun h x hx => (List.mem_cons.mp hx).elim (fun e => by rw [e]; exact h.1) (h.2 x), fun h => ⟨h y List.mem_cons_self, fun x hx => h x (List.mem_cons_of_mem _ hx)⟩⟩
mutual
theorem bt_mono {m m' : Nat} (h : m ≤ m') : ∀ e : PyData, bt m e = true → bt m' e = true
  | .none, _ => by rw [bt]
  | .bool _, _ => by rw [bt]
  | .int i, q => by
    rw [bt] at q ⊢
    exact decide_eq_true (Nat.le_trans (of_decide_eq_true q) (by omega))
  | .str z, q => by
    rw [bt, Bool.and_eq_true] at q ⊢
    exact ⟨q.1, decide_eq_true (Nat.le_trans (of_decide_eq_true q.2) (by omega))⟩
  | .list xs, q => by
    rw [bt, Bool.and_eq_true] at q ⊢
    exact ⟨btAll_mono h xs q.1, decide_eq_true (Nat.le_trans (of_decide_eq_true q.2) (by omega))⟩
  | .tuple xs, q => by
    rw [bt, Bool.and_eq_true] at q ⊢
    exact ⟨btAll_mono h xs q.1, decide_eq_true (Nat.le_trans (of_decide_eq_true q.2) (by omega))⟩
  | .dict kvs, q => by
    rw [bt] at q ⊢
    exact btKv_mono h kvs q
theorem btAll_mono {m m' : Nat} (h : m ≤ m') : ∀ xs : List PyData, btAll m xs = true → btAll m' xs = true
  | [], _ => by rw [btAll]
  | x :: xs, q => by
    rw [btAll, Bool.and_eq_true] at q ⊢
    exact ⟨bt_mono h x q.1, btAll_mono h xs q.2⟩
theorem btKv_mono {m m' : Nat} (h : m ≤ m') : ∀ xs : List (PyData × PyData), btKv m xs = true → btKv m' xs = true
  | [], _ => by rw [btKv]
  | (k, x) :: xs, q => by
    rw [btKv, Bool.and_eq_true, Bool.and_eq_true] at q ⊢
    exact ⟨⟨q.1.1, bt_mono h x q.1.2⟩, btKv_mono h xs q.2⟩
end
theorem log_sm {n : Nat} (h : n ≤ 10 ^ 30 + 1000) : n.log2 < 1900 := by
  by_cases z : n = 0
  · rw [z]
    decide
  · refine (Nat.log2_lt z).mpr (Nat.lt_of_le_of_lt h ?_)
    calc 10 ^ 30 + 1000 < 2 ^ 101 := by decide
      _ ≤ 2 ^ 1900 := Nat.pow_le_pow_right (by decide) (by decide)
mutual
theorem bt_show {m : Nat} (h : m ≤ 1000) : ∀ e : PyData, bt m e = true → e.showable = true
  | .none, _ => by rw [PyData.showable]
  | .bool _, _ => by rw [PyData.showable]
  | .int i, q => by
    rw [bt] at q
    rw [PyData.showable]
    exact decide_eq_true (Nat.lt_of_lt_of_le (log_sm (Nat.le_trans (of_decide_eq_true q) (by omega))) (by decide))
  | .str z, q => by rw [PyData.showable]
  | .list xs, q => by
    rw [bt, Bool.and_eq_true] at q
    rw [PyData.showable]
    exact btAll_show h xs q.1
  | .tuple xs, q => by
    rw [bt, Bool.and_eq_true] at q
    rw [PyData.showable]
    exact btAll_show h xs q.1
  | .dict kvs, q => by
    rw [bt] at q
    rw [PyData.showable]
    exact btKv_show h kvs q
theorem btAll_show {m : Nat} (h : m ≤ 1000) : ∀ xs : List PyData, btAll m xs = true → PyData.showableAll xs = true
  | [], _ => by rw [PyData.showableAll]
  | x :: xs, q => by
    rw [btAll, Bool.and_eq_true] at q
    rw [PyData.showableAll, bt_show h x q.1, btAll_show h xs q.2]
    rfl
theorem btKv_show {m : Nat} (h : m ≤ 1000) : ∀ xs : List (PyData × PyData), btKv m xs = true → PyData.showableKv xs = true
  | [], _ => by rw [PyData.showableKv]
  | (k, x) :: xs, q => by
    rw [btKv, Bool.and_eq_true, Bool.and_eq_true] at q
    have ks : k.showable = true := by
      obtain ⟨z, rfl⟩ := str_iff.mp q.1.1
      rw [PyData.showable]
    rw [PyData.showableKv, ks, bt_show h x q.1.2, btKv_show h xs q.2]
    rfl
end
mutual
theorem bt_tame {m : Nat} (h : m ≤ 1000) : ∀ e : PyData, bt m e = true → tame e = true
  | .none, _ => by rw [tame]
  | .bool _, _ => by rw [tame]
  | .int i, q => by
    rw [bt] at q
    rw [tame]
    exact decide_eq_true (log_sm (Nat.le_trans (of_decide_eq_true q) (by omega)))
  | .str z, q => by
    rw [bt, Bool.and_eq_true] at q
    rw [tame, Bool.and_eq_true]
    exact ⟨q.1, decide_eq_true (Nat.le_trans (of_decide_eq_true q.2) (by omega))⟩
  | .list xs, q => by
    rw [bt, Bool.and_eq_true] at q
    rw [tame, Bool.and_eq_true]
    exact ⟨btAll_tame h xs q.1, decide_eq_true (Nat.le_trans (of_decide_eq_true q.2) (by omega))⟩
  | .tuple xs, q => by
    rw [bt, Bool.and_eq_true] at q
    rw [tame, Bool.and_eq_true]
    exact ⟨btAll_tame h xs q.1, decide_eq_true (Nat.le_trans (of_decide_eq_true q.2) (by omega))⟩
  | .dict kvs, q => by
    rw [bt] at q
    rw [tame]
    exact btKv_tame h kvs q
theorem btAll_tame {m : Nat} (h : m ≤ 1000) : ∀ xs : List PyData, btAll m xs = true → tameAll xs = true
  | [], _ => by rw [tameAll]
  | x :: xs, q => by
    rw [btAll, Bool.and_eq_true] at q
    rw [tameAll, bt_tame h x q.1, btAll_tame h xs q.2]
    rfl
theorem btKv_tame {m : Nat} (h : m ≤ 1000) : ∀ xs : List (PyData × PyData), btKv m xs = true → tameKv xs = true
  | [], _ => by rw [tameKv]
  | (k, x) :: xs, q => by
    rw [btKv, Bool.and_eq_true, Bool.and_eq_true] at q
    rw [tameKv, bt_tame h x q.1.2, btKv_tame h xs q.2]
    rfl
end
structure Bz (m k L : Nat) (e : PyData) : Prop where
  f : bt m e = true
  d : e.depth ≤ k
  l : e.shown.length ≤ L
theorem Bz.up {m k L m' k' L' : Nat} {e : PyData} (h : Bz m k L e) (a : m ≤ m') (b : k ≤ k') (c : L ≤ L') : Bz m' k' L' e := ⟨bt_mono a e h.f, Nat.le_trans h.d b, Nat.le_trans h.l c⟩
structure BzAll (m k : Nat) (xs : List PyData) : Prop where
  f : ∀ x ∈ xs, bt m x = true
  d : ∀ x ∈ xs, x.depth ≤ k
theorem BzAll.tup {m k L : Nat} {xs : List PyData} (h : BzAll m k xs) (n : xs.length ≤ 401 + m) (hl : shsum xs + 2 ≤ L) : Bz m (k + 1) L (.tuple xs) := by
  refine ⟨?_, ?_, Nat.le_trans (tup_len xs).1 hl⟩
  · rw [bt, Bool.and_eq_true]
    exact ⟨btAll_iff.mpr h.f, decide_eq_true n⟩
  · rw [PyData.depth]
    have := depthAll_le h.d
    omega
theorem BzAll.lst {m k L : Nat} {xs : List PyData} (h : BzAll m k xs) (n : xs.length ≤ 401 + m) (hl : shsum xs + 2 ≤ L) : Bz m (k + 1) L (.list xs) := by
  refine ⟨?_, ?_, Nat.le_trans (lst_len xs) hl⟩
  · rw [bt, Bool.and_eq_true]
    exact ⟨btAll_iff.mpr h.f, decide_eq_true n⟩
  · rw [PyData.depth]
    have := depthAll_le h.d
    omega
theorem Bz.items {m k L : Nat} {xs : List PyData} (h : Bz m k L (.tuple xs)) : ∃ k', k = k' + 1 ∧ BzAll m k' xs ∧ shsum xs ≤ L ∧ xs.length ≤ 401 + m := by
  have f := h.f
  rw [bt, Bool.and_eq_true] at f
  have d := h.d
  rw [PyData.depth] at d
  refine ⟨k - 1, by omega, ⟨fun x hx => btAll_iff.mp f.1 x hx, fun x hx => ?_⟩, Nat.le_trans (tup_len xs).2 h.l, of_decide_eq_true f.2⟩
  have := depth_mem' hx
  omega
theorem BzAll.sub {m k : Nat} {xs ys : List PyData} (h : BzAll m k xs) (s : ∀ y ∈ ys, y ∈ xs) : BzAll m k ys := ⟨fun y hy => h.f y (s y hy), fun y hy => h.d y (s y hy)⟩
theorem BzAll.app {m k : Nat} {xs ys : List PyData} (h : BzAll m k xs) (g : BzAll m k ys) : BzAll m k (xs ++ ys) := ⟨fun y hy => (List.mem_append.mp hy).elim (h.f y) (g.f y), fun y hy => (List.mem_append.mp hy).elim (h.d y) (g.d y)⟩
theorem BzAll.one {m k L : Nat} {x : PyData} (h : Bz m k L x) : BzAll m k [x] := ⟨fun y hy => by rw [List.mem_singleton.mp hy]; exact h.f, fun y hy => by rw [List.mem_singleton.mp hy]; exact h.d⟩
theorem BzAll.up {m k m' k' : Nat} {xs : List PyData} (h : BzAll m k xs) (a : m ≤ m') (b : k ≤ k') : BzAll m' k' xs := ⟨fun x hx => bt_mono a x (h.f x hx), fun x hx => Nat.le_trans (h.d x hx) b⟩
theorem Bz.shw {m k L : Nat} {e : PyData} (h : Bz m k L e) (a : m ≤ 1000) (b : k ≤ 40) (c : L ≤ 10000000) : Shw e := ⟨bt_show a e h.f, Nat.le_trans h.d b, Nat.le_trans h.l c⟩
theorem Bz.tame {m k L : Nat} {e : PyData} (h : Bz m k L e) (a : m ≤ 1000) : tame e = true := bt_tame a e h.f
/-- a row of items that are small each -/
theorem shsum_le {L : Nat} : ∀ {xs : List PyData}, (∀ x ∈ xs, x.shown.length ≤ L) → shsum xs ≤ xs.length * (L + 2)
  | [], _ => Nat.zero_le _
  | x :: xs, h => by
    have h1 := h x List.mem_cons_self
    have h2 := shsum_le fun y m => h y (List.mem_cons_of_mem _ m)
    rw [shsum, List.length_cons, Nat.succ_mul]
    omega
theorem BzAll.of {m k : Nat} {xs : List PyData} (h : ∀ x ∈ xs, ∃ L, Bz m k L x) : BzAll m k xs := ⟨fun x hx => (h x hx).choose_spec.f, fun x hx => (h x hx).choose_spec.d⟩
end Kn
/-! a call of a def kept where no repr is under way, what it raises told at the slots -/
namespace Gd
open PySem PySem.Spec PyProof.Rows L2
section
variable {X : Cx} {k : Nat} {f : Addr} {fd : FuncData} {ps : List Str} {sp : Sp} {W : WX}
theorem runS {pins : List (Addr × Obj)} {σ : L2.St} {H : Hp} {s : Shared} {Q : VK} {us : List Value} {vs : List V} (F : FnG X.prog X.w X.K X.mg X.base (L2.CX X.prog X.w) k f fd ps sp) (room : Room k X.A) (gd : X.A.guards = some [])
    (bind : Binds X.K fd ps []) (tk : Takes X W) (I : Inv X pins σ H s) (rel : Vals vs us) (want : sp vs H Q (WE W σ)) :
    wpAny (model X.prog X.w) X.A (call (.ref f) us) (EP X pins σ Q) X.xe s := by
  have many : us.length = ps.length := rel.length.symm.trans (F.arity _ _ _ _ want)
  have b := bind s us I.kIn (by rw [List.append_nil]; exact many)
  rw [List.append_nil] at b
  refine wpAny_call (codeAny_mono (F.go X.A room gd X.stack s H ⟨us, []⟩ _ _ Q (WE W σ) I.env0 b rel want) ?_)
  intro r s2 post
  match r, post with
  | .error _, post => exact passAt tk σ _ _ _ _ _ I post
  | .ok (.ret _), post => exact I.after post
  | .ok .next, post => exact post.elim
  | .ok .brk, post => exact post.elim
  | .ok .cont, post => exact post.elim
theorem pe_callGS {x : Str} {p pos : Pos} {e : Expr} {es : List Expr} {t : TA} (F : FnG X.prog X.w X.K X.mg X.base (L2.CX X.prog X.w) k f fd ps sp) (room : Room k X.A) (gd : X.A.guards = some []) (isGl : Gl X x) (at_ : X.mg x = some (.ref f))
    (kept : PySem.W.keepIn X.K (.ref f) = true) (bind : Binds X.K fd ps []) (tk : Takes X W)
    (args : PA X (e :: es) t) (nodbg : (x == ("__debug__" : Str)) = false := by decide) (star : starEach (e :: es) X.env = (false, eval e X.env) :: starEach es X.env := by rfl) (plain : (backTo pos (starEach es X.env)).any (·.1) = false := by rfl) :
    PE X (.Call (.Name x p) (e :: es) [] pos) (tCallS sp (WE W) t) where
  run pins s σ H Q I want := by
    refine wpAny_Call_Name_kw (ld_glob I isGl at_ (PySem.W.callWith_K (h₀ := X.base) I.ok.mod.kin kept (thn (args.run pos pins s σ H _ I want) ?_) star plain) nodbg)
    rintro us s1 ⟨vs, H1, I1, rel, q⟩
    exact ⟨I1.kIn, runS F room gd bind tk I1 rel q⟩
theorem callS_of {E : L2.St → XK} {t : TA} {σ : L2.St} {H : Hp} {Q : VK} (h : t σ H fun vs H1 => sp vs H1 Q (E σ)) : tCallS sp E t σ H Q := h
/-- nothing is taken -/
theorem takesNo : Takes X (fun _ _ _ _ => False) := fun _ _ ⟨_, _, _, _, _, _, _, _, _, _, _, _, _, _, _, _, z⟩ => z.elim
end
end Gd
/-! _law_value_right -/
namespace Kn
open PySem PySem.Spec PyProof.Rows L2 Evl Gd Sn Qw
abbrev sValR : Stmt := topS 37
abbrev nValR : List Str := ["_law_thing", "_law_kept", "_law_due"]
theorem scValR : FnScope nValR ["_law_thing"] (defScope sValR) := ⟨rfl, rfl, rfl, by decide +kernel, rfl, by decide +kernel, by decide +kernel⟩
def spValR (K : PySem.W.Frag) : Sp := fun vs H Q _ => ∃ (D : Addr → Prop) (x : V) (e : PyData), vs = [x] ∧ Av K D H x e ∧ tame e = true ∧ Shw e ∧ ∀ H', Ex H H' → Q (.bl true) H'
theorem shw_bool (b : Bool) : Shw (.bool b) := ⟨by rw [PyData.showable], by rw [PyData.depth]; omega, by cases b <;> decide +kernel⟩
section
variable {P : Program} {w : World} {K : PySem.W.Frag} {mg : Str → Option Value} {base : Heap}
theorem ok_valR {f fR fS : Addr} {fd fdR fdS : FuncData} (F : Fun K "_law_value_right" "_law_value_right" sValR f fd) (FR : Fun K "_law_shot_right" "_law_shot_right" sShR fR fdR) (FS : Fun K "is_snapshot" "is_snapshot" sSnap fS fdS)
    (bR : Binds K fdR ["_law_thing"] []) (bS : Binds K fdS ["value"] []) (kS : KBinds K fdS ["value"] ["value"] (· ++ ·) (· ++ ·)) (gR : mg "_law_shot_right" = some (.ref fR)) (gS : mg "is_snapshot" = some (.ref fS)) (mP : mg "repr" = none)
    (GR' : FnOk P w K mg base CX0 3 fR fdR ["_law_thing"] (spV K gSnap)) (GS : FnOk P w K mg base CX0 5 fS fdS ["value"] (spV K gSnap)) : FnG P w K mg base CX0 6 f fd ["_law_thing"] (spValR K) := by
  have GR : FnOk P w K mg base CX0 5 fR fdR ["_law_thing"] (spV K gSnap) := GR'.mono (by decide)
  refine fng0_of F scValR (fun vs H Q E h => ?_) (fun cdv A outer s H vs Q E hr gd h => ?_)
  · obtain ⟨D, x, e, rfl, _⟩ := h
    rfl
  · obtain ⟨D, x, e, rfl, av, tm, sh, q⟩ := h
    refine ⟨_, pss_cons (ps_par (i := 1) (j := 2) rfl scValR.nd rfl rfl (by decide) rfl rfl (pa_cons (pe_callB (call_reprA gd hr.units) (by rfl) mP boot_repr (pa_cons (pv 0) pa_nil)) <| pa_cons (pe_callB (call_reprA gd hr.units) (by rfl) mP boot_repr (pa_cons (pe_call GR hr (by rfl) gR FR.kp bR .nil pass0 (pa_cons (pv 0) pa_nil)) pa_nil)) pa_nil) (by rfl)) <|
      pss_one (ps_ret (pe_and (pe_cmpR op_eq (pe_callB (call_reprA gd hr.units) (by rfl) mP boot_repr (pa_cons (pe_call GS hr (by rfl) gS FS.kp bS .nil pass0 (pa_cons (pv 0) pa_nil)) pa_nil)) (pv 2) (nomark _)) <|
        pe_and (pe_cmpR op_eq (pe_callB (call_reprA gd hr.units) (by rfl) mP boot_repr (pa_cons (pe_kwOnly GS hr (by rfl) gS FS.kp kS pass0 (pk_cons (pv 0) pk_nil)) pa_nil)) (pv 2) (nomark _)) <|
        pe_one (pe_cmpR op_eq (pe_callB (call_reprA gd hr.units) (by rfl) mP boot_repr (pa_cons (pv 0) pa_nil)) (pv 1) (nomark _)))), ?_⟩
    have same : ∀ {b c : Bool}, (b = true ↔ gSnap e) → (c = true ↔ gSnap e) → c = b := fun {b c} h g => by
      have := h.trans g.symm
      cases b <;> cases c <;> simp_all
    refine Sn.seq_of (Sn.par_of (Sn.c_of (Sn.cb_of (Sn.c_of (Sn.v_of rfl (Sn.n_of (repA_of av sh ?_)))))))
    refine Sn.c_of (Sn.cb_of (Sn.c_of (Sn.call_of (Sn.c_of (Sn.v_of rfl (Sn.n_of ⟨D, x, e, rfl, av, tm, fun H1 b x1 hb => Sn.n_of (repA_of (d := D) (.bl b) (shw_bool b) ?_)⟩))))))
    refine Sn.n_of ⟨_, _, rfl, ?_⟩
    have av1 := av.kept x1
    refine Sn.ret_of (Sn.andv_of (Sn.op_of (Sn.cb_of (Sn.c_of (Sn.call_of (Sn.c_of (Sn.v_of rfl (Sn.n_of ⟨D, x, e, rfl, av1, tm, fun H2 c x2 hc => Sn.n_of (repA_of (d := D) (.bl c) (shw_bool c) (Sn.v_of rfl ⟨rfl, _, rfl, ?_⟩))⟩))))))))
    obtain rfl := same hb hc
    rw [decide_eq_true rfl, if_pos rfl]
    have av2 := av1.kept x2
    refine Sn.andv_of (Sn.op_of (Sn.cb_of (Sn.c_of (callK_of (Sn.n_of (Sn.c_of (Sn.v_of rfl (Sn.n_of ⟨D, x, e, rfl, av2, tm, fun H3 c3 x3 hc3 => Sn.n_of (repA_of (d := D) (.bl c3) (shw_bool c3) (Sn.v_of rfl ⟨rfl, _, rfl, ?_⟩))⟩))))))))
    obtain rfl := same hb hc3
    rw [decide_eq_true rfl, if_pos rfl]
    refine Sn.op_of (Sn.cb_of (Sn.c_of (Sn.v_of rfl (Sn.n_of (repA_of (av2.kept x3) sh (Sn.v_of rfl ⟨rfl, ?_⟩))))))
    rw [decide_eq_true rfl]
    exact q H3 ((x1.trans x2).trans x3)
end
end Kn
namespace Sn
open PySem PySem.Spec PyProof.Rows L2 Evl Gd
theorem Off.fresh {d D : Addr} {H H' : Hp} {o : HO} (e : Off d H H') (h : H D = none) : Off d H (L2.upd H' D o) := fun a u n ha => by
  rw [upd_ne (ne_of_none ha h)]
  exact e a u n ha
theorem Pot.updD {H : Hp} {d D : Addr} {n : Int} {o : HO} (h : Pot H d n) (ne : D ≠ d) : Pot (L2.upd H D o) d n := by
  obtain ⟨g, b, m, h0, h⟩ := h
  exact ⟨g, b, m, by rw [upd_ne ne.symm]; exact h0, h⟩
theorem keepOff {K : PySem.W.Frag} {H H' : Hp} {d : Addr} {n : Int} (p : Pot H d n) (o : Off d H H') : KeepK K H H' := by
  obtain ⟨g, b, m, h0, _⟩ := p
  exact .lst h0 o
section
variable {ta tr te tb : TE} {tt : TA} {ts tz : TS} {D : Ends} {g : TG} {σ : L2.St} {H : Hp} {Q : VK}
theorem rd_of {E : XK} {d : Addr} {n : Int} {td tl : TE} {xs : List V} (hd : Ev td σ H (.ref d)) (hP : Pot H d n) (hn : n ≤ 1000000) (ev : EvL tl σ H xs) (z0 : 0 < xs.length) (z1 : xs.length ≤ 1000) (k : ∀ H' x, x ∈ xs → Off d H H' → Pot H' d (n + 1) → Q x H') :
    tCall spOf [] E (tCons td (tCons tl tNil)) σ H Q := by
  refine hd H (Ex.refl H) _ fun H1 e1 => ev H1 e1 _ fun p H2 np e2 h2 => ?_
  have p1 := hP.ex e1
  exact ⟨d, p, n, xs, rfl, p1.ex e2, hn, p1.ne np, h2, z0, z1, fun H' x hx o pt => k H' x hx ((Off.of (e1.trans e2)).trans o) pt⟩
/-- of(jar, a list that stands) -/
theorem rd_ofV {E : XK} {d l : Addr} {n : Int} {td tl : TE} {xs : List V} (hd : Ev td σ H (.ref d)) (hl : Ev tl σ H (.ref l)) (hP : Pot H d n) (hn : n ≤ 1000000) (ne : l ≠ d) (hx : H l = some (.lst xs)) (z0 : 0 < xs.length) (z1 : xs.length ≤ 1000) (k : ∀ H' x, x ∈ xs → Off d H H' → Pot H' d (n + 1) → Q x H') :
    tCall spOf [] E (tCons td (tCons tl tNil)) σ H Q := by
  refine hd H (Ex.refl H) _ fun H1 e1 => hl H1 e1 _ fun H2 e2 => ?_
  exact ⟨d, l, n, xs, rfl, hP.ex (e1.trans e2), hn, ne, (e1.trans e2) _ _ hx, z0, z1, fun H' x hx o pt => k H' x hx ((Off.of (e1.trans e2)).trans o) pt⟩
/-- of(jar, [0, 0, 0, take(jar, 9)]) -/
theorem rd_of9 {E E' : XK} {d : Addr} {n : Int} (at0 : σ[0]? = some (some (.ref d))) (hP : Pot H d n) (hn : n ≤ 900000) (k : ∀ H' r, Off d H H' → Pot H' d (n + 2) → 0 ≤ r → r ≤ 8 → Q (.int r) H') :
    tCall spOf [] E (tCons (tVar 0) (tCons (tLst (tCons (tC (.int 0)) (tCons (tC (.int 0)) (tCons (tC (.int 0)) (tCons (tCall spTake [] E' (tCons (tVar 0) (tCons (tC (.int 9)) tNil))) tNil))))) tNil)) σ H Q := by
  refine call_of (c_of (v_of at0 (c_of (lst_of (c_of (k_of (c_of (k_of (c_of (k_of (c_of (rd_take (ev_var at0) ev_c hP (by omega) (by decide) (by decide) fun H1 r o1 p1 r0 r1 => n_of ⟨by show 4 ≤ sizeLine; decide, fun p hp => ?_⟩))))))))))))
  refine n_of ⟨d, p, n + 1, _, rfl, p1.updD (p1.ne hp), by omega, p1.ne hp, upd_same, by show 0 < 4; decide, by show 4 ≤ 1000; decide, fun H' x hx o pt => ?_⟩
  have fin : ∀ i, x = V.int i → 0 ≤ i → i ≤ 8 → Q x H' := fun i e i0 i8 => by
    rw [e]
    exact k H' i (o1.trans ((Off.of (Ex.new hp)).trans o)) (by rw [show n + 2 = n + 1 + 1 by omega]; exact pt) i0 i8
  rcases List.mem_cons.mp hx with e | hx
  · exact fin 0 e (by decide) (by decide)
  · rcases List.mem_cons.mp hx with e | hx
    · exact fin 0 e (by decide) (by decide)
    · rcases List.mem_cons.mp hx with e | hx
      · exact fin 0 e (by decide) (by decide)
      · rcases List.mem_cons.mp hx with e | hx
        · exact fin r e r0 (by omega)
        · cases hx
end
abbrev sFig : Stmt := topS 25
abbrev nFig : List Str := ["_law_jar_here", "_law_many", "_law_found", "_law_last", "_law_turn"]
theorem scFig : FnScope nFig ["_law_jar_here", "_law_many"] (defScope sFig) := ⟨rfl, rfl, rfl, by decide +kernel, rfl, by decide +kernel, by decide +kernel⟩
def spFig : Sp := fun vs H Q _ => ∃ (d : Addr) (n m : Int), vs = [.ref d, .int m] ∧ Pot H d n ∧ n ≤ 800000 ∧ 0 ≤ m ∧ m ≤ 10 ∧
  ∀ (H' : Hp) (l : Addr) (ns : List Int), Off d H H' → Pot H' d (n + 30) → l ≠ d → H l = none → H' l = some (.lst (ns.map V.int)) → (ns.length : Int) = m → (∀ i ∈ ns, 0 ≤ i ∧ i ≤ 200) → ns.Pairwise (· < ·) → Q (.ref l) H'
section
variable {P : Program} {w : World} {K : PySem.W.Frag} {mg : Str → Option Value} {base : Heap}
theorem ok_fig {f fT fO : Addr} {fd fdT fdO : FuncData} (F : Fun K "_law_figures" "_law_figures" sFig f fd) (FT : Fun K "_law_take" "_law_take" sTake fT fdT) (FO : Fun K "_law_of" "_law_of" sOf fO fdO) (bT : Binds K fdT ["_law_jar_here", "_law_many"] []) (bO : Binds K fdO ["_law_jar_here", "_law_some"] [])
    (gT : mg "_law_take" = some (.ref fT)) (gO : mg "_law_of" = some (.ref fO)) (mL : mg "len" = none) (mR : mg "range" = none) : FnOk P w K mg base CX0 3 f fd ["_law_jar_here", "_law_many"] spFig := by
  have GT : FnOk P w K mg base CX0 2 fT fdT ["_law_jar_here", "_law_many"] spTake := (ok_take FT).mono (by decide)
  have GO : FnOk P w K mg base CX0 2 fO fdO ["_law_jar_here", "_law_some"] spOf := ok_of FO FT bT gT mL
  refine F.ok scFig (fun vs H Q E h => ?_) (fun cdv A outer s H vs Q E hr h => ?_)
  · obtain ⟨d, n, m, rfl, _⟩ := h
    rfl
  · obtain ⟨d, n, m, rfl, pot, hn, m0, m10, q⟩ := h
    refine ⟨_, pss_cons (ps_par (i := 2) (j := 3) rfl scFig.nd rfl rfl (by decide) rfl rfl (pa_cons (pe_lst pa_nil) (pa_cons (pe_op op_sub (pe_call GT hr (by rfl) gT FT.kp bT .nil pass0 (pa_cons (pv 0) (pa_cons pe_int pa_nil))) pe_int) pa_nil)) (by rfl))
      (pss_cons (ps_for PassesOwn.never rfl (pi_range1 (by rfl) mR (pa_cons (pv 1) pa_nil)) (pg_name (i := 4) scFig.nd rfl (.inl rfl))
        (pss_cons (ps_set (i := 3) scFig.nd rfl (.inl rfl) (pe_op op_add (pe_op op_add (pv 3) pe_int) (pe_call GO hr (by rfl) gO FO.kp bO .nil pass0 (pa_cons (pv 0) (pa_cons (pe_lst (pa_cons pe_int (pa_cons pe_int (pa_cons pe_int (pa_cons (pe_call GT hr (by rfl) gT FT.kp bT .nil pass0 (pa_cons (pv 0) (pa_cons pe_int pa_nil))) pa_nil))))) pa_nil)))))
        (pss_one (ps_expr (pe_bm PySem.F.plainAttrs_list PySem.F.slot_list_append PySem.F.type_list_append mt_append (pv 2) (pa_cons (pv 3) pa_nil))))))
      (pss_one (ps_ret (pv 2)))), ?_⟩
    refine seq_of (par_of (c_of (lst_of (n_of ⟨Nat.zero_le _, fun l hl => ?_⟩))))
    have nld := pot.ne hl
    refine c_of (op_of (rd_take (ev_var rfl) ev_c (pot.updD nld) (by omega) (by decide) (by decide) fun H2 r o2 p2 r0 r1 => ?_))
    refine ⟨r, 1, rfl, rfl, _, _, rfl, ?_⟩
    have oH : Off d H H2 := (Off.of (Ex.new hl)).trans o2
    have l2 : H2 l = some (.lst []) := o2 l _ nld upd_same
    refine ⟨.int m, rfl, m, rfl, by omega, by omega, for_range (lo := 0) (n := m.toNat) (fun i σ' H' => ∃ y4 last ns, σ' = [some (.ref d), some (.int m), some (.ref l), some (.int last), y4] ∧ Off d H H' ∧ Pot H' d (n + 1 + 2 * (i : Int)) ∧ H' l = some (.lst (ns.map V.int)) ∧ ns.length = i ∧ -1 ≤ last ∧ last ≤ 1 + 9 * (i : Int) ∧ (∀ x ∈ ns, 0 ≤ x ∧ x ≤ last) ∧ ns.Pairwise (· < ·))
      ⟨none, r - 1, [], rfl, oH, p2.up (by omega), l2, rfl, by omega, by omega, fun x h => absurd h List.not_mem_nil, .nil⟩ ?_ ?_⟩
    · rintro i σ' H' hi ⟨y4, last, ns, rfl, o, p, hl', len, b0, b1, hb, asc⟩
      have i10 : (i : Int) < 10 := by omega
      dsimp only [gName]
      refine seq_of (asg_of (op_of ?_))
      refine ⟨.int last, rfl, last, 1, rfl, rfl, ?_⟩
      refine rd_of9 rfl p (by omega) fun H3 x o3 p3 x0 x8 => ?_
      refine ⟨_, _, rfl, rfl, ?_⟩
      have l3 := o3 l _ nld hl'
      refine ⟨.ref l, rfl, .inl ⟨rfl, _, sq_of l3⟩, .int (last + 1 + x), rfl, l, _, _, rfl, rfl, l3, sz_lt (by rw [List.length_map]; omega), ?_⟩
      refine ⟨_, last + 1 + x, ns ++ [last + 1 + x], rfl, (o.trans o3).fresh hl, (p3.updD nld).up (by push_cast; omega), ?_, ?_, by omega, by push_cast; omega, ?_, ?_⟩
      · rw [upd_same, List.map_append]
        rfl
      · rw [List.length_append, len]
        rfl
      · intro y hy
        rcases List.mem_append.mp hy with h | h
        · have := hb y h
          omega
        · rw [List.mem_singleton.mp h]
          omega
      · rw [List.pairwise_append]
        refine ⟨asc, List.pairwise_singleton _ _, fun a ha b hb' => ?_⟩
        rw [List.mem_singleton.mp hb']
        have := hb a ha
        omega
    · rintro σ' H' ⟨y4, last, ns, rfl, o, p, hl', len, b0, b1, hb, asc⟩
      refine ⟨.ref l, rfl, q H' l ns o (p.up (by omega)) nld hl hl' (by omega) (fun i hi => ?_) asc⟩
      have := hb i hi
      omega
end
end Sn
/-! values of data written out: None, ints, texts, tuples, lists, {}, {text: value} -/
namespace Sn
open PySem PySem.Spec PyProof.Rows L2 Evl Gd
mutual
theorem Av.grow {K : PySem.W.Frag} {D D' : Addr → Prop} {H : Hp} (h : ∀ a, D' a → D a ∨ H a = none) : ∀ {v : V} {x : PyData}, Av K D H v x → Av K D' H v x
  | _, _, .non => .non
  | _, _, .bl b => .bl b
  | _, _, .int i => .int i
  | _, _, .str x => .str x
  | _, _, .lst n q e r => .lst n (fun z => (h _ z).elim q fun w => by rw [e] at w; cases w) e (AvAll.grow h r)
  | _, _, .tup q e r => .tup (fun z => (h _ z).elim q fun w => by rw [show _ = _ from e] at w; cases w) e (AvAll.grow h r)
  | _, _, .dnil q e => .dnil (fun z => (h _ z).elim q fun w => by rw [e] at w; cases w) e
  | _, _, .done q e r => .done (fun z => (h _ z).elim q fun w => by rw [e] at w; cases w) e (Av.grow h r)
theorem AvAll.grow {K : PySem.W.Frag} {D D' : Addr → Prop} {H : Hp} (h : ∀ a, D' a → D a ∨ H a = none) : ∀ {vs : List V} {xs : List PyData}, AvAll K D H vs xs → AvAll K D' H vs xs
  | _, _, .nil => .nil
  | _, _, .cons a b => .cons (Av.grow h a) (AvAll.grow h b)
end
/-- what may not be among a value's parts is there already -/
def HeldV (D : Addr → Prop) (H : Hp) : Prop := ∀ a, D a → H a ≠ none
theorem HeldV.ex {D : Addr → Prop} {H H' : Hp} (h : HeldV D H) (e : Ex H H') : HeldV D H' := fun a z n => by
  cases c : H a with
  | none => exact h a z c
  | some o => rw [e a o c] at n; cases n
/-- comes to this value, off what may not be among its parts -/
def Vl (K : PySem.W.Frag) (D0 : Addr → Prop) (σ : L2.St) (H : Hp) (te : TE) (e : PyData) : Prop := ∀ H1 D, Ex H H1 → (∀ a, D a → D0 a ∨ H a = none) → HeldV D H1 → ∀ Q : VK, (∀ H' x, Ex H1 H' → Av K D H' x e → Q x H') → te σ H1 Q
def VlA (K : PySem.W.Frag) (D0 : Addr → Prop) (σ : L2.St) (H : Hp) (ta : TA) (es : List PyData) : Prop := ∀ H1 D, Ex H H1 → (∀ a, D a → D0 a ∨ H a = none) → HeldV D H1 → ∀ Q : List V → Hp → Prop, (∀ H' xs, Ex H1 H' → AvAll K D H' xs es → Q xs H') → ta σ H1 Q
section
variable {K : PySem.W.Frag} {D0 : Addr → Prop} {σ : L2.St} {H : Hp} {te : TE} {ta : TA} {e : PyData} {es : List PyData}
theorem vl_non : Vl K D0 σ H (tC .non) .none := fun H1 _ _ _ _ Q q => k_of (q H1 _ (Ex.refl H1) .non)
theorem vl_bl (b : Bool) : Vl K D0 σ H (tC (.bl b)) (.bool b) := fun H1 _ _ _ _ Q q => k_of (q H1 _ (Ex.refl H1) (.bl b))
theorem vl_int (i : Int) : Vl K D0 σ H (tC (.int i)) (.int i) := fun H1 _ _ _ _ Q q => k_of (q H1 _ (Ex.refl H1) (.int i))
theorem vl_str (z : Str) : Vl K D0 σ H (tC (.str z)) (.str z) := fun H1 _ _ _ _ Q q => k_of (q H1 _ (Ex.refl H1) (.str z))
theorem vl_var {i : Nat} {x : V} (h : σ[i]? = some (some x)) (a : Av K D0 H x e) : Vl K D0 σ H (tVar i) e := fun H1 D x1 hD _ Q q => v_of h (q H1 x (Ex.refl H1) ((a.grow hD).keep (fun a o _ z => x1 a o z)))
theorem vl_nil : VlA K D0 σ H tNil [] := fun H1 _ _ _ _ Q q => n_of (q H1 [] (Ex.refl H1) .nil)
theorem Av.keepE {D : Addr → Prop} {H H' : Hp} {x : V} (a : Av K D H x e) (y : Ex H H') : Av K D H' x e := a.keep (fun a o _ z => y a o z)
theorem AvAll.keepE {D : Addr → Prop} {H H' : Hp} {xs : List V} (a : AvAll K D H xs es) (y : Ex H H') : AvAll K D H' xs es := a.keep (fun a o _ z => y a o z)
theorem vl_cons (h : Vl K D0 σ H te e) (t : VlA K D0 σ H ta es) : VlA K D0 σ H (tCons te ta) (e :: es) := fun H1 D x1 hD hd Q q =>
  c_of (h H1 D x1 hD hd _ fun H2 x x2 a => t H2 D (x1.trans x2) hD (hd.ex x2) _ fun H3 xs x3 b => q H3 _ (x2.trans x3) (.cons (a.keepE x3) b))
theorem vl_tup (h : VlA K D0 σ H ta es) (few : es.length ≤ 100) : Vl K D0 σ H (tTup ta) (.tuple es) := fun H1 D x1 hD hd Q q =>
  tup_of (h H1 D x1 hD hd _ fun H2 xs x2 b => ⟨by rw [b.len]; exact Nat.le_trans few (by show 100 ≤ sizeLine; decide), fun p hp => q _ _ (x2.trans (Ex.new hp)) (.tup (fun z => (hd.ex x2) p z hp) upd_same (b.keepE (Ex.new hp)))⟩)
theorem lstN_of {t : TA} {Q : VK} (h : t σ H fun xs H1 => xs.length ≤ sizeLine ∧ ∀ p, H1 p = none → p ≠ sysModules → Q (.ref p) (upd H1 p (.lst xs))) : tLstN t σ H Q := h
theorem vl_lst (h : VlA K D0 σ H ta es) (few : es.length ≤ 100) : Vl K D0 σ H (tLstN ta) (.list es) := fun H1 D x1 hD hd Q q =>
  lstN_of (h H1 D x1 hD hd _ fun H2 xs x2 b => ⟨by rw [b.len]; exact Nat.le_trans few (by show 100 ≤ sizeLine; decide), fun p hp ns => q _ _ (x2.trans (Ex.new hp)) (.lst ns (fun z => (hd.ex x2) p z hp) upd_same (b.keepE (Ex.new hp)))⟩)
theorem vl_dnew : Vl K D0 σ H tDNewK (.dict []) := fun H1 D x1 hD hd Q q => newK_of fun p hp => q _ _ (Ex.new hp) (.dnil (fun z => hd p z hp) upd_same)
theorem disp_of {trs : List (TE × TE)} {Q : VK} (h : ∀ p, H p = none → tPairs trs σ (upd H p (.dK [])) fun ps H2 => H2 p = some (.dK []) ∧ ∃ kvs : List (Key × V), ps = kvs.map (fun kv => (kV kv.1, kv.2)) ∧ kvs.length ≤ 15 ∧ Q (.ref p) (upd H2 p (.dK (mergeK [] kvs)))) : tDisp trs σ H Q := h
theorem vl_disp {k : Str} (h : Vl K D0 σ H te e) : Vl K D0 σ H (tDisp [(tC (.str k), te)]) (.dict [(.str k, e)]) := fun H1 D x1 hD hd Q q =>
  disp_of fun p hp => k_of (h (upd H1 p (.dK [])) (fun a => D a ∨ a = p) (x1.trans (Ex.new hp)) (fun a z => z.elim (hD a) fun e => .inr (by
    cases c : H a with
    | none => rfl
    | some o =>
      have := x1 a o c
      rw [e, hp] at this
      cases this)) (fun a z => z.elim (fun z => hd.ex (Ex.new hp) a z) fun e => by rw [e, upd_same]; exact fun n => nomatch n) _ fun H2 x x2 a => by
    have hp2 := x2 _ _ (upd_same : upd H1 p (.dK []) p = some (.dK []))
    refine ⟨hp2, [(.inr k, x)], rfl, by show 1 ≤ 15; decide, q _ (.ref p) ?_ (.done (k := k) (x := x) (fun z => hd p z hp) upd_same ?_)⟩
    · intro b o hb
      have n : b ≠ p := ne_of_none hb hp
      rw [upd_ne n]
      exact x2 b o (by rw [upd_ne n]; exact hb)
    · have a2 : Av K (fun a => D a ∨ a = p) (upd H2 p (.dK (mergeK [] [(.inr k, x)]))) x e := a.keep fun b o nb hb => by
        rw [upd_ne fun z => nb (.inr z)]
        exact hb
      exact a2.grow fun a z => .inl (.inl z))
end
end Sn
/-! any value -/
namespace Kn
open PySem PySem.Spec PyProof.Rows L2 Evl Gd Qw Sn
abbrev sOdd : Stmt := topS 29
abbrev nOdd : List Str := ["_law_jar_here", "_law_some", "_law_found", "_law_turn"]
theorem scOdd : FnScope nOdd ["_law_jar_here"] (defScope sOdd) := ⟨rfl, rfl, rfl, by decide +kernel, rfl, by decide +kernel, by decide +kernel⟩
/-- what is drawn: small -/
def OddN (k : Nat) (e : PyData) : Prop := Bz 0 (3 + k) (60 + 12 * k) e
abbrev odd1 : List PyData := [.none, .bool true, .bool false, .int 0, .int 1, .int (-1), .int 5, .int 6, .int 400, .str "", .str "a", .str "root", .str "pin 0", .tuple [], .list [], .dict [], .tuple [.int 0], .tuple [.int 0, .int 1], .tuple [.str "a", .int 0]]
abbrev odd2 : List PyData := [.tuple [.str "root", .str "a"], .list [.str "root", .str "a"], .tuple [.str "slot", .int 0, .int 0], .tuple [.str "slot", .int 0, .bool true], .tuple [.str "entry", .int 0, .int 0], .dict [(.str "a", .int 1)]]
theorem odd_all : ∀ e ∈ odd1 ++ odd2, bt 0 e = true ∧ e.depth ≤ 3 ∧ e.shown.length ≤ 60 := by decide +kernel
theorem odd_base {e : PyData} (h : e ∈ odd1 ++ odd2) : OddN 0 e := by
  obtain ⟨h1, h2, h3⟩ := odd_all e h
  exact ⟨h1, h2, h3⟩
abbrev oddOf (e : PyData) : List PyData := [.tuple [e], .list [e], .dict [(.str "a", e)], .tuple [e, .int 1], .tuple [.int 1, e]]
theorem dic_len (e : PyData) : (PyData.dict [(.str "a", e)]).shown.length ≤ e.shown.length + 10 := by
  have h : (PyData.dict [(.str "a", e)]).shown = ("{" : Str) ++ ((PyData.str "a").shown ++ ": " ++ e.shown) ++ "}" := rfl
  rw [h, Str.length_append, Str.length_append, Str.length_append, Str.length_append, show ("{" : Str).length = 1 from by decide +kernel, show ("}" : Str).length = 1 from by decide +kernel, show (": " : Str).length = 2 from by decide +kernel, show (PyData.str "a").shown.length = 3 from by decide +kernel]
  omega
theorem i1_len : (PyData.int 1).shown.length = 1 := by decide +kernel
theorem bz1 : Bz 0 1 1 (.int 1) := ⟨by decide +kernel, by decide +kernel, by decide +kernel⟩
theorem odd_step {k : Nat} {e e' : PyData} (h : OddN k e) (m : e' ∈ oddOf e) : OddN (k + 1) e' := by
  have a3 := h.l
  have i1 := i1_len
  have one := BzAll.one h
  have o1 : BzAll 0 (3 + k) [.int 1] := (BzAll.one bz1).up (Nat.le_refl _) (by omega)
  have s1 : shsum [e] = e.shown.length + 2 + 0 := rfl
  have s2 : shsum [e, .int 1] = e.shown.length + 2 + ((PyData.int 1).shown.length + 2 + 0) := rfl
  have s3 : shsum [.int 1, e] = (PyData.int 1).shown.length + 2 + (e.shown.length + 2 + 0) := rfl
  simp only [oddOf, List.mem_cons, List.not_mem_nil, or_false] at m
  rcases m with rfl | rfl | rfl | rfl | rfl
  · exact (one.tup (by show 1 ≤ _; omega) (L := 60 + 12 * (k + 1)) (by omega)).up (Nat.le_refl _) (by omega) (Nat.le_refl _)
  · exact (one.lst (by show 1 ≤ _; omega) (L := 60 + 12 * (k + 1)) (by omega)).up (Nat.le_refl _) (by omega) (Nat.le_refl _)
  · have l := dic_len e
    have hd := h.d
    exact ⟨by rw [bt, btKv, h.f]; rfl, by simp only [PyData.depth, PyData.depthKv]; omega, by omega⟩
  · exact ((one.app o1).tup (by show 2 ≤ _; omega) (L := 60 + 12 * (k + 1)) (show shsum [e, .int 1] + 2 ≤ _ by omega)).up (Nat.le_refl _) (by omega) (Nat.le_refl _)
  · exact ((o1.app one).tup (by show 2 ≤ _; omega) (L := 60 + 12 * (k + 1)) (show shsum [.int 1, e] + 2 ≤ _ by omega)).up (Nat.le_refl _) (by omega) (Nat.le_refl _)
theorem av_mem {K : PySem.W.Frag} {D : Addr → Prop} {H : Hp} {xs : List V} {es : List PyData} {x : V} (a : AvAll K D H xs es) (h : x ∈ xs) : ∃ e, e ∈ es ∧ Av K D H x e := by
  obtain ⟨i, hi⟩ := List.mem_iff_getElem?.mp h
  obtain ⟨e, he, q⟩ := a.get hi
  exact ⟨e, List.mem_of_getElem? he, q⟩
section
variable {K : PySem.W.Frag} {D0 : Addr → Prop} {σ : L2.St} {H : Hp}
theorem vl_neg {i : Int} : Vl K D0 σ H (tUn (rU fun i => .int (-i)) (tC (.int i))) (.int (-i)) := fun H1 _ _ _ _ Q q => Sn.k_of ⟨i, rfl, q H1 _ (Ex.refl H1) (.int _)⟩
end
def spOdd (K : PySem.W.Frag) : Sp := fun vs H Q _ => ∃ (D : Addr → Prop) (d : Addr) (n : Int), vs = [.ref d] ∧ D d ∧ HeldV D H ∧ Pot H d n ∧ n ≤ 900000 ∧
  ∀ H' x e, Off d H H' → Pot H' d (n + 11) → Av K D H' x e → OddN 9 e → Q x H'
theorem held_pot {H : Hp} {d : Addr} {n : Int} (p : Pot H d n) : HeldV (· = d) H := fun a e z => by
  obtain ⟨g, b, m, h0, _⟩ := p
  rw [show a = d from e, h0] at z
  cases z
theorem OddN.up {k j : Nat} {e : PyData} (h : OddN k e) (le : k ≤ j) : OddN j e := Bz.up h (Nat.le_refl _) (by omega) (by omega)
section
variable {P : Program} {w : World} {K : PySem.W.Frag} {mg : Str → Option Value} {base : Heap}
theorem ok_odd {f fT fO : Addr} {fd fdT fdO : FuncData} (F : Fun K "_law_odd" "_law_odd" sOdd f fd) (FT : Fun K "_law_take" "_law_take" sTake fT fdT) (FO : Fun K "_law_of" "_law_of" sOf fO fdO) (bT : Binds K fdT ["_law_jar_here", "_law_many"] []) (bO : Binds K fdO ["_law_jar_here", "_law_some"] [])
    (gT : mg "_law_take" = some (.ref fT)) (gO : mg "_law_of" = some (.ref fO)) (mL : mg "len" = none) (mR : mg "range" = none) : FnOk P w K mg base CX0 3 f fd ["_law_jar_here"] (spOdd K) := by
  have GO : FnOk P w K mg base CX0 2 fO fdO ["_law_jar_here", "_law_some"] spOf := ok_of FO FT bT gT mL
  refine F.ok scOdd (fun vs H Q E h => ?_) (fun cdv A outer s H vs Q E hr h => ?_)
  · obtain ⟨D, d, n, rfl, _⟩ := h
    rfl
  · obtain ⟨D, d, n, rfl, dD, hD, hP, hn, q⟩ := h
    refine ⟨_, pss_cons (ps_set (i := 1) scOdd.nd rfl (.inl rfl) (pe_lst (pa_cons pe_non <| pa_cons pe_bl <| pa_cons pe_bl <| pa_cons pe_int <| pa_cons pe_int <| pa_cons (pe_un un_neg pe_int) <| pa_cons pe_int <| pa_cons pe_int <| pa_cons pe_int <| pa_cons pe_str <| pa_cons pe_str <| pa_cons pe_str <| pa_cons pe_str <| pa_cons (pe_tup pa_nil) <| pa_cons (pe_lstN pa_nil) <| pa_cons pe_dnewK <| pa_cons (pe_tup (pa_cons pe_int pa_nil)) <| pa_cons (pe_tup (pa_cons pe_int <| pa_cons pe_int pa_nil)) <| pa_cons (pe_tup (pa_cons pe_str <| pa_cons pe_int pa_nil)) pa_nil))) <|
      pss_cons (ps_set (i := 1) scOdd.nd rfl (.inl rfl) (pe_op op_cat (pv 1) (pe_lst (pa_cons (pe_tup (pa_cons pe_str <| pa_cons pe_str pa_nil)) <| pa_cons (pe_lstN (pa_cons pe_str <| pa_cons pe_str pa_nil)) <| pa_cons (pe_tup (pa_cons pe_str <| pa_cons pe_int <| pa_cons pe_int pa_nil)) <| pa_cons (pe_tup (pa_cons pe_str <| pa_cons pe_int <| pa_cons pe_bl pa_nil)) <| pa_cons (pe_tup (pa_cons pe_str <| pa_cons pe_int <| pa_cons pe_int pa_nil)) <| pa_cons (pe_disp (pps_cons pe_str pe_int pps_nil) rfl rfl (by simp) (by decide)) pa_nil)))) <|
      pss_cons (ps_set (i := 2) scOdd.nd rfl (.inl rfl) (pe_call GO hr (by rfl) gO FO.kp bO .nil pass0 (pa_cons (pv 0) <| pa_cons (pv 1) pa_nil))) <|
      pss_cons (ps_for PassesOwn.never rfl (pi_range1 (by rfl) mR (pa_cons (pe_call GO hr (by rfl) gO FO.kp bO .nil pass0 (pa_cons (pv 0) <| pa_cons (pe_lst (pa_cons pe_int <| pa_cons pe_int <| pa_cons pe_int <| pa_cons pe_int <| pa_cons pe_int <| pa_cons pe_int pa_nil)) pa_nil)) pa_nil)) (pg_name (i := 3) scOdd.nd rfl (.inl rfl))
        (pss_one (ps_set (i := 2) scOdd.nd rfl (.inl rfl) (pe_call GO hr (by rfl) gO FO.kp bO .nil pass0 (pa_cons (pv 0) <| pa_cons (pe_lst (pa_cons (pe_tup (pa_cons (pv 2) pa_nil)) <| pa_cons (pe_lstN (pa_cons (pv 2) pa_nil)) <| pa_cons (pe_disp (pps_cons pe_str (pv 2) pps_nil) rfl rfl (by simp) (by decide)) <| pa_cons (pe_tup (pa_cons (pv 2) <| pa_cons pe_int pa_nil)) <| pa_cons (pe_tup (pa_cons pe_int <| pa_cons (pv 2) pa_nil)) pa_nil)) pa_nil))))) <|
      pss_one (ps_ret (pv 2)), ?_⟩
    have gr : ∀ {H : Hp} (a : Addr), D a → D a ∨ H a = none := fun a e => .inl e
    have v1 : ∀ {σ : L2.St} {H : Hp}, VlA K D σ H _ odd1 := fun {σ H} => vl_cons vl_non <| vl_cons (vl_bl true) <| vl_cons (vl_bl false) <| vl_cons (vl_int 0) <| vl_cons (vl_int 1) <| vl_cons vl_neg <| vl_cons (vl_int 5) <| vl_cons (vl_int 6) <| vl_cons (vl_int 400) <| vl_cons (vl_str "") <| vl_cons (vl_str "a") <| vl_cons (vl_str "root") <| vl_cons (vl_str "pin 0") <| vl_cons (vl_tup vl_nil (by decide)) <| vl_cons (vl_lst vl_nil (by decide)) <| vl_cons vl_dnew <| vl_cons (vl_tup (vl_cons (vl_int 0) vl_nil) (by decide)) <| vl_cons (vl_tup (vl_cons (vl_int 0) <| vl_cons (vl_int 1) vl_nil) (by decide)) <| vl_cons (vl_tup (vl_cons (vl_str "a") <| vl_cons (vl_int 0) vl_nil) (by decide)) vl_nil
    refine Sn.seq_of (Sn.asg_of (Sn.lst_of (v1 H _ (Ex.refl H) gr hD _ fun H1 xs x1 av => ⟨by rw [av.len]; show 19 ≤ sizeLine; decide, fun p1 hp1 => ?_⟩)))
    have d1 : p1 ≠ d := (hP.ex x1).ne hp1
    have y1 : Ex H (upd H1 p1 (.lst xs)) := x1.trans (Ex.new hp1)
    have h1 : (upd H1 p1 (.lst xs)) p1 = some (.lst xs) := upd_same
    have av1 := av.keepE (Ex.new (o := .lst xs) hp1)
    generalize upd H1 p1 (.lst xs) = H2 at y1 h1 av1 ⊢
    have v2 : ∀ {σ : L2.St} {H : Hp}, VlA K D σ H _ odd2 := fun {σ H} => vl_cons (vl_tup (vl_cons (vl_str "root") <| vl_cons (vl_str "a") vl_nil) (by decide)) <| vl_cons (vl_lst (vl_cons (vl_str "root") <| vl_cons (vl_str "a") vl_nil) (by decide)) <| vl_cons (vl_tup (vl_cons (vl_str "slot") <| vl_cons (vl_int 0) <| vl_cons (vl_int 0) vl_nil) (by decide)) <| vl_cons (vl_tup (vl_cons (vl_str "slot") <| vl_cons (vl_int 0) <| vl_cons (vl_bl true) vl_nil) (by decide)) <| vl_cons (vl_tup (vl_cons (vl_str "entry") <| vl_cons (vl_int 0) <| vl_cons (vl_int 0) vl_nil) (by decide)) <| vl_cons (vl_disp (vl_int 1)) vl_nil
    dsimp only
    refine Sn.seq_of (Sn.asg_of (Sn.op_of (Sn.v_of rfl (Sn.lst_of (v2 H2 _ (Ex.refl H2) gr (hD.ex y1) _ fun H3 ys x3 av3 => ⟨by rw [av3.len]; show 6 ≤ sizeLine; decide, fun p2 hp2 => ?_⟩)))))
    refine ⟨p1, p2, xs, ys, rfl, rfl, (x3.trans (Ex.new hp2)) _ _ h1, upd_same, by rw [av1.len, av3.len]; show 19 + 6 ≤ sizeLine; decide, fun p3 hp3 => ?_⟩
    have y3 : Ex H2 (upd (upd H3 p2 (.lst ys)) p3 (.lst (xs ++ ys))) := (x3.trans (Ex.new hp2)).trans (Ex.new hp3)
    have h3 : (upd (upd H3 p2 (.lst ys)) p3 (.lst (xs ++ ys))) p3 = some (.lst (xs ++ ys)) := upd_same
    have av4 : AvAll K D (upd (upd H3 p2 (.lst ys)) p3 (.lst (xs ++ ys))) (xs ++ ys) (odd1 ++ odd2) := ((av3.keepE (Ex.new hp2)).keepE (Ex.new hp3)).app (av1.keepE y3)
    have d3 : p3 ≠ d := ((((hP.ex y1).ex x3).ex (Ex.new hp2))).ne hp3
    generalize upd (upd H3 p2 (.lst ys)) p3 (.lst (xs ++ ys)) = H4 at y3 h3 av4 ⊢
    have l4 : (xs ++ ys).length = 25 := av4.len
    dsimp only
    refine Sn.seq_of (Sn.asg_of (Sn.call_of (Sn.c_of (Sn.v_of rfl (Sn.c_of (Sn.v_of rfl (Sn.n_of ⟨d, p3, n, _, rfl, (hP.ex y1).ex y3, by omega, d3, h3, by omega, by omega, fun H5 x hx o5 p5 => ?_⟩)))))))
    obtain ⟨e, he, ax⟩ := av_mem (av4.keep (bydo dD o5)) hx
    have od := odd_base he
    have off5 : Off d H H5 := (Off.of (y1.trans y3)).trans o5
    dsimp only
    refine Sn.seq_of (for_of (r1_of (Sn.c_of (Sn.rd_of (d := d) (ev_var rfl) p5 (by omega) (el_lst (vs := ([0, 0, 0, 1, 2, 9] : List Int).map V.int) (ea_cons ev_c (ea_cons ev_c (ea_cons ev_c (ea_cons ev_c (ea_cons ev_c (ea_cons ev_c ea_nil)))))) (by show 6 ≤ 100000; decide)) (by decide) (by decide) fun H6 k hk o6 p6 => ?_))))
    obtain ⟨m, hm, rfl⟩ : ∃ m : Nat, m ≤ 9 ∧ k = .int (m : Int) := by
      simp only [List.map_cons, List.map_nil, List.mem_cons, List.not_mem_nil, or_false] at hk
      rcases hk with rfl | rfl | rfl | rfl | rfl | rfl
      · exact ⟨0, by decide, rfl⟩
      · exact ⟨0, by decide, rfl⟩
      · exact ⟨0, by decide, rfl⟩
      · exact ⟨1, by decide, rfl⟩
      · exact ⟨2, by decide, rfl⟩
      · exact ⟨9, by decide, rfl⟩
    have ax6 := ax.keep (H' := H6) (bydo dD o6)
    refine Sn.n_of ⟨(m : Int), rfl, by omega, by omega, ?_⟩
    rw [Int.toNat_natCast]
    refine for_range (lo := 0) (n := m) (fun i σ' G => ∃ x e y3, σ' = [some (.ref d), some (.ref p3), some x, y3] ∧ Off d H G ∧ Pot G d (n + 2 + (i : Int)) ∧ Av K D G x e ∧ OddN i e) ⟨x, e, none, rfl, off5.trans o6, p6.up (by omega), ax6, od⟩ ?_ ?_
    · rintro i σ' G hi ⟨x, e, y3, rfl, off, pt, a, on⟩
      dsimp only [gName]
      have hdG : HeldV D G := Held.off hD off pt
      have v3 : ∀ {y}, VlA K D [some (.ref d), some (.ref p3), some x, y] G _ (oddOf e) := fun {y} => vl_cons (vl_tup (vl_cons (vl_var (i := 2) rfl a) vl_nil) (by show 1 ≤ 100; decide)) <| vl_cons (vl_lst (vl_cons (vl_var (i := 2) rfl a) vl_nil) (by show 1 ≤ 100; decide)) <| vl_cons (vl_disp (k := "a") (vl_var (i := 2) rfl a)) <| vl_cons (vl_tup (vl_cons (vl_var (i := 2) rfl a) <| vl_cons (vl_int 1) vl_nil) (by show 2 ≤ 100; decide)) <| vl_cons (vl_tup (vl_cons (vl_int 1) <| vl_cons (vl_var (i := 2) rfl a) vl_nil) (by show 2 ≤ 100; decide)) vl_nil
      refine Sn.asg_of (Sn.call_of (Sn.c_of (Sn.v_of rfl (Sn.c_of (Sn.lst_of (v3 G _ (Ex.refl G) gr hdG _ fun G1 zs x1 av1 => ⟨by rw [av1.len]; show 5 ≤ sizeLine; decide, fun p4 hp4 => ?_⟩))))))
      have l5 : zs.length = 5 := av1.len
      refine Sn.n_of ⟨d, p4, _, zs, rfl, (pt.ex x1).ex (Ex.new hp4), by omega, (pt.ex x1).ne hp4, upd_same, by omega, by omega, fun G2 x' hx' o' p' => ?_⟩
      obtain ⟨e', he', ax'⟩ := av_mem ((av1.keepE (Ex.new hp4)).keep (bydo dD o')) hx'
      exact ⟨x', e', _, rfl, off.trans ((Off.of (x1.trans (Ex.new hp4))).trans o'), p'.up (by omega), ax', odd_step on he'⟩
    · rintro σ' G ⟨x, e, y3, rfl, off, pt, a, on⟩
      dsimp only
      exact Sn.ret_of (Sn.v_of rfl (q G x e off (pt.up (by omega)) a (on.up hm)))
end
end Kn
/-! != (); bent values one by one -/
namespace Kn
open PySem PySem.Spec PyProof.Rows L2 Evl Gd Sn Qw
def rNeT0 (K : PySem.W.Frag) : R2 := fun x y H Q => ∃ a b xs, x = .ref a ∧ y = .ref b ∧ SqT K H a xs ∧ SqT K H b [] ∧ Q (.bl (!decide (xs = []))) H
section
variable {X : Cx}
theorem rn_tup0 {A : Around} {s : Shared} {a b : Addr} {us : List Value} (hu : A.units < cLine) (h : s.heap.IsTuple a us.toArray) (g : s.heap.IsTuple b #[]) : SeqAt.RcNeAt A s (.ref a) (.ref b) (!decide (us = [])) := by
  have e := SeqAt.RcNeAt.tuples (e := fun _ => true) h g hu fun j _ h2 => absurd h2 (Nat.not_lt_zero _)
  have z : ((List.range (min us.toArray.size (#[] : Array Value).size)).all (fun _ => true) && us.toArray.size == (#[] : Array Value).size) = decide (us = []) := by
    cases us <;> simp
  rw [z] at e
  exact e
theorem op_neT0 (hu : X.A.units < cLine) : OpR X (compareOp .NotEq) (rNeT0 X.K) := by
  intro pins s σ H x y v u Q I rx ry h
  obtain ⟨a, b, xs, rfl, rfl, ha, hb, q⟩ := h
  cases (show v = Value.ref a from rx)
  cases (show u = Value.ref b from ry)
  obtain ⟨us, r1, h1, _⟩ := I.tuple ha
  obtain ⟨ws, r2, h2, _⟩ := I.tuple hb
  cases r2
  refine rn_tup0 hu h1 h2 X.prog X.w _ _ ⟨.bl _, H, I, rfl, ?_⟩
  have : (us = []) = (xs = []) := by
    have := r1.length
    apply propext
    constructor
    · intro z
      rw [z] at this
      exact List.eq_nil_of_length_eq_zero this
    · intro z
      rw [z] at this
      exact List.eq_nil_of_length_eq_zero this.symm
  simp only [this]
  exact q
end
/-- a part of a row -/
def cutL {α : Type} (xs : List α) (lo hi : Option Int) : List α := (xs.drop (HT.sIx xs.length 0 lo)).take (HT.sIx xs.length xs.length hi - HT.sIx xs.length 0 lo)
theorem cutL_mem {α : Type} {xs : List α} {lo hi : Option Int} {x : α} (h : x ∈ cutL xs lo hi) : x ∈ xs := List.mem_of_mem_drop (List.mem_of_mem_take h)
theorem cutL_len {α : Type} (xs : List α) (lo hi : Option Int) : (cutL xs lo hi).length ≤ xs.length := by
  unfold cutL
  rw [List.length_take, List.length_drop]
  omega
theorem cutL_sum (xs : List PyData) (lo hi : Option Int) : shsum (cutL xs lo hi) ≤ shsum xs := Nat.le_trans (shsum_take _ _) (shsum_drop _ _)
theorem cutL_to {α : Type} (xs : List α) {k : Nat} (h : k ≤ xs.length) : cutL xs none (some (k : Int)) = xs.take k := by
  unfold cutL
  rw [HT.sIx_nat, HT.sIx_none, Nat.min_eq_left h]
  rfl
theorem cutL_from {α : Type} (xs : List α) {k : Nat} (h : k ≤ xs.length) : cutL xs (some (k : Int)) none = xs.drop k := by
  unfold cutL
  rw [HT.sIx_nat, HT.sIx_none, Nat.min_eq_left h]
  exact List.take_of_length_le (by rw [List.length_drop]; omega)
theorem cutL_last {α : Type} (xs : List α) : (cutL xs (some (-1)) none).length ≤ 1 := by
  unfold cutL
  rw [List.length_take, List.length_drop]
  have : HT.sIx xs.length 0 (some (-1)) = (-1 + (xs.length : Int)).toNat := rfl
  rw [this, HT.sIx_none]
  omega
theorem AvAll.cutE {K : PySem.W.Frag} {D : Addr → Prop} {H : Hp} {xs : List V} {es : List PyData} (h : AvAll K D H xs es) (lo hi : Option Int) : AvAll K D H (cutV xs lo hi) (cutL es lo hi) := by
  have := h.len
  unfold cutV cutL
  rw [this]
  exact AvAll.take _ (AvAll.drop _ h)
section
variable {K : PySem.W.Frag} {D0 : Addr → Prop} {σ : L2.St} {H : Hp} {ta tb tl : TE} {ds es : List PyData} {i : Int}
theorem slT_of {r : V → Option Int → Option Int → Hp → VK → Prop} {te tl : TE} {σ : L2.St} {H : Hp} {Q : VK} (h : te σ H fun x H1 => tl σ H1 fun y H2 => ∃ i, y = .int i ∧ r x none (some i) H2 Q) : L2.tSl r te tNoPart (tPart tl) σ H Q := h
theorem cut_at {D : Addr → Prop} {H1 : Hp} {t : Addr} {xs : List V} {lo hi : Option Int} {Q : VK} (nd : ¬ D t) (hd : HeldV D H1) (hp : H1 t = some (.tup xs)) (al : AvAll K D H1 xs ds) (q : ∀ H' x, Ex H1 H' → Av K D H' x (.tuple (cutL ds lo hi)) → Q x H') : rSlW K (.ref t) lo hi H1 Q :=
  ⟨t, xs, rfl, hp, fun p H2 x2 h2 o => q H2 _ x2 (.tup (fun z => o.elim (fun e => nd (by rw [← e]; exact z)) fun e => hd p z e) h2 ((AvAll.cutE al lo hi).keepE x2))⟩
theorem vl_from (h : Vl K D0 σ H ta (.tuple ds)) (hl : ∀ (H : Hp) (Q : VK), Q (.int i) H → tl σ H Q) : Vl K D0 σ H (L2.tSl (rSlW K) ta (tPart tl) tNoPart) (.tuple (cutL ds (some i) none)) := fun H1 D x1 hD hd Q q =>
  slS_of (h H1 D x1 hD hd _ fun H2 x x2 a => hl _ _ ⟨i, rfl, by
    obtain ⟨t, xs, rfl, nd, ht, al⟩ := a.tup_at
    exact cut_at nd (hd.ex x2) ht al fun H' x x3 a => q H' x (x2.trans x3) a⟩)
theorem vl_to (h : Vl K D0 σ H ta (.tuple ds)) (hl : ∀ (H : Hp) (Q : VK), Q (.int i) H → tl σ H Q) : Vl K D0 σ H (L2.tSl (rSlW K) ta tNoPart (tPart tl)) (.tuple (cutL ds none (some i))) := fun H1 D x1 hD hd Q q =>
  slT_of (h H1 D x1 hD hd _ fun H2 x x2 a => hl _ _ ⟨i, rfl, by
    obtain ⟨t, xs, rfl, nd, ht, al⟩ := a.tup_at
    exact cut_at nd (hd.ex x2) ht al fun H' x x3 a => q H' x (x2.trans x3) a⟩)
theorem vl_cat (h : Vl K D0 σ H ta (.tuple ds)) (g : Vl K D0 σ H tb (.tuple es)) (few : ds.length + es.length ≤ 100000) : Vl K D0 σ H (tOp (rCatW K) ta tb) (.tuple (ds ++ es)) := fun H1 D x1 hD hd Q q =>
  Sn.op_of (h H1 D x1 hD hd _ fun H2 x x2 a => g H2 D (x1.trans x2) hD (hd.ex x2) _ fun H3 y x3 b => by
    obtain ⟨t, xs, rfl, nd, ht, al⟩ := (a.keepE x3).tup_at
    obtain ⟨u, ys, rfl, nu, hu, bl⟩ := b.tup_at
    refine ⟨t, u, xs, ys, rfl, rfl, ht, hu, ?_, fun p H4 x4 h4 o => q H4 _ ((x2.trans x3).trans x4) (.tup (fun z => ?_) h4 (AvAll.app (bl.keepE x4) (al.keepE x4)))⟩
    · rw [al.len, bl.len, sizeLine_eq]
      omega
    · rcases o with e | e | e
      · exact nd (by rw [← e]; exact z)
      · exact nu (by rw [← e]; exact z)
      · exact (hd.ex (x2.trans x3)) p z e)
theorem vl_rev (h : Vl K D0 σ H ta (.tuple ds)) (few : ds.length ≤ 100000) : Vl K D0 σ H (tRevs K ta) (.tuple ds.reverse) := fun H1 D x1 hD hd Q q =>
  revs_of (h H1 D x1 hD hd _ fun H2 x x2 a => by
    obtain ⟨t, xs, rfl, nd, ht, al⟩ := a.tup_at
    refine ⟨t, xs, rfl, st_of ht, by rw [al.len]; exact few, fun p hp => q _ _ (x2.trans (Ex.new hp)) (.tup (fun z => (hd.ex x2) p z hp) upd_same ?_)⟩
    rw [revs_is]
    exact (AvAll.rev al).keepE (Ex.new hp))
theorem vl_listN (h : Vl K D0 σ H ta (.tuple ds)) : Vl K D0 σ H (tCB (rListN K) (tCons ta tNil)) (.list ds) := fun H1 D x1 hD hd Q q =>
  Sn.cb_of (Sn.c_of (h H1 D x1 hD hd _ fun H2 x x2 a => Sn.n_of (by
    obtain ⟨t, xs, rfl, nd, ht, al⟩ := a.tup_at
    exact ⟨t, xs, rfl, st_of ht, fun p hp ns => q _ _ (x2.trans (Ex.new hp)) (.lst ns (fun z => (hd.ex x2) p z hp) upd_same (al.keepE (Ex.new hp)))⟩)))
/-- a plain value, whatever the heap -/
theorem vl_of {te : TE} {v : V} {e : PyData} (h : ∀ (H : Hp) (Q : VK), Q v H → te σ H Q) (a : ∀ (D : Addr → Prop) (H : Hp), Av K D H v e) : Vl K D0 σ H te e := fun H1 D x1 hD hd Q q => h H1 Q (q H1 v (Ex.refl H1) (a D H1))
end
/-! ### sizes -/
theorem int_len40 {n : Nat} {i : Int} (h : i.natAbs ≤ 10 ^ 30 + n) (hn : n ≤ 1000) : ((toString i : String) : Str).length ≤ 40 := by
  have := int_text_length_le10 (a := i) (k := 31) (by decide) (Nat.lt_of_le_of_lt h (Nat.lt_of_le_of_lt (Nat.add_le_add_left hn _) (by decide)))
  rw [PySem.ofString_length]
  omega
theorem bz_int {m k L : Nat} {i : Int} (h : i.natAbs ≤ 10 ^ 30 + m) (hm : m ≤ 1000) (hl : 40 ≤ L) : Bz m k L (.int i) :=
  ⟨by rw [bt]; exact decide_eq_true h, by rw [PyData.depth]; omega, Nat.le_trans (by
    have := int_len40 h hm
    exact this) hl⟩
theorem bz_bool {m k L : Nat} (b : Bool) (hl : 5 ≤ L) : Bz m k L (.bool b) := ⟨by rw [bt], by rw [PyData.depth]; omega, Nat.le_trans (by cases b <;> decide +kernel) hl⟩
theorem bz_str {m k L : Nat} {z : Str} (a : Asc (TL.tl z)) (h : z.length ≤ 100 + m) (hl : 10 * z.length + 2 ≤ L) (hk : 1 ≤ k) : Bz m k L (.str z) :=
  ⟨by rw [bt, Bool.and_eq_true]; exact ⟨List.all_eq_true.mpr fun c hc => decide_eq_true (a c hc), decide_eq_true h⟩, by rw [PyData.depth]; omega, Nat.le_trans (by
    rw [PyData.shown_str]
    exact StrLaws.reprText_len z fun c hc => Nat.lt_of_lt_of_le (a c hc) (by decide)) hl⟩
theorem str_of {m k L : Nat} {z : Str} (h : Bz m k L (.str z)) : Asc (TL.tl z) ∧ z.length ≤ 100 + m := by
  have f := h.f
  rw [bt, Bool.and_eq_true] at f
  exact ⟨fun c hc => of_decide_eq_true (List.all_eq_true.mp f.1 c hc), of_decide_eq_true f.2⟩
theorem int_of {m k L : Nat} {i : Int} (h : Bz m k L (.int i)) : i.natAbs ≤ 10 ^ 30 + m := by
  have f := h.f
  rw [bt] at f
  exact of_decide_eq_true f
theorem cutS_asc {z : Str} (a : Asc (TL.tl z)) (lo hi : Option Int) : Asc (TL.tl (cutS z lo hi)) ∧ (cutS z lo hi).length ≤ z.length := by
  have e : TL.tl (cutS z lo hi) = cutL (TL.tl z) lo hi := by
    unfold cutS cutL
    rw [TL.tl_mk, TL.len_tl]
  refine ⟨fun c hc => a c (cutL_mem (by rw [← e]; exact hc)), ?_⟩
  rw [TL.len_tl, e, TL.len_tl]
  exact cutL_len _ _ _
end Kn
/-! _law_bent -/
namespace Kn
open PySem PySem.Spec PyProof.Rows L2 Evl Gd Sn Qw
abbrev sBent : Stmt := topS 30
abbrev nBent : List Str := ["_law_jar_here", "_law_thing", "_law_deep", "_law_at", "_law_some", "_law_words"]
theorem scBent : FnScope nBent ["_law_jar_here", "_law_thing", "_law_deep"] (defScope sBent) := ⟨rfl, rfl, rfl, by decide +kernel, rfl, by decide +kernel, by decide +kernel⟩
theorem num_dig {n c : Nat} (h : c ∈ TL.numL n) : c < 128 := by
  unfold TL.numL at h
  obtain ⟨x, hx, rfl⟩ := List.mem_map.mp h
  have h2 := Char.isDigit_iff_toNat.mp (Nat.isDigit_of_mem_toDigits (b := 10) (by decide) (by decide) hx)
  have h3 : ('9' : Char).toNat = 57 := rfl
  exact Nat.lt_of_le_of_lt h2.2 (by decide)
theorem int_asc (i : Int) : Asc (TL.tl ((toString i : String) : Str)) := fun c hc => by
  by_cases hj : i < 0
  · have e : TL.tl ((toString i : String) : Str) = ((toString i : String)).toList.map Char.toNat := signs_ofString _
    rw [e, Int.toString_eq_repr, Int.repr_eq_if, if_neg (by omega), String.toList_append, List.map_append, Nat.toList_repr] at hc
    rcases List.mem_append.mp hc with hc | hc
    · have : (List.map Char.toNat ("-" : String).toList) = [45] := rfl
      rw [this] at hc
      rw [List.mem_singleton.mp hc]
      decide
    · have := num_dig (n := (-i).toNat) hc
      omega
  · have hj' : i = ((i.toNat : Nat) : Int) := by omega
    rw [hj', show TL.tl ((toString ((i.toNat : Nat) : Int) : String) : Str) = TL.numL i.toNat from TL.tl_num _] at hc
    have := num_dig hc
    omega
def spBent (K : PySem.W.Frag) : Nat → Sp
  | 0 => fun _ _ _ _ => False
  | M + 1 => fun vs H Q _ => ∃ (D : Addr → Prop) (d : Addr) (n : Int) (x : V) (e : PyData) (m k L : Nat), vs = [.ref d, x, .int (M : Int)] ∧ D d ∧ HeldV D H ∧ Pot H d n ∧ n + 10 * (M : Int) ≤ 800000 ∧ Av K D H x e ∧ Bz m k L e ∧ m ≤ 10 ∧
    ∀ H' y e', Off d H H' → Pot H' d (n + 20 + 3 * (M : Int)) → Av K D H' y e' → Bz (m + 1) (k + 13) (2 * L + 1200) e' → Q y H'
/-- a look that may draw -/
def Mays (d : Addr) (n : Int) (N : Nat) (σ : L2.St) (H : Hp) (t : TT) (A : Prop) : Prop := ∀ Q : Bool → Hp → Prop, (∀ H' (b : Bool) n', Off d H H' → Pot H' d n' → n ≤ n' → n' ≤ n + N → (b = true → A) → Q b H') → t σ H Q
section
variable {d : Addr} {n : Int} {N N' : Nat} {σ : L2.St} {H : Hp} {t u : TT} {A B : Prop} {D : Ends} {ts tz : TS}
theorem Mays.of (h : SaysT σ H t A) (p : Pot H d n) : Mays d n 0 σ H t A := fun Q q => h Q fun H' b x hb => q H' b n (Off.of x) (p.ex x) (Int.le_refl _) (by omega) hb.mp
theorem Mays.and (h : Mays d n N σ H t A) (g : ∀ H' n', Off d H H' → Pot H' d n' → n ≤ n' → n' ≤ n + N → A → Mays d n' N' σ H' u B) : Mays d n (N + N') σ H (tAnd t u) (A ∧ B) := fun Q q => Sn.and_of (h _ fun H1 b n1 o1 p1 l0 l1 hb => by
  cases b with
  | true =>
    rw [if_pos rfl]
    exact g H1 n1 o1 p1 l0 l1 (hb rfl) Q fun H2 c n2 o2 p2 k0 k1 hc => q H2 c n2 (o1.trans o2) p2 (by omega) (by push_cast; omega) fun z => ⟨hb rfl, hc z⟩
  | false =>
    rw [if_neg Bool.false_ne_true]
    exact q H1 false n1 o1 p1 l0 (by push_cast; omega) fun z => absurd z Bool.false_ne_true)
theorem Mays.ifS (h : Mays d n N σ H t A) (y : ∀ H' n', Off d H H' → Pot H' d n' → n ≤ n' → n' ≤ n + N → A → ts D σ H') (no : ∀ H' n', Off d H H' → Pot H' d n' → n ≤ n' → n' ≤ n + N → tz D σ H') : tIfS t ts tz D σ H := Sn.ifS_of (h _ fun H1 b n1 o1 p1 l0 l1 hb => by
  cases b with
  | true =>
    rw [if_pos rfl]
    exact y H1 n1 o1 p1 l0 l1 (hb rfl)
  | false =>
    rw [if_neg Bool.false_ne_true]
    exact no H1 n1 o1 p1 l0 l1)
theorem Mays.imp (h : Mays d n N σ H t A) (f : A → B) : Mays d n N σ H t B := fun Q q => h Q fun H' b n' o p l0 l1 hb => q H' b n' o p l0 l1 fun z => f (hb z)
/-- take(jar, k) > 0, == 0 -/
theorem may_gt {k : Int} {E : XK} (e : σ[0]? = some (some (.ref d))) (p : Pot H d n) (hn : n ≤ 1000000) (hk : 0 < k) (hk2 : k ≤ 1000) : Mays d n 1 σ H (tTest (tOp (rI0 fun i j => .bl (decide (j < i))) (tCall spTake [] E (tCons (tVar 0) (tCons (tC (.int k)) tNil))) (tC (.int 0)))) True := fun Q q =>
  Sn.test_of (Sn.op_of (Sn.rd_take (ev_var e) ev_c p hn hk (by omega) fun H1 r o1 p1 _ _ => Sn.k_of ⟨_, _, rfl, rfl, _, rfl, q H1 _ (n + 1) o1 p1 (by omega) (by push_cast; omega) fun _ => trivial⟩))
theorem may_eq {k : Int} {E : XK} (e : σ[0]? = some (some (.ref d))) (p : Pot H d n) (hn : n ≤ 1000000) (hk : 0 < k) (hk2 : k ≤ 1000) : Mays d n 1 σ H (tTest (tOp rEq (tCall spTake [] E (tCons (tVar 0) (tCons (tC (.int k)) tNil))) (tC (.int 0)))) True := fun Q q =>
  Sn.test_of (Sn.op_of (Sn.rd_take (ev_var e) ev_c p hn hk (by omega) fun H1 r o1 p1 _ _ => Sn.k_of ⟨rfl, _, rfl, q H1 _ (n + 1) o1 p1 (by omega) (by push_cast; omega) fun _ => trivial⟩))
end
section
variable {K : PySem.W.Frag}
theorem cat_at {D : Addr → Prop} {H : Hp} {x y : V} {ds es : List PyData} {Q : VK} (hd : HeldV D H) (a : Av K D H x (.tuple ds)) (b : Av K D H y (.tuple es)) (few : ds.length + es.length ≤ 100000) (q : ∀ H' z, Ex H H' → Av K D H' z (.tuple (ds ++ es)) → Q z H') : rCatW K x y H Q := by
  obtain ⟨t, xs, rfl, nd, ht, al⟩ := a.tup_at
  obtain ⟨u, ys, rfl, nu, hu, bl⟩ := b.tup_at
  refine ⟨t, u, xs, ys, rfl, rfl, ht, hu, ?_, fun p H4 x4 h4 o => q H4 _ x4 (.tup (fun z => ?_) h4 (AvAll.app (bl.keepE x4) (al.keepE x4)))⟩
  · rw [al.len, bl.len, sizeLine_eq]
    omega
  · rcases o with e | e | e
    · exact nd (by rw [← e]; exact z)
    · exact nu (by rw [← e]; exact z)
    · exact hd p z e
theorem Av.off {D : Addr → Prop} {d : Addr} {H H' : Hp} {x : V} {e : PyData} (dD : D d) (a : Av K D H x e) (o : Off d H H') : Av K D H' x e := a.keep (bydo dD o)
theorem AvAll.off {D : Addr → Prop} {d : Addr} {H H' : Hp} {x : List V} {e : List PyData} (dD : D d) (a : AvAll K D H x e) (o : Off d H H') : AvAll K D H' x e := a.keep (bydo dD o)
/-- of(jar, a new list of these) -/
theorem pick_of {D : Addr → Prop} {d : Addr} {n : Int} {σ : L2.St} {H : Hp} {ta : TA} {es : List PyData} {E : XK} {Q : VK} (e0 : σ[0]? = some (some (.ref d))) (p : Pot H d n) (hn : n ≤ 900000) (dD : D d) (hD : HeldV D H) (v : VlA K D σ H ta es) (n0 : 0 < es.length) (n1 : es.length ≤ 100)
    (q : ∀ H' x e, e ∈ es → Off d H H' → Pot H' d (n + 1) → Av K D H' x e → Q x H') : tCall spOf [] E (tCons (tVar 0) (tCons (tLst ta) tNil)) σ H Q :=
  Sn.call_of (Sn.c_of (Sn.v_of e0 (Sn.c_of (Sn.lst_of (v H _ (Ex.refl H) (fun a e => .inl e) hD _ fun H1 xs x1 av => ⟨by rw [av.len]; exact Nat.le_trans n1 (by show 100 ≤ sizeLine; decide), fun l hl => Sn.n_of (by
    have ln := av.len
    have x2 := x1.trans (Ex.new (o := .lst xs) hl)
    have p2 := p.ex x2
    refine ⟨d, l, n, xs, rfl, p2, by omega, (p.ex x1).ne hl, upd_same, by omega, by omega, fun H' x hx o pt => ?_⟩
    obtain ⟨e, he, ax⟩ := av_mem (Kn.AvAll.off dD (av.keepE (Ex.new hl)) o) hx
    exact q H' x e he ((Off.of x2).trans o) pt ax)⟩)))))
end
abbrev bendT (e : PyData) (ds : List PyData) : List PyData := [.list ds, .tuple (ds ++ cutL ds (some (-1)) none), .tuple ds.reverse, .tuple (cutL ds (some 1) none), .tuple (cutL ds none (some (-1))), .tuple [e], .tuple (cutL ds none (some 1) ++ ds)]
abbrev bendS (z : Str) : List PyData := [.str (z ++ ("x" : Str)), .str (Txt.upper z), .str (cutS z (some 1) none)]
abbrev words6 : List PyData := [.str "counted", .str "traced", .str "record", .str "map", .str "weak", .str "pin 1"]
abbrev bendI (i : Int) : List PyData := [.int (i + 1), .int (i - 1), .int (-i), .str ((toString i : String) : Str), .tuple [.int i], .bool (decide (V.int i = .int 1))]
theorem bendT_ok {m k L : Nat} {ds : List PyData} (h : Bz m k L (.tuple ds)) {e' : PyData} (he : e' ∈ bendT (.tuple ds) ds) : Bz (m + 1) (k + 13) (2 * L + 1200) e' := by
  obtain ⟨k', rfl, al, hs, hl⟩ := h.items
  have al1 := al.up (Nat.le_succ m) (Nat.le_refl k')
  have c1 := cutL_last ds
  have c2 := cutL_len ds none (some 1)
  have s1 := cutL_sum ds (some (-1)) none
  have s2 := cutL_sum ds none (some 1)
  have cut : ∀ lo hi, BzAll (m + 1) k' (cutL ds lo hi) := fun lo hi => al1.sub fun y hy => cutL_mem hy
  have cutT : ∀ lo hi, Bz (m + 1) (k' + 1) (L + 2) (.tuple (cutL ds lo hi)) := fun lo hi => (cut lo hi).tup (by have := cutL_len ds lo hi; omega) (by have := cutL_sum ds lo hi; omega)
  have one : (cutL ds none (some 1)).length ≤ 1 := by
    unfold cutL
    rw [List.length_take, List.length_drop, HT.sIx_none, show (some (1 : Int)) = some ((1 : Nat) : Int) from rfl, HT.sIx_nat]
    omega
  have hx := h.l
  simp only [bendT, List.mem_cons, List.not_mem_nil, or_false] at he
  rcases he with rfl | rfl | rfl | rfl | rfl | rfl | rfl
  · exact (al1.lst (by omega) (Nat.le_refl _)).up (Nat.le_refl _) (by omega) (by omega)
  · exact ((al1.app (cut _ _)).tup (by rw [List.length_append]; omega) (Nat.le_refl _)).up (Nat.le_refl _) (by omega) (by rw [shsum_app]; omega)
  · exact ((al1.sub (ys := ds.reverse) fun y hy => List.mem_reverse.mp hy).tup (by rw [List.length_reverse]; omega) (Nat.le_refl _)).up (Nat.le_refl _) (by omega) (by rw [shsum_rev]; omega)
  · exact (cutT _ _).up (Nat.le_refl _) (by omega) (by omega)
  · exact (cutT _ _).up (Nat.le_refl _) (by omega) (by omega)
  · exact ((BzAll.one (h.up (Nat.le_succ m) (Nat.le_refl _) (Nat.le_refl _))).tup (by show 1 ≤ _; omega) (Nat.le_refl _)).up (Nat.le_refl _) (by omega) (by show (PyData.tuple ds).shown.length + 2 + 0 + 2 ≤ _; omega)
  · exact (((cut _ _).app al1).tup (by rw [List.length_append]; omega) (Nat.le_refl _)).up (Nat.le_refl _) (by omega) (by rw [shsum_app]; omega)
theorem bendS_ok {m k L : Nat} {z : Str} (h : Bz m k L (.str z)) (hm : m ≤ 10) {e' : PyData} (he : e' ∈ bendS z ++ words6) : Bz (m + 1) (k + 13) (2 * L + 1200) e' := by
  obtain ⟨a, l⟩ := str_of h
  rcases List.mem_append.mp he with he | he
  · simp only [bendS, List.mem_cons, List.not_mem_nil, or_false] at he
    rcases he with rfl | rfl | rfl
    · have ln : (z ++ ("x" : Str)).length = z.length + 1 := by rw [Str.length_append]; rfl
      refine bz_str (fun c hc => ?_) (by omega) (by omega) (by omega)
      rw [TL.tl_append] at hc
      rcases List.mem_append.mp hc with hc | hc
      · exact a c hc
      · have : c ∈ [120] := hc
        rw [List.mem_singleton.mp this]
        decide
    · have up : Txt.upper z = SX.S ((TL.tl z).map PyProof.Rows.up1) := by
        have s := SX.upper_S (a := TL.tl z) (List.all_eq_true.mpr fun c hc => decide_eq_true (a c hc))
        rw [show SX.S (TL.tl z) = z from TL.ext_tl (by show (TL.tl z).toArray.toList = _; simp)] at s
        exact s
      have tl : TL.tl (Txt.upper z) = (TL.tl z).map PyProof.Rows.up1 := by
        rw [up]
      have ln : (Txt.upper z).length = z.length := by rw [TL.len_tl, tl, List.length_map, ← TL.len_tl]
      refine bz_str (fun c hc => ?_) (by omega) (by omega) (by omega)
      rw [tl] at hc
      obtain ⟨b, hb, rfl⟩ := List.mem_map.mp hc
      have : ∀ c : Fin 128, PyProof.Rows.up1 c.val < 128 := by decide +kernel
      exact this ⟨b, a b hb⟩
    · obtain ⟨a2, l2⟩ := cutS_asc a (some 1) none
      exact bz_str a2 (by omega) (by omega) (by omega)
  · have w6 : ∀ e ∈ words6, bt 0 e = true ∧ e.depth ≤ 1 ∧ e.shown.length ≤ 20 := by decide +kernel
    obtain ⟨g1, g2, g3⟩ := w6 e' he
    exact ⟨bt_mono (Nat.zero_le _) _ g1, by omega, by omega⟩
theorem bendI_ok {m k L : Nat} {i : Int} (h : Bz m k L (.int i)) (hm : m ≤ 10) {e' : PyData} (he : e' ∈ bendI i) : Bz (m + 1) (k + 13) (2 * L + 1200) e' := by
  have hi := int_of h
  have il := int_len40 hi (by omega)
  simp only [bendI, List.mem_cons, List.not_mem_nil, or_false] at he
  rcases he with rfl | rfl | rfl | rfl | rfl | rfl
  · exact bz_int (by omega) (by omega) (by omega)
  · exact bz_int (by omega) (by omega) (by omega)
  · exact bz_int (by omega) (by omega) (by omega)
  · exact bz_str (int_asc i) (by omega) (by omega) (by omega)
  · have hl := h.l
    exact ((BzAll.one h).tup (L := L + 4) (by show 1 ≤ _; omega) (by show (PyData.int i).shown.length + 2 + 0 + 2 ≤ _; omega)).up (by omega) (by omega) (by omega)
  · exact bz_bool _ (by omega)
end Kn
/-! _law_bent: the function -/
namespace Kn
open PySem PySem.Spec PyProof.Rows L2 Evl Gd Sn Qw
section
variable {P : Program} {w : World} {K : PySem.W.Frag} {mg : Str → Option Value} {base : Heap}
theorem neg1 {σ : L2.St} {H : Hp} {Q : VK} (q : Q (.int (-1)) H) : tUn (rU fun i => .int (-i)) (tC (.int 1)) σ H Q := unO_of (Sn.k_of ⟨1, rfl, q⟩)
theorem may_isT {d : Addr} {n : Int} {σ : L2.St} {H : Hp} {T : String} {B : PyData → Bool} {D : Addr → Prop} {i : Nat} {x : V} {e : PyData} (kt : ∀ e, kitB (tyName e) T = some (B e)) (h : σ[i]? = some (some x)) (a : Av K D H x e) (p : Pot H d n) : Mays d n 0 σ H (tB (tCB (rIsi K) (tCons (tVar i) (tCons (tC (.ty T)) tNil)))) (B e = true) := Mays.of (Says.val (says_isi kt (at_var h a))) p
theorem ok_bent {f fT fO fD : Addr} {fd fdT fdO fdD : FuncData} (F : Fun K "_law_bent" "_law_bent" sBent f fd) (FT : Fun K "_law_take" "_law_take" sTake fT fdT) (FO : Fun K "_law_of" "_law_of" sOf fO fdO) (FD : Fun K "_law_odd" "_law_odd" sOdd fD fdD)
    (bB : Binds K fd ["_law_jar_here", "_law_thing", "_law_deep"] []) (bT : Binds K fdT ["_law_jar_here", "_law_many"] []) (bO : Binds K fdO ["_law_jar_here", "_law_some"] []) (bD : Binds K fdD ["_law_jar_here"] []) (gB : mg "_law_bent" = some (.ref f)) (gT : mg "_law_take" = some (.ref fT)) (gO : mg "_law_of" = some (.ref fO)) (gD : mg "_law_odd" = some (.ref fD))
    (mL : mg "len" = none) (mR : mg "range" = none) (mI : mg "isinstance" = none) (mT : mg "tuple" = none) (mS : mg "str" = none) (mN : mg "int" = none) (mB : mg "bool" = none) (mLi : mg "list" = none) : ∀ M : Nat, FnOk P w K mg base CX0 (3 + M) f fd ["_law_jar_here", "_law_thing", "_law_deep"] (spBent K M)
  | 0 => F.ok scBent (fun vs H Q E h => h.elim) (fun cdv A outer s H vs Q E hr h => h.elim)
  | M + 1 => by
    have GB : FnOk P w K mg base CX0 (3 + M) f fd ["_law_jar_here", "_law_thing", "_law_deep"] (spBent K M) := ok_bent F FT FO FD bB bT bO bD gB gT gO gD mL mR mI mT mS mN mB mLi M
    have GT : FnOk P w K mg base CX0 (3 + M) fT fdT ["_law_jar_here", "_law_many"] spTake := (ok_take FT).mono (by omega)
    have GO : FnOk P w K mg base CX0 (3 + M) fO fdO ["_law_jar_here", "_law_some"] spOf := (ok_of FO FT bT gT mL).mono (by omega)
    have GD : FnOk P w K mg base CX0 (3 + M) fD fdD ["_law_jar_here"] (spOdd K) := (ok_odd FD FT FO bT bO gT gO mL mR).mono (by omega)
    refine F.ok scBent (fun vs H Q E h => ?_) (fun cdv A outer s H vs Q E hr h => ?_)
    · obtain ⟨D, d, n, x, e, m, k, L, rfl, _⟩ := h
      rfl
    · obtain ⟨D, d, n, x, e, m, k, L, rfl, dD, hD, pot, hn, av, bz, hm, q⟩ := h
      have hold : ∀ {H' n'}, Off d H H' → Pot H' d n' → HeldV D H' := fun o p => Held.off hD o p
      refine ⟨_, pss_cons (ps_if (pw_and (pt_cmpR op_gt (pv 2) pe_int (nomark _)) (pw_and (pt_val (pe_callB call_isi (by rfl) mI (by decide +kernel) (pa_cons (pv 1) (pa_cons (pe_bltn (v := .ty "tuple") (by rfl) mT (by decide +kernel) rfl) pa_nil)))) (pw_and (pt_cmpR (op_neT0 (Nat.lt_of_le_of_lt (Nat.le_add_right _ 64) hr.units)) (pv 1) (pe_tup pa_nil) (nomark _)) (pw_and1 (pt_cmpR op_gt (pe_call GT hr (by rfl) gT FT.kp bT .nil pass0 (pa_cons (pv 0) <| pa_cons pe_int pa_nil)) pe_int (nomark _)))))).pt
          (pss_cons (ps_set (i := 3) scBent.nd rfl (.inl rfl) (pe_call GT hr (by rfl) gT FT.kp bT .nil pass0 (pa_cons (pv 0) <| pa_cons (pe_callB call_len_seq (by rfl) mL PySem.boot_len (pa_cons (pv 1) pa_nil)) pa_nil))) <|
           pss_one (ps_ret (pe_op op_catW (pe_op op_catW (pe_slice sl_w (pv 1) po_none (po_some (pv 3))) (pe_tup (pa_cons (pe_call GB hr (by rfl) gB F.kp bB .nil pass0 (pa_cons (pv 0) <| pa_cons (pe_ix ix_tup (pv 1) (pv 3) (fun _ _ => rfl)) <| pa_cons (pe_op op_sub (pv 2) pe_int) pa_nil)) pa_nil))) (pe_slice sl_w (pv 1) (po_some (pe_op op_add (pv 3) pe_int)) po_none)))) pss_nil) <|
        pss_cons (ps_if (pw_and (pt_val (pe_callB call_isi (by rfl) mI (by decide +kernel) (pa_cons (pv 1) (pa_cons (pe_bltn (v := .ty "tuple") (by rfl) mT (by decide +kernel) rfl) pa_nil)))) (pw_and1 (pt_cmpR op_gt (pe_call GT hr (by rfl) gT FT.kp bT .nil pass0 (pa_cons (pv 0) <| pa_cons pe_int pa_nil)) pe_int (nomark _)))).pt
          (pss_cons (ps_set (i := 4) scBent.nd rfl (.inl rfl) (pe_lst (pa_cons (pe_callTy call_listN (by rfl) mLi (by decide +kernel) (pa_cons (pv 1) pa_nil)) <| pa_cons (pe_op op_catW (pv 1) (pe_slice sl_w (pv 1) (po_some (pe_un un_neg pe_int)) po_none)) <| pa_cons (pe_revT (pv 1)) <| pa_cons (pe_slice sl_w (pv 1) (po_some pe_int) po_none) <| pa_cons (pe_slice sl_w (pv 1) po_none (po_some (pe_un un_neg pe_int))) <| pa_cons (pe_tup (pa_cons (pv 1) pa_nil)) <| pa_cons (pe_op op_catW (pe_slice sl_w (pv 1) po_none (po_some pe_int)) (pv 1)) pa_nil))) <|
           pss_one (ps_ret (pe_call GO hr (by rfl) gO FO.kp bO .nil pass0 (pa_cons (pv 0) <| pa_cons (pv 4) pa_nil)))) pss_nil) <|
        pss_cons (ps_if (pw_and (pt_val (pe_callB call_isi (by rfl) mI (by decide +kernel) (pa_cons (pv 1) (pa_cons (pe_bltn (v := .ty "str") (by rfl) mS (by decide +kernel) rfl) pa_nil)))) (pw_and1 (pt_cmpR op_eq (pe_call GT hr (by rfl) gT FT.kp bT .nil pass0 (pa_cons (pv 0) <| pa_cons pe_int pa_nil)) pe_int (nomark _)))).pt
          (pss_cons (ps_set (i := 5) scBent.nd rfl (.inl rfl) (pe_lst (pa_cons pe_str <| pa_cons pe_str <| pa_cons pe_str <| pa_cons pe_str <| pa_cons pe_str <| pa_cons pe_str pa_nil))) <|
           pss_one (ps_ret (pe_call GO hr (by rfl) gO FO.kp bO .nil pass0 (pa_cons (pv 0) <| pa_cons (pe_op op_cat (pe_lst (pa_cons (pe_op op_add_str (pv 1) pe_str) <| pa_cons (pe_upper (pv 1)) <| pa_cons (pe_slice sl_str (pv 1) (po_some pe_int) po_none) pa_nil)) (pv 5)) pa_nil)))) pss_nil) <|
        pss_cons (ps_if (pw_and (pt_val (pe_callB call_isi (by rfl) mI (by decide +kernel) (pa_cons (pv 1) (pa_cons (pe_bltn (v := .ty "int") (by rfl) mN (by decide +kernel) rfl) pa_nil)))) (pw_and (pt_not (pt_val (pe_callB call_isi (by rfl) mI (by decide +kernel) (pa_cons (pv 1) (pa_cons (pe_bltn (v := .ty "bool") (by rfl) mB (by decide +kernel) rfl) pa_nil))))) (pw_and1 (pt_cmpR op_eq (pe_call GT hr (by rfl) gT FT.kp bT .nil pass0 (pa_cons (pv 0) <| pa_cons pe_int pa_nil)) pe_int (nomark _))))).pt
          (pss_one (ps_ret (pe_call GO hr (by rfl) gO FO.kp bO .nil pass0 (pa_cons (pv 0) <| pa_cons (pe_lst (pa_cons (pe_op op_add (pv 1) pe_int) <| pa_cons (pe_op op_sub (pv 1) pe_int) <| pa_cons (pe_un un_neg (pv 1)) <| pa_cons (pe_callTy call_str_int (by rfl) mS (by decide +kernel) (pa_cons (pv 1) pa_nil)) <| pa_cons (pe_tup (pa_cons (pv 1) pa_nil)) <| pa_cons (pe_cmpR op_eq (pv 1) pe_int (nomark _)) pa_nil)) pa_nil)))) pss_nil) <|
        pss_one (ps_ret (pe_call GD hr (by rfl) gD FD.kp bD .nil pass0 (pa_cons (pv 0) pa_nil))), ?_⟩
      have fin : ∀ H' y e' n', Off d H H' → Pot H' d n' → n' ≤ n + 20 + 3 * (M : Int) → Av K D H' y e' → Bz (m + 1) (k + 13) (2 * L + 1200) e' → Q y H' := fun H' y e' n' o p le a b => q H' y e' o (p.up le) a b
      refine Sn.seq_of (Mays.ifS (d := d) (n := n) (N := 0 + (0 + (0 + 1))) (A := ∃ ds, e = .tuple ds ∧ ds ≠ [] ∧ 0 < M) (Mays.imp (Mays.and (A := 0 < M) (Mays.of (Says.test fun Q2 q2 => ?_) pot) fun H1 n1 o1 p1 l0 l1 _ => Mays.and (may_isT kit_tup rfl (Kn.Av.off dD av o1) p1) fun H2 n2 o2 p2 k0 k1 it => Mays.and (A := ∀ ds, e = .tuple ds → ds ≠ []) (Mays.of (Says.test ?_) p2) fun H3 n3 o3 p3 j0 j1 _ => may_gt rfl p3 (by omega) (by decide) (by decide)) ?_) (fun H1 n1 o1 p1 l0 l1 a => ?_) fun H1 n1 o1 p1 l0 l1 => ?_)
      · exact Sn.op_of (Sn.v_of rfl (Sn.k_of ⟨_, _, rfl, rfl, q2 H _ (Ex.refl H) (b_iff.trans (by omega))⟩))
      · obtain ⟨ds, rfl⟩ := tup_iff.mp it
        obtain ⟨t, xs, rfl, _, ht, al⟩ := (Kn.Av.off dD (Kn.Av.off dD av o1) o2).tup_at
        have ll := al.len
        refine fun Q2 q2 => Sn.op_of (Sn.v_of rfl (Sn.tup_of (Sn.n_of ⟨Nat.zero_le _, fun p hp => ⟨t, p, xs, rfl, rfl, st_of ((Ex.new hp) _ _ ht), st_of upd_same, q2 _ _ (Ex.new hp) (nb_iff.trans ⟨fun z ds' e => ?_, fun z y => ?_⟩)⟩⟩)))
        · cases e
          intro e
          rw [e] at ll
          exact z (List.eq_nil_of_length_eq_zero ll)
        · rw [y] at ll
          exact z ds rfl (List.eq_nil_of_length_eq_zero ll.symm)
      · rintro ⟨h1, h2, h3, _⟩
        obtain ⟨ds, rfl⟩ := tup_iff.mp h2
        exact ⟨ds, rfl, h3 ds rfl, h1⟩
      · obtain ⟨ds, rfl, ne, M0⟩ := a
        obtain ⟨M', rfl⟩ : ∃ M', M = M' + 1 := ⟨M - 1, by omega⟩
        obtain ⟨k', rfl, bal, bs, bl⟩ := bz.items
        have av1 := Kn.Av.off dD av o1
        obtain ⟨t, xs, rfl, nd, ht, al⟩ := id av1.tup_at
        have ll := al.len
        have l0' : 0 < ds.length := Nat.pos_of_ne_zero fun z => ne (List.eq_nil_of_length_eq_zero z)
        refine Sn.seq_of (Sn.asg_of (Sn.call_of (Sn.c_of (Sn.v_of rfl (Sn.c_of (Sn.cb_of (Sn.c_of (Sn.v_of rfl (Sn.n_of ⟨t, xs, rfl, .inr (st_of ht), Sn.n_of ⟨d, n1, _, rfl, p1, by omega, by omega, by omega, fun H2 r o2 p2 r0 r1 => ?_⟩⟩)))))))))
        obtain ⟨at0, rfl⟩ : ∃ j : Nat, r = (j : Int) := ⟨r.toNat, by omega⟩
        have al0 : at0 < ds.length := by omega
        have av2 := Kn.Av.off dD av1 o2
        obtain ⟨t', xs', et, nd, ht, al⟩ := id av2.tup_at
        cases et
        have hd2 := hold (o1.trans o2) p2
        obtain ⟨v, hv, avv⟩ := al.get' (List.getElem?_eq_getElem al0)
        dsimp only
        refine Sn.ret_of (Sn.op_of (Sn.op_of (slT_of (Sn.v_of rfl (Sn.v_of rfl ⟨_, rfl, cut_at (hi := some (at0 : Int)) nd hd2 ht al fun Ha xa ea va => ?_⟩)))))
        refine Sn.tup_of (Sn.c_of (Sn.call_of (Sn.c_of (Sn.v_of rfl (Sn.c_of (Sn.op_of (Sn.v_of rfl (Sn.v_of rfl ⟨t, xs', (at0 : Int), v, rfl, rfl, st_of (ea _ _ ht), atI_nat hv, Sn.c_of (Sn.op_of (Sn.v_of rfl (Sn.k_of ⟨_, _, rfl, rfl, Sn.n_of ?_⟩)))⟩))))))))
        have mem : ds[at0] ∈ ds := List.getElem_mem al0
        have bx : Bz m k' (ds[at0].shown.length) ds[at0] := ⟨bal.f _ mem, bal.d _ mem, Nat.le_refl _⟩
        have sx := shsum_mem mem
        refine ⟨D, d, n1 + 1, v, ds[at0], m, k', ds[at0].shown.length, ?_, dD, hd2.ex ea, p2.ex ea, by push_cast at hn; omega, avv.keepE ea, bx, hm, fun Hb y e' ob pb ay by' => ?_⟩
        · show [V.ref d, v, V.int (((M' + 1 : Nat) : Int) - 1)] = [V.ref d, v, V.int (M' : Int)]
          rw [show (((M' + 1 : Nat) : Int) - 1) = (M' : Int) by push_cast; omega]
        refine Sn.n_of ⟨by show 1 ≤ sizeLine; decide, fun p hp => ?_⟩
        have ep := Ex.new (H := Hb) (o := .tup [y]) hp
        have hdb := hold (((o1.trans o2).trans (Off.of ea)).trans ob) pb
        have avp : Av K D (upd Hb p (.tup [y])) (.ref p) (.tuple [e']) := .tup (fun z => hdb p z hp) upd_same (.cons (ay.keepE ep) .nil)
        have vap := (Kn.Av.off dD va ob).keepE ep
        have cl1 := cutL_len ds none (some (at0 : Int))
        refine cat_at (hdb.ex ep) vap avp (by have : [e'].length = 1 := rfl; omega) fun Hc z ec az => ?_
        have o2c : Off d H2 Hc := (Off.of ea).trans (ob.trans (Off.of (ep.trans ec)))
        have pc := pb.ex (ep.trans ec)
        have av3 := Kn.Av.off dD av2 o2c
        obtain ⟨t2, xs2, et, nd2, ht2, al2⟩ := id av3.tup_at
        cases et
        have hdc := hold ((o1.trans o2).trans o2c) pc
        refine slS_of (Sn.v_of rfl (Sn.op_of (Sn.v_of rfl (Sn.k_of ⟨_, _, rfl, rfl, _, rfl, cut_at (lo := some ((at0 : Int) + 1)) nd2 hdc ht2 al2 fun Hd zd ed vd => ?_⟩))))
        have cl2 := cutL_len ds (some ((at0 : Int) + 1)) none
        have e1 := cutL_to ds (k := at0) (by omega)
        have e2 := cutL_from ds (k := at0 + 1) (by omega)
        rw [show ((at0 + 1 : Nat) : Int) = (at0 : Int) + 1 by push_cast; rfl] at e2
        refine cat_at (hdc.ex ed) (az.keepE ed) vd (by rw [List.length_append]; have : [e'].length = 1 := rfl; omega) fun He ze ee aze => ?_
        refine fin He ze _ _ (((o1.trans o2).trans o2c).trans (Off.of (ed.trans ee))) (pc.ex (ed.trans ee)) (by push_cast; omega) aze ?_
        rw [e1, e2]
        have split : ds = ds.take at0 ++ ds[at0] :: ds.drop (at0 + 1) := by
          conv => lhs; rw [← List.take_append_drop at0 ds, List.drop_eq_getElem_cons al0]
        have ssum : shsum ds = shsum (ds.take at0) + (ds[at0].shown.length + 2 + shsum (ds.drop (at0 + 1))) := by
          conv => lhs; rw [split]
          rw [shsum_app, shsum]
        have al1 := bal.up (Nat.le_succ m) (show k' ≤ k' + 13 by omega)
        refine (((al1.sub (ys := ds.take at0) fun y hy => List.mem_of_mem_take hy).app (BzAll.one by')).app (al1.sub (ys := ds.drop (at0 + 1)) fun y hy => List.mem_of_mem_drop hy)).tup (L := 2 * L + 1200) ?_ ?_ |>.up (Nat.le_refl _) (by omega) (Nat.le_refl _)
        · rw [List.length_append, List.length_append, List.length_take, List.length_drop]
          have : [e'].length = 1 := rfl
          omega
        · have hl' := by'.l
          rw [shsum_app, shsum_app, shsum, shsum]
          omega
      · dsimp only [tNext]
        have av1 := Kn.Av.off dD av o1
        refine Sn.seq_of (Mays.ifS (Mays.and (may_isT kit_tup rfl av1 p1) fun H2 n2 o2 p2 k0 k1 it => may_gt rfl p2 (by omega) (by decide) (by decide)) (fun H2 n2 o2 p2 k0 k1 a => ?_) fun H2 n2 o2 p2 k0 k1 => ?_)
        · obtain ⟨ds, rfl⟩ := tup_iff.mp a.1
          have av2 := Kn.Av.off dD av1 o2
          obtain ⟨k', rfl, bal, bs, bl⟩ := id bz.items
          have vx : ∀ {i : Nat} {σ : L2.St}, σ[i]? = some (some x) → Vl K D σ H2 (tVar i) (.tuple ds) := fun h => vl_var h av2
          have cL := cutL_len ds (some (-1)) none
          have cF := cutL_len ds none (some 1)
          have vs : VlA K D [some (.ref d), some x, some (.int (M : Int)), none, none, none] H2 _ (bendT (.tuple ds) ds) := vl_cons (vl_listN (vx (i := 1) rfl)) <| vl_cons (vl_cat (vx (i := 1) rfl) (vl_from (vx (i := 1) rfl) fun _ _ => neg1) (by omega)) <| vl_cons (vl_rev (vx (i := 1) rfl) (by omega)) <| vl_cons (vl_from (vx (i := 1) rfl) fun _ _ q => Sn.k_of q) <| vl_cons (vl_to (vx (i := 1) rfl) fun _ _ => neg1) <| vl_cons (vl_tup (vl_cons (vx (i := 1) rfl) vl_nil) (by show 1 ≤ 100; decide)) <| vl_cons (vl_cat (vl_to (vx (i := 1) rfl) fun _ _ q => Sn.k_of q) (vx (i := 1) rfl) (by omega)) vl_nil
          refine Sn.seq_of (Sn.asg_of (Sn.lst_of (vs H2 _ (Ex.refl H2) (fun a e => .inl e) (hold (o1.trans o2) p2) _ fun H3 ys x3 avs => ⟨by rw [avs.len]; show 7 ≤ sizeLine; decide, fun l hl => ?_⟩)))
          have ln := avs.len
          have l7 : (bendT (.tuple ds) ds).length = 7 := rfl
          have x23 := x3.trans (Ex.new (o := .lst ys) hl)
          have p3 := p2.ex x23
          dsimp only
          refine Sn.ret_of (Sn.call_of (Sn.c_of (Sn.v_of rfl (Sn.c_of (Sn.v_of rfl (Sn.n_of ⟨d, l, n2, ys, rfl, p3, by omega, (p2.ex x3).ne hl, upd_same, by omega, by omega, fun H4 y hy o4 p4 => ?_⟩))))))
          obtain ⟨e', he', ay⟩ := av_mem (Kn.AvAll.off dD (avs.keepE (Ex.new hl)) o4) hy
          exact fin H4 y e' _ (((o1.trans o2).trans (Off.of x23)).trans o4) p4 (by push_cast at *; omega) ay (bendT_ok bz he')
        · dsimp only [tNext]
          have av2 := Kn.Av.off dD av1 o2
          refine Sn.seq_of (Mays.ifS (Mays.and (may_isT kit_str rfl av2 p2) fun H3 n3 o3 p3 j0 j1 it => may_eq rfl p3 (by omega) (by decide) (by decide)) (fun H3 n3 o3 p3 j0 j1 a => ?_) fun H3 n3 o3 p3 j0 j1 => ?_)
          · obtain ⟨z, rfl⟩ := str_iff.mp a.1
            obtain rfl := av.str_at
            obtain ⟨za, zl⟩ := str_of bz
            refine Sn.seq_of (Sn.asg_of (Sn.lst_of (Sn.c_of (Sn.k_of (Sn.c_of (Sn.k_of (Sn.c_of (Sn.k_of (Sn.c_of (Sn.k_of (Sn.c_of (Sn.k_of (Sn.c_of (Sn.k_of (Sn.n_of ⟨by show 6 ≤ sizeLine; decide, fun l1 hl1 => ?_⟩)))))))))))))))
            dsimp only
            refine Sn.ret_of (Sn.call_of (Sn.c_of (Sn.v_of rfl (Sn.c_of (Sn.op_of (Sn.lst_of (Sn.c_of (Sn.op_of (Sn.v_of rfl (Sn.k_of ⟨_, _, rfl, rfl, by rw [sizeLine_eq]; show z.length + 1 ≤ _; omega, Sn.c_of (m0_of (Sn.v_of rfl ⟨⟨_, rfl⟩, _, rfl, rfl, by omega, Sn.c_of (slS_of (Sn.v_of rfl (Sn.k_of ⟨1, rfl, _, rfl, by rw [sizeLine_eq]; omega, Sn.n_of ⟨by show 3 ≤ sizeLine; decide, fun l2 hl2 => Sn.v_of rfl ⟨l2, l1, _, _, rfl, rfl, upd_same, (Ex.new hl2) _ _ upd_same, by show 3 + 6 ≤ sizeLine; decide, fun l3 hl3 => Sn.n_of ?_⟩⟩⟩)))⟩))⟩))))))))))
            have x4 := ((Ex.new (H := H3) (o := .lst [V.str "counted", V.str "traced", V.str "record", V.str "map", V.str "weak", V.str "pin 1"]) hl1).trans (Ex.new hl2 (o := .lst [V.str (z ++ ("x" : Str)), V.str (Txt.upper z), V.str (cutS z (some 1) none)]))).trans (Ex.new hl3 (o := .lst ([V.str (z ++ ("x" : Str)), V.str (Txt.upper z), V.str (cutS z (some 1) none)] ++ [V.str "counted", V.str "traced", V.str "record", V.str "map", V.str "weak", V.str "pin 1"])))
            refine ⟨d, l3, n3, _, rfl, p3.ex x4, by omega, ((p3.ex (Ex.new hl1)).ex (Ex.new hl2)).ne hl3, upd_same, by show 0 < 9; decide, by show 9 ≤ 1000; decide, fun H4 y hy o4 p4 => ?_⟩
            have it : ∃ e', e' ∈ bendS z ++ words6 ∧ ∀ D H, Av K D H y e' := by
              simp only [List.cons_append, List.nil_append, List.mem_cons, List.not_mem_nil, or_false] at hy
              rcases hy with rfl | rfl | rfl | rfl | rfl | rfl | rfl | rfl | rfl <;> exact ⟨.str _, by simp [bendS, words6], fun D H => .str _⟩
            obtain ⟨e', he', ay⟩ := it
            exact fin H4 y e' _ ((((o1.trans o2).trans o3).trans (Off.of x4)).trans o4) p4 (by push_cast at *; omega) (ay _ _) (bendS_ok bz hm he')
          · dsimp only [tNext]
            have av3 := Kn.Av.off dD av2 o3
            refine Sn.seq_of (Mays.ifS (Mays.and (may_isT kit_int rfl av3 p3) fun H4 n4 o4 p4 i0 i1 it => Mays.and (Mays.of (SaysT.not (Says.val (says_isi kit_bool (at_var rfl (Kn.Av.off dD av3 o4))))) p4) fun H5 n5 o5 p5 g0 g1 _ => may_eq rfl p5 (by omega) (by decide) (by decide)) (fun H4 n4 o4 p4 i0 i1 a => ?_) fun H4 n4 o4 p4 i0 i1 => ?_)
            · obtain ⟨i, rfl⟩ := int_iff.mp ⟨a.1, a.2.1⟩
              obtain rfl := av.int_at
              have hi := int_of bz
              have vi : ∀ {j : Nat} {σ : L2.St}, σ[j]? = some (some (V.int i)) → Vl K D σ H4 (tVar j) (.int i) := fun h => vl_var h (.int i)
              have vs : VlA K D [some (.ref d), some (.int i), some (.int (M : Int)), none, none, none] H4 _ (bendI i) := vl_cons (vl_of (te := tOp (rI0 fun i j => .int (i + j)) (tVar 1) (tC (.int 1))) (fun _ _ q => Sn.op_of (Sn.v_of (i := 1) rfl (Sn.k_of (v := .int 1) ⟨i, 1, rfl, rfl, q⟩))) fun _ _ => .int _) <| vl_cons (vl_of (te := tOp (rI0 fun i j => .int (i - j)) (tVar 1) (tC (.int 1))) (fun _ _ q => Sn.op_of (Sn.v_of (i := 1) rfl (Sn.k_of (v := .int 1) ⟨i, 1, rfl, rfl, q⟩))) fun _ _ => .int _) <| vl_cons (vl_of (te := tUn (rU fun i => .int (-i)) (tVar 1)) (fun _ _ q => unO_of (Sn.v_of (i := 1) rfl ⟨i, rfl, q⟩)) fun _ _ => .int _) <| vl_cons (vl_of (te := tCB rStrIK (tCons (tVar 1) tNil)) (fun _ _ q => Sn.cb_of (Sn.c_of (Sn.v_of (i := 1) rfl (Sn.n_of ⟨i, rfl, Nat.lt_of_lt_of_le (log_sm (Nat.le_trans hi (by omega))) (by decide), q⟩)))) fun _ _ => .str _) <| vl_cons (vl_tup (vl_cons (vi (j := 1) rfl) vl_nil) (by show 1 ≤ 100; decide)) <| vl_cons (vl_of (te := tOp rEq (tVar 1) (tC (.int 1))) (fun _ _ q => Sn.op_of (Sn.v_of (i := 1) rfl (Sn.k_of (v := .int 1) ⟨rfl, q⟩))) fun _ _ => .bl _) vl_nil
              exact Sn.ret_of (pick_of rfl p4 (by omega) dD (hold (((o1.trans o2).trans o3).trans o4) p4) vs (by show 0 < 6; decide) (by show 6 ≤ 100; decide) fun H5 y e' he' o5 p5 ay => fin H5 y e' _ ((((o1.trans o2).trans o3).trans o4).trans o5) p5 (by push_cast at *; omega) ay (bendI_ok bz hm he'))
            · dsimp only [tNext]
              refine Sn.ret_of (Sn.call_of (Sn.c_of (Sn.v_of rfl (Sn.n_of ⟨D, d, n4, rfl, dD, hold (((o1.trans o2).trans o3).trans o4) p4, p4, by omega, fun H5 y e' o5 p5 ay od => ?_⟩))))
              exact fin H5 y e' _ ((((o1.trans o2).trans o3).trans o4).trans o5) p5 (by push_cast at *; omega) ay (Bz.up od (Nat.zero_le _) (by omega) (by omega))
end
end Kn
namespace Sn
open PySem PySem.Spec PyProof.Rows L2 Evl Gd
/-- all but lists stays -/
def KeepN (H H' : Hp) : Prop := ∀ a o, (∀ xs, o ≠ .lst xs) → H a = some o → H' a = some o
theorem KeepN.t {K : PySem.W.Frag} {H H' : Hp} (k : KeepN H H') : KeepK K H H' := by
  exact fun a xs h => k _ _ (fun _ z => nomatch z) h
theorem KeepN.lst {H H' : Hp} {p : Addr} {zs : List V} (hp : H p = some (.lst zs)) (e : ∀ a o, a ≠ p → H a = some o → H' a = some o) : KeepN H H' := fun a o no h => e a o (fun q => by
  rw [q, hp] at h
  exact no _ (Option.some.inj h).symm) h
theorem KeepN.of {H H' : Hp} (e : ∀ a o, H a = some o → H' a = some o) : KeepN H H' := fun a o _ h => e a o h
theorem KeepN.off {H H' : Hp} {d : Addr} {n : Int} (p : Pot H d n) (o : Off d H H') : KeepN H H' := by
  obtain ⟨g, b, m, h0, _⟩ := p
  exact .lst h0 o
theorem KeepN.trans {H H' H2 : Hp} (a : KeepN H H') (b : KeepN H' H2) : KeepN H H2 := fun x o n h => b x o n (a x o n h)
/-- a comprehension whose turns draw from the jar: R says what is made -/
theorem lcj {K : PySem.W.Frag} {J : It} {N : Nat} {G : Hp → Prop} {Y : Nat → Hp → V → Hp → Prop} (wk : Walk J N G Y) (at' : Nat → Option V) {t : TT} {te : TE} {vs : List Nat} {σ : L2.St} {H1 : Hp} {D d : Addr} {n c : Int} {j : Nat} {Qd : Hp → Prop} (R : Nat → List V → Hp → Prop)
    (hG : ∀ H, Off d H1 H → G H) (hY : ∀ i H x H', Y i H x H' → H' = H ∧ at' i = some x) (hD : H1 D = none) (pot : Pot H1 d n) (c0 : 0 ≤ c) (hN : N ≤ 1000)
    (R0 : ∀ H, R 0 [] H) (Rl : ∀ i ys H, R i ys H → ys.length ≤ i) (Rk : ∀ i ys H H', KeepN H H' → R i ys H → R i ys H') (hw : ∀ x, wipe ((wipe σ vs).set j (some x)) vs = wipe σ vs)
    (turn : ∀ i x ys H, i < N → at' i = some x → Off d H1 H → Pot H d (n + c * (i : Int)) → R i ys H → ∀ (k1 : V → Hp → Prop) (k0 : Hp → Prop), (∀ y H4, Off d H H4 → Pot H4 d (n + c * ((i + 1 : Nat) : Int)) → R (i + 1) (ys ++ [y]) H4 → k1 y H4) → (∀ H3, Off d H H3 → Pot H3 d (n + c * ((i + 1 : Nat) : Int)) → R (i + 1) ys H3 → k0 H3) →
      t ((wipe σ vs).set j (some x)) H fun b H3 => if b = true then te ((wipe σ vs).set j (some x)) H3 k1 else k0 H3)
    (hd : ∀ H' ys, Off d H1 H' → Pot H' d (n + c * (N : Int)) → H' D = some (.lst ys) → R N ys H' → Qd H') :
    ∃ W : Nat → Nat → Hp → Prop, (∃ m, W 0 m (L2.upd H1 D (.lst []))) ∧ ∀ i m H, W i m H →
      (J.stop i H ∧ Qd H) ∨ (J.go i H ∧ ∃ Nx : Hp → Prop, (∀ H', Nx H' → ∃ m', m' < m ∧ W (i + 1) m' H') ∧ ∀ x H', J.yld i H x H' → gName j x (wipe σ vs) H' fun σ2 H2 => wipe σ2 vs = wipe σ vs ∧ t σ2 H2 fun b H3 =>
        if b = true then te σ2 H3 fun y H4 => ∃ acc, H4 D = some (.lst acc) ∧ acc.length < sizeLine ∧ Nx (L2.upd H4 D (.lst (acc ++ [y]))) else Nx H3) := by
  have nD : D ≠ d := pot.ne hD
  refine lc_it wk (fun i H' => Off d H1 H' ∧ Pot H' d (n + c * (i : Int)) ∧ ∃ ys, H' D = some (.lst ys) ∧ R i ys H') ⟨(Off.refl d H1).fresh hD, (pot.updD nD).up (by simp), [], upd_same, R0 _⟩ (fun i H _ p => hG H p.1) ?_ ?_
  · rintro i x H H' hi ⟨o, p, ys, hD', r⟩ y
    obtain ⟨rfl, hx⟩ := hY i H x H' y
    refine ⟨hw x, turn i x ys H' hi hx o p r _ _ (fun y H4 o4 p4 r4 => ?_) fun H3 o3 p3 r3 => ?_⟩
    · have hD4 := o4 D _ nD hD'
      have len := Rl i ys H' r
      refine ⟨ys, hD4, sz_lt (by omega), (o.trans o4).fresh hD, p4.updD nD, _, upd_same, Rk _ _ _ _ (.lst hD4 fun a o n h => by
        rw [upd_ne n]
        exact h) r4⟩
    · exact ⟨o.trans o3, p3, ys, o3 D _ nD hD', r3⟩
  · rintro H' ⟨o, p, ys, hD', r⟩
    exact hd H' ys o p hD' r
def partInts : Part → List Int
  | .tgt n => [n]
  | .pair k none => [k]
  | .pair k (some v) => [k, v]
def Small (ps : List Part) : Prop := ∀ p ∈ ps, ∀ i ∈ partInts p, 0 ≤ i ∧ i ≤ 200
def InFs (fs : List Int) (ps : List Part) : Prop := ∀ k v, Part.pair k (some v) ∈ ps → v ∈ fs
def SmallIn (fs : List Int) (ps : List Part) : Prop := ∀ p ∈ ps, (∀ i ∈ partInts p, 0 ≤ i ∧ i ≤ 200) ∧ ∀ k v, p = .pair k (some v) → v ∈ fs
def keyOf : Part → Option Int
  | .pair k _ => some k
  | .tgt _ => none
def OkParts (shape : Str) (ps : List Part) : Prop := ps.length ≤ 10 ∧ Small ps ∧ ((shape = "record" ∧ ∀ p ∈ ps, ∃ k v, p = .pair k (some v)) ∨ (shape = "map" ∧ ∀ p ∈ ps, ∃ k v, p = .pair k v) ∨ (shape = "weak" ∧ ∀ p ∈ ps, ∃ n, p = .tgt n)) ∧ (ps.filterMap keyOf).Pairwise (· < ·)
abbrev sParts : Stmt := topS 26
abbrev nParts : List Str := ["_law_jar_here", "_law_shape", "_law_figures_here", "_law_often", "_law_keys", "_law_slots", "_law_one", "_law_key", "_law_slot"]
theorem scParts : FnScope nParts ["_law_jar_here", "_law_shape", "_law_figures_here", "_law_often"] (defScope sParts) := ⟨rfl, rfl, rfl, by decide +kernel, rfl, by decide +kernel, by decide +kernel⟩
def spParts (K : PySem.W.Frag) : Sp := fun vs H Q _ => ∃ (d l : Addr) (n often : Int) (shape : Str) (fs : List Int), vs = [.ref d, .str shape, .ref l, .int often] ∧ Pot H d n ∧ n ≤ 800000 ∧ l ≠ d ∧ H l = some (.lst (fs.map V.int)) ∧ 0 < fs.length ∧ fs.length ≤ 10 ∧ (∀ i ∈ fs, 0 ≤ i ∧ i ≤ 200) ∧ fs.Pairwise (· < ·) ∧ 0 < often ∧ often ≤ 100 ∧ (shape = "record" ∨ shape = "map" ∨ shape = "weak") ∧
  ∀ (H' : Hp) (x : V) (ps : List Part), Off d H H' → Pot H' d (n + 40) → Tk K H' x (.tuple (ps.map dPart)) → OkParts shape ps → InFs fs ps → Q x H'
section
variable {K : PySem.W.Frag} {σ : L2.St} {H : Hp} {d : Addr} {n : Int}
/-- take(jar, often) == 0 -/
theorem et_take0 {E : XK} {td tm : TE} {many : Int} {k : Bool → Hp → Prop} (hd : Ev td σ H (.ref d)) (hm : Ev tm σ H (.int many)) (pot : Pot H d n) (hn : n ≤ 1000000) (m0 : 0 < many) (m1 : many ≤ 1000000) (h : ∀ b H', Off d H H' → Pot H' d (n + 1) → k b H') : tTest (tOp rEq (tCall spTake [] E (tCons td (tCons tm tNil))) (tC (.int 0))) σ H k :=
  test_of (op_of (rd_take hd hm pot hn m0 (by omega) fun H1 r o p _ _ => ⟨rfl, _, rfl, h _ H1 o p⟩))
end
theorem sub_snoc {α : Type} {l m : List α} {x : α} (h : l.Sublist m) : (l ++ [x]).Sublist (m ++ [x]) := List.Sublist.append h (List.Sublist.refl _)
theorem sub_more {α : Type} {l m : List α} {x : α} (h : l.Sublist m) : l.Sublist (m ++ [x]) := h.trans (List.sublist_append_left _ _)
section
variable {P : Program} {w : World} {K : PySem.W.Frag} {mg : Str → Option Value} {base : Heap}
theorem ok_parts {f fT fO : Addr} {fd fdT fdO : FuncData} (F : Fun K "_law_parts" "_law_parts" sParts f fd) (FT : Fun K "_law_take" "_law_take" sTake fT fdT) (FO : Fun K "_law_of" "_law_of" sOf fO fdO) (bT : Binds K fdT ["_law_jar_here", "_law_many"] []) (bO : Binds K fdO ["_law_jar_here", "_law_some"] [])
    (gT : mg "_law_take" = some (.ref fT)) (gO : mg "_law_of" = some (.ref fO)) (mL : mg "len" = none) (mR : mg "range" = none) (mT : mg "tuple" = none) : FnOk P w K mg base CX0 3 f fd ["_law_jar_here", "_law_shape", "_law_figures_here", "_law_often"] (spParts K) := by
  have GT : FnOk P w K mg base CX0 2 fT fdT ["_law_jar_here", "_law_many"] spTake := (ok_take FT).mono (by decide)
  have GO : FnOk P w K mg base CX0 2 fO fdO ["_law_jar_here", "_law_some"] spOf := ok_of FO FT bT gT mL
  refine F.ok scParts (fun vs H Q E h => ?_) (fun cdv A outer s H vs Q E hr h => ?_)
  · obtain ⟨d, l, n, often, shape, fs, rfl, _⟩ := h
    rfl
  · obtain ⟨d, l, n, often, shape, fs, rfl, pot, hn, nld, hl, f0, f10, fb, fasc, of0, of1, hsh, q⟩ := h
    refine ⟨_, pss_cons (ps_if (pt_cmpR op_eq (pv 1) pe_str (nomark _))
        (pss_one (ps_ret (pe_ifExp (pt_cmpR op_eq (pe_call GT hr (by rfl) gT FT.kp bT .nil pass0 (pa_cons (pv 0) (pa_cons pe_int pa_nil))) pe_int (nomark _)) (pe_tup (pa_cons (pe_call GO hr (by rfl) gO FO.kp bO .nil pass0 (pa_cons (pv 0) (pa_cons (pv 2) pa_nil))) pa_nil)) (pe_tup pa_nil)))) pss_nil)
      (pss_cons (ps_if (pt_cmpR op_eq (pv 1) pe_str (nomark _))
        (pss_cons (ps_setLc (i := 4) (own := [("_law_one", 6)]) (g := gName 6) (tt := tTest (tOp rEq (tCall spTake [] E0 (tCons (tVar 0) (tCons (tVar 3) tNil))) (tC (.int 0)))) (te := tVar 6) rfl scParts.nd rfl rfl (sw_true rfl rfl rfl (by decide +kernel)) (pi_list (pv 2)) (blkOk_by (N := nParts) (sc := defScope sParts) (by decide +kernel))
          (fun _ _ _ _ _ => pg_name (i := 6) scParts.nd rfl (.inl rfl)) (fun _ _ _ _ _ => pts_one (pt_cmpR op_eq (pe_call GT hr (by rfl) gT FT.kp bT .nil pass0 (pa_cons (pv 0) (pa_cons (pv 3) pa_nil))) pe_int (nomark _))) (fun _ _ _ _ _ => pv 6))
        (pss_one (ps_ret (pe_callTy call_tuple_of (by rfl) mT (by decide +kernel) (pa_cons (pe_lc (own := [("_law_key", 7)]) (g := gName 7) (tt := tYes) (te := tTup (tCons (tVar 7) (tCons (tIf (tTest (tOp rEq (tCall spTake [] E0 (tCons (tVar 0) (tCons (tC (.int 5)) tNil))) (tC (.int 0)))) (tC .non) (tCall spOf [] E0 (tCons (tVar 0) (tCons (tVar 2) tNil)))) tNil))) rfl scParts.nd (pi_list (pv 4)) (blkOk_by (N := nParts) (sc := defScope sParts) (by decide +kernel))
          (fun _ _ _ _ _ => pg_name (i := 7) scParts.nd rfl (.inl rfl)) (fun _ _ _ _ _ => pts_nil) (fun _ _ _ _ _ => pe_tup (pa_cons (pv 7) (pa_cons (pe_ifExp (pt_cmpR op_eq (pe_call GT hr (by rfl) gT FT.kp bT .nil pass0 (pa_cons (pv 0) (pa_cons pe_int pa_nil))) pe_int (nomark _)) pe_non (pe_call GO hr (by rfl) gO FO.kp bO .nil pass0 (pa_cons (pv 0) (pa_cons (pv 2) pa_nil)))) pa_nil)))) pa_nil))))) pss_nil)
      (pss_cons (ps_setLc (i := 5) (own := [("_law_slot", 8)]) (g := gName 8) (tt := tTest (tOp rEq (tCall spTake [] E0 (tCons (tVar 0) (tCons (tVar 3) tNil))) (tC (.int 0)))) (te := tVar 8) rfl scParts.nd rfl rfl (sw_true rfl rfl rfl (by decide +kernel)) (pi_range1 (by rfl) mR (pa_cons pe_int pa_nil)) (blkOk_by (N := nParts) (sc := defScope sParts) (by decide +kernel))
          (fun _ _ _ _ _ => pg_name (i := 8) scParts.nd rfl (.inl rfl)) (fun _ _ _ _ _ => pts_one (pt_cmpR op_eq (pe_call GT hr (by rfl) gT FT.kp bT .nil pass0 (pa_cons (pv 0) (pa_cons (pv 3) pa_nil))) pe_int (nomark _))) (fun _ _ _ _ _ => pv 8))
      (pss_one (ps_ret (pe_callTy call_tuple_of (by rfl) mT (by decide +kernel) (pa_cons (pe_lc (own := [("_law_slot", 8)]) (g := gName 8) (tt := tYes) (te := tTup (tCons (tVar 8) (tCons (tCall spOf [] E0 (tCons (tVar 0) (tCons (tVar 2) tNil))) tNil))) rfl scParts.nd (pi_list (pv 5)) (blkOk_by (N := nParts) (sc := defScope sParts) (by decide +kernel))
          (fun _ _ _ _ _ => pg_name (i := 8) scParts.nd rfl (.inl rfl)) (fun _ _ _ _ _ => pts_nil) (fun _ _ _ _ _ => pe_tup (pa_cons (pv 8) (pa_cons (pe_call GO hr (by rfl) gO FO.kp bO .nil pass0 (pa_cons (pv 0) (pa_cons (pv 2) pa_nil))) pa_nil)))) pa_nil)))))), ?_⟩
    have one_of : ∀ {x : V}, x ∈ fs.map V.int → ∃ k, k ∈ fs ∧ x = .int k := fun h => by
      obtain ⟨k, hk, e⟩ := List.mem_map.mp h
      exact ⟨k, hk, e.symm⟩
    have fl0 : 0 < (fs.map V.int).length := by rw [List.length_map]; exact f0
    have fl1 : (fs.map V.int).length ≤ 1000 := by rw [List.length_map]; omega
    refine ⟨.str shape, rfl, rfl, _, rfl, ?_⟩
    dsimp only
    rcases hsh with rfl | rfl | rfl
    · -- a record
      rw [decide_eq_false (by decide +kernel), if_neg Bool.false_ne_true]
      refine ⟨_, rfl, rfl, _, rfl, ?_⟩
      dsimp only
      rw [decide_eq_false (by decide +kernel), if_neg Bool.false_ne_true]
      dsimp only [tNext]
      refine seq_of (asg_of ⟨6, rfl, by decide, by decide, fun Dk hDk => lcj (K := K) (walk_range (lo := 0) (n := 6)) (fun i => some (.int (0 + (i : Int)))) (n := n) (c := 1) (fun i ys _ => ∃ ks : List Int, ys = ks.map V.int ∧ (∀ k ∈ ks, 0 ≤ k ∧ k < (i : Int)) ∧ ks.Pairwise (· < ·) ∧ ks.length ≤ i)
        (fun _ _ => trivial) (fun i H x H' y => ⟨y.1, by rw [y.2]⟩) hDk pot (by decide) (by decide) (fun _ => ⟨[], rfl, fun _ h => absurd h List.not_mem_nil, .nil, Nat.le_refl _⟩) (fun i ys H r => ?_) (fun i ys H H' _ r => r) (fun x => rfl) ?_ ?_⟩)
      · obtain ⟨ks, rfl, _, _, h⟩ := r
        rw [List.length_map]
        exact h
      · rintro i x ys H' hi hx o p ⟨ks, rfl, kb, ka, kl⟩ k1 k0 h1 h0
        cases hx
        refine et_take0 (ev_var rfl) (ev_var rfl) p (by omega) of0 (by omega) fun b H3 o3 p3 => ?_
        cases b with
        | false => exact h0 H3 o3 (p3.up (by push_cast; omega)) ⟨ks, rfl, fun k hk => by have := kb k hk; push_cast; omega, ka, by omega⟩
        | true =>
          refine v_of rfl (h1 _ H3 o3 (p3.up (by push_cast; omega)) ⟨ks ++ [0 + (i : Int)], by rw [List.map_append]; rfl, fun k hk => ?_, ?_, by rw [List.length_append, List.length_singleton]; omega⟩)
          · rcases List.mem_append.mp hk with h | h
            · have := kb k h
              push_cast
              omega
            · rw [List.mem_singleton.mp h]
              push_cast
              omega
          · rw [List.pairwise_append]
            refine ⟨ka, List.pairwise_singleton _ _, fun a ha b hb => ?_⟩
            rw [List.mem_singleton.mp hb]
            have := kb a ha
            omega
      · rintro H2 ys o2 p2 hD2 ⟨ks, rfl, kb, ka, kl⟩
        have l2 := o2 l _ nld hl
        dsimp only
        refine ret_of (cb_of (c_of ?_))
        refine ⟨.ref Dk, rfl, Dk, rfl, ⟨_, sq_of hD2⟩, fun Dp hDp => lcj (K := K) (walk_list (K := K) (a := Dk) (xs := ks.map V.int)) (fun i => (ks.map V.int)[i]?) (n := n + 6) (c := 1) (fun i ys H' => ∃ ps, TkAll K H' ys (ps.map dPart) ∧ ps.length ≤ i ∧ SmallIn fs ps ∧ (∀ p ∈ ps, ∃ k v, p = .pair k (some v)) ∧ ps.filterMap keyOf = ks.take i)
          (fun H' o => sq_of (o Dk _ (pot.ne hDk) hD2)) (fun i H x H' y => y) hDp (p2.up (by omega)) (by decide) (by rw [List.length_map]; omega) (fun _ => ⟨[], .nil, Nat.le_refl _, fun _ h => absurd h List.not_mem_nil, fun _ h => absurd h List.not_mem_nil, rfl⟩) (fun i ys H r => ?_) (fun i ys H H' kk r => ?_) (fun x => rfl) ?_ ?_⟩
        · obtain ⟨ps, t, h, _⟩ := r
          rw [t.len, List.length_map]
          exact h
        · obtain ⟨ps, t, h⟩ := r
          exact ⟨ps, t.keep kk.t, h⟩
        · rintro i x ys H' hi hx o p ⟨ps, t, pl, sm, pr, ke⟩ k1 k0 h1 h0
          rw [List.length_map] at hi
          obtain ⟨k, hk, rfl⟩ := at_map hx
          have kr := kb k (List.mem_of_getElem? hk)
          dsimp only [tYes]
          rw [if_pos rfl]
          refine tup_of (c_of (v_of rfl (c_of (rd_ofV (ev_var rfl) (ev_var rfl) p (by omega) nld (o l _ nld l2) fl0 fl1 fun H3 x hx o3 p3 => n_of ⟨by show 2 ≤ sizeLine; decide, fun a ha => ?_⟩))))
          obtain ⟨v, hv, rfl⟩ := one_of hx
          have vr := fb v hv
          refine h1 _ _ (o3.trans (Off.of (Ex.new ha))) ((p3.updD (p3.ne ha)).up (by push_cast; omega)) ⟨ps ++ [.pair k (some v)], ?_, by rw [List.length_append, List.length_singleton]; omega, ?_, ?_, ?_⟩
          · rw [List.map_append]
            exact ((t.keep (keepOff p o3)).ex (Ex.new ha)).snoc (.tup (upd_same) (.cons (.int k) (.cons (.int v) .nil)))
          · intro z hz
            rcases List.mem_append.mp hz with h | h
            · exact sm z h
            · rw [List.mem_singleton.mp h]
              refine ⟨fun j hj => ?_, fun k' v' e => ?_⟩
              · rcases List.mem_cons.mp hj with e | h
                · rw [e]
                  omega
                · rw [List.mem_singleton.mp h]
                  exact vr
              · cases e
                exact hv
          · intro z hz
            rcases List.mem_append.mp hz with h | h
            · exact pr z h
            · exact ⟨k, v, List.mem_singleton.mp h⟩
          · rw [List.filterMap_append, ke, take_one hk]
            rfl
        · rintro H5 ys o5 p5 hD5 ⟨ps, t, pl, sm, pr, ke⟩
          rw [List.length_map] at ke pl p5
          rw [List.take_length] at ke
          refine n_of ⟨Dp, ys, rfl, .inl ⟨sq_of hD5, fun a ha => ?_⟩⟩
          refine q _ (.ref a) ps ((o2.trans o5).trans (Off.of (Ex.new ha))) ((p5.updD (p5.ne ha)).up (by omega)) (.tup (upd_same) (t.ex (Ex.new ha))) ⟨by omega, fun p hp => (sm p hp).1, .inl ⟨rfl, pr⟩, by rw [ke]; exact ka⟩ (fun k v hm => (sm _ hm).2 k v rfl)
    · -- a map
      rw [decide_eq_false (by decide +kernel), if_neg Bool.false_ne_true]
      refine ⟨_, rfl, rfl, _, rfl, ?_⟩
      dsimp only
      rw [decide_eq_true rfl, if_pos rfl]
      refine seq_of (asg_of ⟨.ref l, rfl, l, rfl, ⟨_, sq_of hl⟩, fun Dk hDk => lcj (K := K) (walk_list (K := K) (a := l) (xs := fs.map V.int)) (fun i => (fs.map V.int)[i]?) (n := n) (c := 1) (fun i ys _ => ∃ ks : List Int, ys = ks.map V.int ∧ ks.Sublist (fs.take i))
        (fun H' o => sq_of (o l _ nld hl)) (fun i H x H' y => y) hDk pot (by decide) fl1 (fun _ => ⟨[], rfl, List.nil_sublist _⟩) (fun i ys H r => ?_) (fun i ys H H' _ r => r) (fun x => rfl) ?_ ?_⟩)
      · obtain ⟨ks, rfl, h⟩ := r
        have := h.length_le
        rw [List.length_take] at this
        rw [List.length_map]
        omega
      · rintro i x ys H' hi hx o p ⟨ks, rfl, sub⟩ k1 k0 h1 h0
        rw [List.length_map] at hi
        obtain ⟨k, hk, rfl⟩ := at_map hx
        refine et_take0 (ev_var rfl) (ev_var rfl) p (by omega) of0 (by omega) fun b H3 o3 p3 => ?_
        cases b with
        | false => exact h0 H3 o3 (p3.up (by push_cast; omega)) ⟨ks, rfl, by rw [take_one hk]; exact sub_more sub⟩
        | true => exact v_of rfl (h1 _ H3 o3 (p3.up (by push_cast; omega)) ⟨ks ++ [k], by rw [List.map_append]; rfl, by rw [take_one hk]; exact sub_snoc sub⟩)
      · rintro H2 ys o2 p2 hD2 ⟨ks, rfl, sub⟩
        rw [List.length_map] at sub p2
        rw [List.take_length] at sub
        have kl := sub.length_le
        have l2 := o2 l _ nld hl
        dsimp only
        refine ret_of (cb_of (c_of ?_))
        refine ⟨.ref Dk, rfl, Dk, rfl, ⟨_, sq_of hD2⟩, fun Dp hDp => lcj (K := K) (walk_list (K := K) (a := Dk) (xs := ks.map V.int)) (fun i => (ks.map V.int)[i]?) (n := n + 10) (c := 2) (fun i ys H' => ∃ ps, TkAll K H' ys (ps.map dPart) ∧ ps.length ≤ i ∧ SmallIn fs ps ∧ (∀ p ∈ ps, ∃ k v, p = .pair k v) ∧ ps.filterMap keyOf = ks.take i)
          (fun H' o => sq_of (o Dk _ (pot.ne hDk) hD2)) (fun i H x H' y => y) hDp (p2.up (by omega)) (by decide) (by rw [List.length_map]; omega) (fun _ => ⟨[], .nil, Nat.le_refl _, fun _ h => absurd h List.not_mem_nil, fun _ h => absurd h List.not_mem_nil, rfl⟩) (fun i ys H r => ?_) (fun i ys H H' kk r => ?_) (fun x => rfl) ?_ ?_⟩
        · obtain ⟨ps, t, h, _⟩ := r
          rw [t.len, List.length_map]
          exact h
        · obtain ⟨ps, t, h⟩ := r
          exact ⟨ps, t.keep kk.t, h⟩
        · rintro i x ys H' hi hx o p ⟨ps, t, pl, sm, pr, ke⟩ k1 k0 h1 h0
          rw [List.length_map] at hi
          obtain ⟨k, hk, rfl⟩ := at_map hx
          have kr := fb k (sub.mem (List.mem_of_getElem? hk))
          have kn : ps.filterMap keyOf ++ [k] = ks.take (i + 1) := by rw [ke, take_one hk]
          dsimp only [tYes]
          rw [if_pos rfl]
          refine tup_of (c_of (v_of rfl (c_of (if_of (et_take0 (ev_var rfl) ev_c p (by omega) (by decide) (by decide) fun b H3 o3 p3 => ?_)))))
          cases b with
          | true =>
            rw [if_pos rfl]
            refine k_of (n_of ?_)
            refine ⟨by show 2 ≤ sizeLine; decide, fun a ha => ?_⟩
            refine h1 _ _ (o3.trans (Off.of (Ex.new ha))) ((p3.updD (p3.ne ha)).up (by push_cast; omega)) ⟨ps ++ [.pair k none], ?_, by rw [List.length_append, List.length_singleton]; omega, ?_, ?_, ?_⟩
            · rw [List.map_append]
              exact ((t.keep (keepOff p o3)).ex (Ex.new ha)).snoc (.tup (upd_same) (.cons (.int k) (.cons .non .nil)))
            · intro z hz
              rcases List.mem_append.mp hz with h | h
              · exact sm z h
              · rw [List.mem_singleton.mp h]
                refine ⟨fun j hj => ?_, fun k' v' e => nomatch e⟩
                rw [List.mem_singleton.mp hj]
                exact kr
            · intro z hz
              rcases List.mem_append.mp hz with h | h
              · exact pr z h
              · exact ⟨k, none, List.mem_singleton.mp h⟩
            · rw [List.filterMap_append]
              exact kn
          | false =>
            rw [if_neg Bool.false_ne_true]
            refine rd_ofV (ev_var rfl) (ev_var rfl) p3 (by omega) nld ((o.trans o3) l _ nld l2) fl0 fl1 fun H4 x hx o4 p4 => n_of ⟨by show 2 ≤ sizeLine; decide, fun a ha => ?_⟩
            obtain ⟨v, hv, rfl⟩ := one_of hx
            have vr := fb v hv
            refine h1 _ _ ((o3.trans o4).trans (Off.of (Ex.new ha))) ((p4.updD (p4.ne ha)).up (by push_cast; omega)) ⟨ps ++ [.pair k (some v)], ?_, by rw [List.length_append, List.length_singleton]; omega, ?_, ?_, ?_⟩
            · rw [List.map_append]
              exact ((t.keep (keepOff p (o3.trans o4))).ex (Ex.new ha)).snoc (.tup (upd_same) (.cons (.int k) (.cons (.int v) .nil)))
            · intro z hz
              rcases List.mem_append.mp hz with h | h
              · exact sm z h
              · rw [List.mem_singleton.mp h]
                refine ⟨fun j hj => ?_, fun k' v' e => ?_⟩
                · rcases List.mem_cons.mp hj with e | h
                  · rw [e]
                    exact kr
                  · rw [List.mem_singleton.mp h]
                    exact vr
                · cases e
                  exact hv
            · intro z hz
              rcases List.mem_append.mp hz with h | h
              · exact pr z h
              · exact ⟨k, some v, List.mem_singleton.mp h⟩
            · rw [List.filterMap_append]
              exact kn
        · rintro H5 ys o5 p5 hD5 ⟨ps, t, pl, sm, pr, ke⟩
          rw [List.length_map] at ke pl p5
          rw [List.take_length] at ke
          refine n_of ⟨Dp, ys, rfl, .inl ⟨sq_of hD5, fun a ha => ?_⟩⟩
          refine q _ (.ref a) ps ((o2.trans o5).trans (Off.of (Ex.new ha))) ((p5.updD (p5.ne ha)).up (by omega)) (.tup (upd_same) (t.ex (Ex.new ha))) ⟨by omega, fun p hp => (sm p hp).1, .inr (.inl ⟨rfl, pr⟩), by rw [ke]; exact fasc.sublist sub⟩ (fun k v hm => (sm _ hm).2 k v rfl)
    · -- a weak object
      rw [decide_eq_true rfl, if_pos rfl]
      refine ret_of (if_of (et_take0 (ev_var rfl) ev_c pot (by omega) (by decide) (by decide) fun b H1 o1 p1 => ?_))
      cases b with
      | false =>
        rw [if_neg Bool.false_ne_true]
        refine tup_of (n_of ?_)
        refine ⟨by show 0 ≤ sizeLine; decide, fun a ha => ?_⟩
        exact q _ (.ref a) [] (o1.trans (Off.of (Ex.new ha))) ((p1.updD (p1.ne ha)).up (by omega)) (.tup (upd_same) .nil) ⟨by decide, fun _ h => absurd h List.not_mem_nil, .inr (.inr ⟨rfl, fun _ h => absurd h List.not_mem_nil⟩), .nil⟩ (fun _ _ h => absurd h List.not_mem_nil)
      | true =>
        rw [if_pos rfl]
        refine tup_of (c_of (rd_ofV (ev_var rfl) (ev_var rfl) p1 (by omega) nld (o1 l _ nld hl) fl0 fl1 fun H3 x hx o3 p3 => n_of ⟨by show 1 ≤ sizeLine; decide, fun a ha => ?_⟩))
        obtain ⟨v, hv, rfl⟩ := one_of hx
        refine q _ (.ref a) [.tgt v] ((o1.trans o3).trans (Off.of (Ex.new ha))) ((p3.updD (p3.ne ha)).up (by omega)) (.tup (upd_same) (.cons (.int v) .nil)) ⟨by show 1 ≤ 10; decide, fun z hz j hj => ?_, .inr (.inr ⟨rfl, fun z hz => ⟨v, List.mem_singleton.mp hz⟩⟩), .nil⟩ (fun k' v' h => nomatch List.mem_singleton.mp h)
        rw [List.mem_singleton.mp hz] at hj
        rw [List.mem_singleton.mp hj]
        exact fb v hv
end
end Sn
namespace Sn
open PySem PySem.Spec PyProof.Rows L2 Evl Gd
/-- pairs (text, int) as new tuples -/
def RIn (H : Hp) (ys : List V) (rs : List (Str × Int)) : Prop := ∃ zs : List (Addr × Str × Int), ys = zs.map (fun z => V.ref z.1) ∧ rs = zs.map (·.2) ∧ ∀ z ∈ zs, H z.1 = some (.tup [.str z.2.1, .int z.2.2])
theorem RIn.keep {H H' : Hp} {ys : List V} {rs : List (Str × Int)} (k : KeepN H H') (h : RIn H ys rs) : RIn H' ys rs := by
  obtain ⟨zs, e1, e2, e3⟩ := h
  exact ⟨zs, e1, e2, fun z hz => k _ _ (fun _ q => nomatch q) (e3 z hz)⟩
theorem RIn.nil {H : Hp} : RIn H [] [] := ⟨[], rfl, rfl, fun _ h => absurd h List.not_mem_nil⟩
theorem RIn.len {H : Hp} {ys : List V} {rs : List (Str × Int)} (h : RIn H ys rs) : ys.length = rs.length := by
  obtain ⟨zs, e1, e2, e3⟩ := h
  rw [e1, e2, List.length_map, List.length_map]
theorem RIn.app {H : Hp} {ys ys' : List V} {rs rs' : List (Str × Int)} (h : RIn H ys rs) (g : RIn H ys' rs') : RIn H (ys ++ ys') (rs ++ rs') := by
  obtain ⟨zs, e1, e2, e3⟩ := h
  obtain ⟨ws, f1, f2, f3⟩ := g
  refine ⟨zs ++ ws, by rw [e1, f1, List.map_append], by rw [e2, f2, List.map_append], fun z hz => ?_⟩
  rcases List.mem_append.mp hz with h | h
  · exact e3 z h
  · exact f3 z h
theorem RIn.one {H : Hp} {p : Addr} {r : Str × Int} (h : H p = some (.tup [.str r.1, .int r.2])) : RIn H [.ref p] [r] := ⟨[(p, r)], rfl, rfl, fun z hz => by
  rw [List.mem_singleton.mp hz]
  exact h⟩
/-- the pair that lies there -/
def kr (H : Hp) (x : V) : Str × Int :=
  match x with
  | .ref t => (match H t with | some (.tup [.str z, .int i]) => (z, i) | _ => ("", 0))
  | _ => ("", 0)
theorem kr_eq {H : Hp} {t : Addr} {z : Str} {i : Int} (h : H t = some (.tup [.str z, .int i])) : kr H (.ref t) = (z, i) := by
  show (match H t with | some (.tup [.str z, .int i]) => (z, i) | _ => ("", 0)) = (z, i)
  rw [h]
theorem RIn.at {H : Hp} {ys : List V} {rs : List (Str × Int)} (h : RIn H ys rs) : ∀ y ∈ ys, ∃ t, y = V.ref t ∧ H t = some (.tup [.str (kr H y).1, .int (kr H y).2]) := by
  obtain ⟨zs, rfl, rfl, e3⟩ := h
  intro y hy
  obtain ⟨z, hz, rfl⟩ := List.mem_map.mp hy
  have e := e3 z hz
  refine ⟨z.1, rfl, ?_⟩
  rw [kr_eq e]
  exact e
theorem RIn.kr {H : Hp} {ys : List V} {rs : List (Str × Int)} (h : RIn H ys rs) : ys.map (kr H) = rs := by
  obtain ⟨zs, rfl, rfl, e3⟩ := h
  rw [List.map_map]
  refine List.map_congr_left fun z hz => ?_
  exact kr_eq (e3 z hz)
abbrev rKey (r : Str × Int) : List Key := [.inr r.1, .inl r.2]
theorem td_roots {K : PySem.W.Frag} {H : Hp} : ∀ {ys : List V}, (∀ y ∈ ys, ∃ t, y = V.ref t ∧ H t = some (.tup [.str (kr H y).1, .int (kr H y).2])) → TkAll K H ys ((ys.map (kr H)).map dRoot)
  | [], _ => .nil
  | y :: ys, h => by
    obtain ⟨t, rfl, ht⟩ := h y List.mem_cons_self
    exact .cons (.tup (ht) (.cons (.str _) (.cons (.int _) .nil))) (td_roots fun z hz => h z (List.mem_cons_of_mem _ hz))
/-- sorted(a list of pairs) -/
theorem rd_sortR {K : PySem.W.Frag} {σ : L2.St} {H : Hp} {tl : TE} {a : Addr} {xs : List V} {rs : List (Str × Int)} {Q : VK} (hl : Ev tl σ H (.ref a)) (hx : H a = some (.lst xs)) (hr : RIn H xs rs)
    (k : ∀ (p : Addr) (H2 : Hp) (ys : List V) (rs' : List (Str × Int)), H p = none → Ex H H2 → H2 p = some (.lst ys) → TkAll K H2 ys (rs'.map dRoot) → rs'.Perm rs → rs'.Pairwise (fun r q => ksLt (rKey q) (rKey r) = false) → Q (.ref p) H2) : tCB (rSortedK K) (tCons tl tNil) σ H Q := by
  refine hl H (Ex.refl H) _ fun H1 e1 => ?_
  have hr1 := hr.keep (.of e1)
  have at1 := hr1.at
  refine ⟨a, xs, fun x => rKey (kr H1 x), rfl, sq_of (e1 _ _ hx), fun x hx => ?_, fun x _ y _ => ?_, fun ys p srt stb hp => ?_⟩
  · obtain ⟨t, e, ht⟩ := at1 x hx
    exact ⟨t, (kr H1 x).1, [.inl (kr H1 x).2], e, rfl, ht⟩
  · exact ⟨fun _ => ⟨fun _ => trivial, fun _ => rfl⟩, fun _ => rfl⟩
  · have e2 : Ex H1 (L2.upd H1 p (.lst ys)) := Ex.new hp
    have aty : ∀ y ∈ ys, ∃ t, y = V.ref t ∧ H1 t = some (.tup [.str (kr H1 y).1, .int (kr H1 y).2]) := fun y hy => at1 y (stb.perm.mem_iff.mp hy)
    refine k p _ ys (ys.map (kr H1)) (fresh_back e1 hp) (e1.trans e2) upd_same ((td_roots aty).ex e2) ?_ ?_
    · rw [← hr1.kr]
      exact stb.perm.map _
    · exact List.pairwise_map.mpr srt
def names4 : List Str := ["a", "Top", "xy", "zzzzzzzz"]
def words3 : List Str := ["pin", "hold", "queue"]
/-- the text of a root that is no name -/
abbrev gripT (w : Str) (i : Int) : Str := (w ++ (" " : Str)) ++ ((toString i : String) : Str)
def RootOk (r : Str × Int) : Prop := (r.1 ∈ names4 ∨ ∃ w ∈ words3, r.1 = gripT w r.2) ∧ 0 ≤ r.2 ∧ r.2 ≤ 200
abbrev sAnch : Stmt := topS 27
abbrev nAnch : List Str := ["_law_jar_here", "_law_figures_here", "_law_found", "_law_word", "_law_some", "_law_name", "_law_one"]
theorem scAnch : FnScope nAnch ["_law_jar_here", "_law_figures_here"] (defScope sAnch) := ⟨rfl, rfl, rfl, by decide +kernel, rfl, by decide +kernel, by decide +kernel⟩
/-- the drawn roots ahead of sorting: names, then one row a word -/
structure Found (fs : List Int) (A : List (Str × Int)) (W : List (Str × List Int)) : Prop where
  nm : (A.map (·.1)).Sublist names4
  nv : ∀ r ∈ A, r.2 ∈ fs
  gr : ∀ z ∈ W, z.2.Sublist fs
def gripsOf (W : List (Str × List Int)) : List (Str × Int) := W.flatMap fun z => z.2.map fun i => (gripT z.1 i, i)
def spAnch (K : PySem.W.Frag) : Sp := fun vs H Q _ => ∃ (d l : Addr) (n : Int) (fs : List Int), vs = [.ref d, .ref l] ∧ Pot H d n ∧ n ≤ 800000 ∧ l ≠ d ∧ H l = some (.lst (fs.map V.int)) ∧ 0 < fs.length ∧ fs.length ≤ 10 ∧ (∀ i ∈ fs, 0 ≤ i ∧ i ≤ 200) ∧
  ∀ (H' : Hp) (x : V) (rs A : List (Str × Int)) (W : List (Str × List Int)), Off d H H' → Pot H' d (n + 50) → Tk K H' x (.tuple (rs.map dRoot)) → rs.Perm (A ++ gripsOf W) → rs.Pairwise (fun r q => ksLt (rKey q) (rKey r) = false) → Found fs A W → W.map (·.1) = words3 → Q x H'
section
variable {P : Program} {w : World} {K : PySem.W.Frag} {mg : Str → Option Value} {base : Heap}
theorem ok_anch {f fT fO : Addr} {fd fdT fdO : FuncData} (F : Fun K "_law_anchors" "_law_anchors" sAnch f fd) (FT : Fun K "_law_take" "_law_take" sTake fT fdT) (FO : Fun K "_law_of" "_law_of" sOf fO fdO) (bT : Binds K fdT ["_law_jar_here", "_law_many"] []) (bO : Binds K fdO ["_law_jar_here", "_law_some"] [])
    (gT : mg "_law_take" = some (.ref fT)) (gO : mg "_law_of" = some (.ref fO)) (mL : mg "len" = none) (mS : mg "str" = none) (mT : mg "tuple" = none) (mO : mg "sorted" = none) : FnOk P w K mg base CX0 3 f fd ["_law_jar_here", "_law_figures_here"] (spAnch K) := by
  have GT : FnOk P w K mg base CX0 2 fT fdT ["_law_jar_here", "_law_many"] spTake := (ok_take FT).mono (by decide)
  have GO : FnOk P w K mg base CX0 2 fO fdO ["_law_jar_here", "_law_some"] spOf := ok_of FO FT bT gT mL
  refine F.ok scAnch (fun vs H Q E h => ?_) (fun cdv A outer s H vs Q E hr h => ?_)
  · obtain ⟨d, l, n, fs, rfl, _⟩ := h
    rfl
  · obtain ⟨d, l, n, fs, rfl, pot, hn, nld, hl, f0, f10, fb, q⟩ := h
    refine ⟨_, pss_cons (ps_setLc (i := 2) (own := [("_law_name", 5)]) (g := gName 5) (tt := tTest (tOp rEq (tCall spTake [] E0 (tCons (tVar 0) (tCons (tC (.int 3)) tNil))) (tC (.int 0)))) (te := tTup (tCons (tVar 5) (tCons (tCall spOf [] E0 (tCons (tVar 0) (tCons (tVar 1) tNil))) tNil))) rfl scAnch.nd rfl rfl (sw_true rfl rfl rfl (by decide +kernel)) (pi_tup (pe_tup (pa_cons pe_str (pa_cons pe_str (pa_cons pe_str (pa_cons pe_str pa_nil)))))) (blkOk_by (N := nAnch) (sc := defScope sAnch) (by decide +kernel))
          (fun _ _ _ _ _ => pg_name (i := 5) scAnch.nd rfl (.inl rfl)) (fun _ _ _ _ _ => pts_one (pt_cmpR op_eq (pe_call GT hr (by rfl) gT FT.kp bT .nil pass0 (pa_cons (pv 0) (pa_cons pe_int pa_nil))) pe_int (nomark _))) (fun _ _ _ _ _ => pe_tup (pa_cons (pv 5) (pa_cons (pe_call GO hr (by rfl) gO FO.kp bO .nil pass0 (pa_cons (pv 0) (pa_cons (pv 1) pa_nil))) pa_nil))))
      (pss_cons (ps_for PassesOwn.never rfl (pi_tup (pe_tup (pa_cons pe_str (pa_cons pe_str (pa_cons pe_str pa_nil))))) (pg_name (i := 3) scAnch.nd rfl (.inr rfl))
        (pss_cons (ps_setLc (i := 4) (own := [("_law_one", 6)]) (g := gName 6) (tt := tTest (tOp rEq (tCall spTake [] E0 (tCons (tVar 0) (tCons (tC (.int 7)) tNil))) (tC (.int 0)))) (te := tVar 6) rfl scAnch.nd rfl rfl (sw_true rfl rfl rfl (by decide +kernel)) (pi_list (pv 1)) (blkOk_by (N := nAnch) (sc := defScope sAnch) (by decide +kernel))
          (fun _ _ _ _ _ => pg_name (i := 6) scAnch.nd rfl (.inl rfl)) (fun _ _ _ _ _ => pts_one (pt_cmpR op_eq (pe_call GT hr (by rfl) gT FT.kp bT .nil pass0 (pa_cons (pv 0) (pa_cons pe_int pa_nil))) pe_int (nomark _))) (fun _ _ _ _ _ => pv 6))
        (pss_one (ps_expr (pe_bm PySem.F.plainAttrs_list PySem.F.slot_list_extend PySem.F.type_list_extend mt_extend (pv 2) (pa_cons (pe_lc (own := [("_law_one", 6)]) (g := gName 6) (tt := tYes) rfl scAnch.nd (pi_list (pv 4)) (blkOk_by (N := nAnch) (sc := defScope sAnch) (by decide +kernel))
          (fun _ _ _ _ _ => pg_name (i := 6) scAnch.nd rfl (.inl rfl)) (fun _ _ _ _ _ => pts_nil) (fun _ _ _ _ _ => pe_tup (pa_cons (pe_op op_add_str (pe_op op_add_str (pv 3) pe_str) (pe_callTy call_str_int (by rfl) mS (by decide +kernel) (pa_cons (pv 6) pa_nil))) (pa_cons (pv 6) pa_nil)))) pa_nil))))))
      (pss_one (ps_ret (pe_ifExp (pt_cmpR (op_neD hr.units) (pv 1) (pe_lst pa_nil) (nomark _)) (pe_callTy call_tuple_of (by rfl) mT (by decide +kernel) (pa_cons (pe_callB cr_sortedK (by rfl) mO (by decide +kernel) (pa_cons (pv 2) pa_nil)) pa_nil)) (pe_tup pa_nil))))), ?_⟩
    have one_of : ∀ {x : V}, x ∈ fs.map V.int → ∃ k, k ∈ fs ∧ x = .int k := fun h => by
      obtain ⟨k, hk, e⟩ := List.mem_map.mp h
      exact ⟨k, hk, e.symm⟩
    have fl0 : 0 < (fs.map V.int).length := by rw [List.length_map]; exact f0
    have fl1 : (fs.map V.int).length ≤ 1000 := by rw [List.length_map]; omega
    have str_at : ∀ {l : List Str} {i : Nat} {x : V}, (l.map V.str)[i]? = some x → ∃ k, l[i]? = some k ∧ x = .str k := by
      intro l i x h
      rw [List.getElem?_map] at h
      cases e : l[i]? with
      | none =>
        rw [e] at h
        cases h
      | some k =>
        rw [e] at h
        exact ⟨k, rfl, (Option.some.inj h).symm⟩
    refine seq_of (asg_of ?_)
    refine ⟨by show 4 ≤ sizeLine; decide, fun tp htp => ?_⟩
    have e1 : Ex H (upd H tp (.tup [V.str "a", V.str "Top", V.str "xy", V.str "zzzzzzzz"])) := Ex.new htp
    have t1 : (upd H tp (.tup [V.str "a", V.str "Top", V.str "xy", V.str "zzzzzzzz"])) tp = some (.tup (names4.map V.str)) := upd_same
    have ntd := pot.ne htp
    have pot1 : Pot (upd H tp (.tup [V.str "a", V.str "Top", V.str "xy", V.str "zzzzzzzz"])) d n := pot.updD ntd
    dsimp only
    generalize upd H tp (.tup [V.str "a", V.str "Top", V.str "xy", V.str "zzzzzzzz"]) = H1 at e1 t1 pot1 ⊢
    have o1 : Off d H H1 := Off.of e1
    refine ⟨tp, rfl, ⟨_, st_of t1⟩, fun D hD => lcj (K := K) (walk_tup (K := K) (a := tp) (xs := names4.map V.str)) (fun i => (names4.map V.str)[i]?) (n := n) (c := 2) (fun i ys H' => ∃ A, RIn H' ys A ∧ A.length ≤ i ∧ (A.map (·.1)).Sublist (names4.take i) ∧ ∀ r ∈ A, r.2 ∈ fs)
      (fun H' o => st_of (o tp _ ntd t1)) (fun i H x H' y => y) hD pot1 (by decide) (by show 4 ≤ 1000; decide) (fun _ => ⟨[], .nil, Nat.le_refl _, List.nil_sublist _, fun _ h => absurd h List.not_mem_nil⟩) (fun i ys H r => ?_) (fun i ys H H' kk r => ?_) (fun x => rfl) ?_ ?_⟩
    · obtain ⟨A, h, h2, _⟩ := r
      rw [h.len]
      exact h2
    · obtain ⟨A, h, h2⟩ := r
      exact ⟨A, h.keep kk, h2⟩
    · rintro i x ys H' hi hx o p ⟨A, rin, al, sub, av⟩ k1 k0 h1 h0
      obtain ⟨z, hz, rfl⟩ := str_at hx
      have i4 : i < 4 := hi
      refine et_take0 (ev_var rfl) ev_c p (by omega) (by decide) (by decide) fun b H3 o3 p3 => ?_
      cases b with
      | false =>
        rw [if_neg Bool.false_ne_true]
        exact h0 H3 o3 (p3.up (by push_cast; omega)) ⟨A, rin.keep (.off p o3), by omega, by rw [take_one hz]; exact sub_more sub, av⟩
      | true =>
        rw [if_pos rfl]
        refine tup_of (c_of (v_of rfl (c_of (rd_ofV (ev_var rfl) (ev_var rfl) p3 (by omega) nld ((o.trans o3) l _ nld (o1 l _ nld hl)) fl0 fl1 fun H4 x hx o4 p4 => n_of ⟨by show 2 ≤ sizeLine; decide, fun a ha => ?_⟩))))
        obtain ⟨v, hv, rfl⟩ := one_of hx
        refine h1 _ _ ((o3.trans o4).trans (Off.of (Ex.new ha))) ((p4.updD (p4.ne ha)).up (by push_cast; omega)) ⟨A ++ [(z, v)], (rin.keep ((KeepN.off p (o3.trans o4)).trans (.of (Ex.new ha)))).app (.one (r := (z, v)) upd_same), by rw [List.length_append, List.length_singleton]; omega, ?_, fun r hr => ?_⟩
        · rw [List.map_append, take_one hz]
          exact sub_snoc sub
        · rcases List.mem_append.mp hr with h | h
          · exact av r h
          · rw [List.mem_singleton.mp h]
            exact hv
    · rintro H2 ys2 o2 p2 hD2 ⟨A, rin, al, sub, av⟩
      rw [List.length_map] at sub p2 al
      rw [List.take_length] at sub
      have o02 := o1.trans o2
      have nDd : D ≠ d := pot1.ne hD
      refine ⟨by show 3 ≤ sizeLine; decide, fun tw htw => ?_⟩
      have e3 : Ex H2 (upd H2 tw (.tup [V.str "pin", V.str "hold", V.str "queue"])) := Ex.new htw
      have t3 : (upd H2 tw (.tup [V.str "pin", V.str "hold", V.str "queue"])) tw = some (.tup (words3.map V.str)) := upd_same
      have nwd := p2.ne htw
      have pot3 : Pot (upd H2 tw (.tup [V.str "pin", V.str "hold", V.str "queue"])) d (n + 8) := (p2.updD nwd).up (by show n + 2 * ((4 : Nat) : Int) ≤ n + 8; omega)
      generalize upd H2 tw (.tup [V.str "pin", V.str "hold", V.str "queue"]) = H3 at e3 t3 pot3 ⊢
      have nDw : D ≠ tw := ne_of_none hD2 htw
      have o3 : Off d H2 H3 := Off.of e3
      refine ⟨tw, rfl, ⟨_, st_of t3⟩, for_tup (K := K) (a := tw) (xs := words3.map V.str) (fun i σ' H' => ∃ y3 y4 W, σ' = [some (.ref d), some (.ref l), some (.ref D), y3, y4, none, none] ∧ Off d H H' ∧ Pot H' d (n + 8 + 10 * (i : Int)) ∧ H' tw = some (.tup (words3.map V.str)) ∧ (∃ ys, H' D = some (.lst ys) ∧ ys.length ≤ 4 + 10 * i ∧ RIn H' ys (A ++ gripsOf W)) ∧ W.map (·.1) = words3.take i ∧ ∀ z ∈ W, z.2.Sublist fs)
        ⟨none, none, [], rfl, o02.trans o3, pot3.up (by omega), t3, ⟨ys2, e3 _ _ hD2, by rw [rin.len]; exact al, (by rw [show A ++ gripsOf [] = A from List.append_nil A]; exact rin.keep (.of e3))⟩, rfl, fun _ h => absurd h List.not_mem_nil⟩
        (fun i σ' H' _ ⟨_, _, _, _, _, _, h, _⟩ => st_of h) ?_ ?_⟩
      · rintro i x σ' H' hx ⟨y3, y4, W, rfl, o, p, ht, ⟨ys, hD', yl, rin'⟩, wm, ws⟩
        obtain ⟨wd, hwd, rfl⟩ := str_at hx
        have i3 : i < 3 := (List.getElem?_eq_some_iff.mp hwd).1
        have wl : wd.length ≤ 5 := by
          have : ∀ z ∈ words3, z.length ≤ 5 := by decide +kernel
          exact this wd (List.mem_of_getElem? hwd)
        dsimp only [gName]
        refine seq_of (asg_of ?_)
        refine ⟨.ref l, rfl, l, rfl, ⟨_, sq_of (o l _ nld hl)⟩, fun Dk hDk => lcj (K := K) (walk_list (K := K) (a := l) (xs := fs.map V.int)) (fun i => (fs.map V.int)[i]?) (n := n + 8 + 10 * (i : Int)) (c := 1) (fun i ys _ => ∃ ks : List Int, ys = ks.map V.int ∧ ks.Sublist (fs.take i))
          (fun H'' o' => sq_of (o' l _ nld (o l _ nld hl))) (fun i H x H' y => y) hDk p (by decide) fl1 (fun _ => ⟨[], rfl, List.nil_sublist _⟩) (fun i ys H r => ?_) (fun i ys H H' _ r => r) (fun x => rfl) ?_ ?_⟩
        · obtain ⟨ks, rfl, h⟩ := r
          have := h.length_le
          rw [List.length_take] at this
          rw [List.length_map]
          omega
        · rintro j x ys' H'' hj hx' o' p' ⟨ks, rfl, sub'⟩ k1 k0 h1 h0
          rw [List.length_map] at hj
          obtain ⟨k, hk, rfl⟩ := at_map hx'
          refine et_take0 (ev_var rfl) ev_c p' (by omega) (by decide) (by decide) fun b H5 o5 p5 => ?_
          cases b with
          | false => exact h0 H5 o5 (p5.up (by push_cast; omega)) ⟨ks, rfl, by rw [take_one hk]; exact sub_more sub'⟩
          | true => exact v_of rfl (h1 _ H5 o5 (p5.up (by push_cast; omega)) ⟨ks ++ [k], by rw [List.map_append]; rfl, by rw [take_one hk]; exact sub_snoc sub'⟩)
        · rintro H5 ys' o5 p5 hDk5 ⟨ks, rfl, sub'⟩
          rw [List.length_map] at sub' p5
          rw [List.take_length] at sub'
          have kl := sub'.length_le
          have hD5 := o5 D _ nDd hD'
          have nkd : Dk ≠ d := p.ne hDk
          have nDk : D ≠ Dk := ne_of_none hD' hDk
          dsimp only
          refine ⟨.ref D, rfl, .inl ⟨rfl, _, sq_of hD5⟩, .ref Dk, rfl, Dk, rfl, ⟨_, sq_of hDk5⟩, fun De hDe => lcj (K := K) (walk_list (K := K) (a := Dk) (xs := ks.map V.int)) (fun i => (ks.map V.int)[i]?) (n := n + 18 + 10 * (i : Int)) (c := 0) (fun j ys H' => RIn H' ys ((ks.take j).map fun k => (gripT wd k, k)))
            (fun H'' o' => sq_of (o' Dk _ nkd hDk5)) (fun i H x H' y => y) hDe (p5.up (by omega)) (by decide) (by rw [List.length_map]; omega) (fun _ => .nil) (fun j ys H r => ?_) (fun j ys H H' kk r => r.keep kk) (fun x => rfl) ?_ ?_⟩
          · rw [r.len, List.length_map, List.length_take]
            omega
          · rintro j x ys'' H6 hj hx' o6 p6 r6 k1 k0 h1 h0
            obtain ⟨k, hk, rfl⟩ := at_map hx'
            have kb := fb k (sub'.mem (List.mem_of_getElem? hk))
            have tl : ((toString k : String) : Str).length ≤ 10 := int_len (by omega)
            dsimp only [tYes]
            rw [if_pos rfl]
            refine tup_of (c_of (op_of (op_of (v_of rfl (k_of ⟨wd, _, rfl, rfl, ?_, ?_⟩)))))
            · rw [sizeLine_eq]
              show wd.length + 1 ≤ _
              omega
            refine cb_of (c_of (v_of rfl (n_of ⟨k, rfl, ?_, ?_⟩)))
            · have : k.natAbs < 2 ^ 1920 := Nat.lt_of_lt_of_le (show k.natAbs < 2 ^ 10 by omega) (Nat.pow_le_pow_right (by decide) (by decide))
              by_cases z : k.natAbs = 0
              · rw [z]
                decide
              · exact (Nat.log2_lt z).mpr this
            refine ⟨_, _, rfl, rfl, ?_, ?_⟩
            · rw [strLen_append, sizeLine_eq]
              show wd.length + 1 + _ ≤ _
              omega
            refine c_of (v_of rfl (n_of ⟨by show 2 ≤ sizeLine; decide, fun a ha => ?_⟩))
            refine h1 _ _ (Off.of (Ex.new ha)) ((p6.updD (p6.ne ha)).up (by push_cast; omega)) ?_
            rw [take_snoc _ hk]
            exact (r6.keep (.of (Ex.new ha))).app (.one (r := (gripT wd k, k)) upd_same)
          · rintro H7 zs o7 p7 hDe7 r7
            rw [List.length_map, List.take_length] at r7
            have hD7 := o7 D _ nDd hD5
            have zl := r7.len
            rw [List.length_map] at zl
            refine ⟨D, De, ys, zs, rfl, rfl, hD7, hDe7, by rw [sizeLine_eq]; omega, ?_⟩
            have kk : KeepN H7 (upd H7 D (.lst (ys ++ zs))) := .lst hD7 fun a o n h => by
              rw [upd_ne n]
              exact h
            have H0D : H D = none := fresh_back e1 hD
            refine ⟨_, _, W ++ [(wd, ks)], rfl, ((o.trans o5).trans o7).fresh H0D, (p7.updD nDd).up (by push_cast; omega), ?_, ⟨_, upd_same, by rw [List.length_append]; omega, ?_⟩, ?_, fun z hz => ?_⟩
            · rw [upd_ne (Ne.symm nDw)]
              exact o7 tw _ nwd (o5 tw _ nwd ht)
            · have e : A ++ gripsOf (W ++ [(wd, ks)]) = (A ++ gripsOf W) ++ ks.map fun k => (gripT wd k, k) := by
                unfold gripsOf
                rw [List.flatMap_append, List.append_assoc]
                congr 2
                exact List.append_nil _
              rw [e]
              exact (((rin'.keep (.off p o5)).keep (.off p5 o7)).app r7).keep kk
            · rw [List.map_append, wm, take_one hwd]
              rfl
            · rcases List.mem_append.mp hz with h | h
              · exact ws z h
              · rw [List.mem_singleton.mp h]
                exact sub'
      · rintro σ' H' ⟨y3, y4, W, rfl, o, p, ht, ⟨ys, hD', yl, rin'⟩, wm, ws⟩
        refine ret_of (if_of (test_of (op_of (v_of rfl (lst_of (n_of ⟨Nat.zero_le _, fun e he => ⟨.list (fs.map .int), .list [], .lst (sq_of (Ex.new he _ _ (o l _ nld hl))) (dp_ints fs), .lst (sq_of upd_same) .nil, ?_, by rfl, _, rfl, ?_⟩⟩))))))
        · unfold SeqAt.shaped
          rw [PyData.canLay0, ints_lay, PyData.depth, ints_depth]
          rfl
        have eq0 : PyData.eqv (.list (fs.map .int)) (.list []) = false := by
          cases fs with
          | nil => exact absurd f0 (by decide)
          | cons a r => rfl
        rw [eq0]
        rw [if_pos (show (!false) = true from rfl)]
        have eN : Ex H' (upd H' e (.lst [])) := Ex.new he
        refine cb_of (c_of (rd_sortR (ev_var rfl) (eN _ _ hD') (rin'.keep (.of eN)) fun pp H2' ys' rs' hp e2 h2 td perm srt => n_of ⟨pp, ys', rfl, .inl ⟨sq_of h2, fun t ht' => ?_⟩⟩))
        have eT : Ex H2' (upd H2' t (.tup ys')) := Ex.new ht'
        refine q _ (.ref t) rs' A W (o.trans (Off.of ((eN.trans e2).trans eT))) ((p.ex ((eN.trans e2).trans eT)).up (by rw [List.length_map]; show n + 8 + 10 * ((3 : Nat) : Int) ≤ n + 50; omega)) (.tup (upd_same) (td.ex eT)) perm srt ⟨sub, av, ws⟩ ?_
        rw [wm]
        rfl
end
end Sn
namespace Sn
open PySem PySem.Spec PyProof.Rows L2 Evl Gd
abbrev sShot : Stmt := topS 28
abbrev nShot : List Str := ["_law_jar_here", "_law_least", "_law_most", "_law_often", "_law_figures_here", "_law_things", "_law_one", "_law_shape"]
theorem scShot : FnScope nShot ["_law_jar_here", "_law_least", "_law_most", "_law_often"] (defScope sShot) := ⟨rfl, rfl, rfl, by decide +kernel, rfl, by decide +kernel, by decide +kernel⟩
/-- what is known of a drawn thing -/
def ThingOk (t : Thing) : Prop := OkParts t.sort t.parts ∧ 0 ≤ t.n ∧ t.n ≤ 200 ∧ (t.home = "counted" ∨ t.home = "traced")
structure RootsOk (fs : List Int) (rs : List (Str × Int)) : Prop where
  ex : ∃ A W, rs.Perm (A ++ gripsOf W) ∧ Found fs A W ∧ W.map (·.1) = words3
  asc : rs.Pairwise (fun r q => ksLt (rKey q) (rKey r) = false)
structure Drawn (s : Shot) : Prop where
  len : s.things.length ≤ 10
  th : ∀ t ∈ s.things, ThingOk t
  ins : ∀ t ∈ s.things, InFs (s.things.map Thing.n) t.parts
  asc : (s.things.map Thing.n).Pairwise (· < ·)
  rt : (s.roots = [] ∧ s.things = []) ∨ RootsOk (s.things.map Thing.n) s.roots
def spShot (K : PySem.W.Frag) : Sp := fun vs H Q _ => ∃ (d : Addr) (n often : Int), vs = [.ref d, .int 0, .int 8, .int often] ∧ Pot H d n ∧ n ≤ 700000 ∧ 0 < often ∧ often ≤ 100 ∧
  ∀ (H' : Hp) (x : V) (s : Shot), Off d H H' → Pot H' d (n + 600) → Tk K H' x (dShot s) → Drawn s → Q x H'
section
variable {P : Program} {w : World} {K : PySem.W.Frag} {mg : Str → Option Value} {base : Heap}
theorem ok_shot {f fT fO fF fP fA : Addr} {fd fdT fdO fdF fdP fdA : FuncData} (F : Fun K "_law_shot" "_law_shot" sShot f fd) (FT : Fun K "_law_take" "_law_take" sTake fT fdT) (FO : Fun K "_law_of" "_law_of" sOf fO fdO) (FF : Fun K "_law_figures" "_law_figures" sFig fF fdF) (FP : Fun K "_law_parts" "_law_parts" sParts fP fdP) (FA : Fun K "_law_anchors" "_law_anchors" sAnch fA fdA)
    (bT : Binds K fdT ["_law_jar_here", "_law_many"] []) (bO : Binds K fdO ["_law_jar_here", "_law_some"] []) (bF : Binds K fdF ["_law_jar_here", "_law_many"] []) (bP : Binds K fdP ["_law_jar_here", "_law_shape", "_law_figures_here", "_law_often"] []) (bA : Binds K fdA ["_law_jar_here", "_law_figures_here"] [])
    (gT : mg "_law_take" = some (.ref fT)) (gO : mg "_law_of" = some (.ref fO)) (gF : mg "_law_figures" = some (.ref fF)) (gP : mg "_law_parts" = some (.ref fP)) (gA : mg "_law_anchors" = some (.ref fA)) (mL : mg "len" = none) (mS : mg "str" = none) (mT : mg "tuple" = none) (mO : mg "sorted" = none) (mR : mg "range" = none) : FnOk P w K mg base CX0 4 f fd ["_law_jar_here", "_law_least", "_law_most", "_law_often"] (spShot K) := by
  have GT : FnOk P w K mg base CX0 3 fT fdT ["_law_jar_here", "_law_many"] spTake := (ok_take FT).mono (by decide)
  have GO : FnOk P w K mg base CX0 3 fO fdO ["_law_jar_here", "_law_some"] spOf := (ok_of FO FT bT gT mL).mono (by decide)
  have GF : FnOk P w K mg base CX0 3 fF fdF ["_law_jar_here", "_law_many"] spFig := ok_fig FF FT FO bT bO gT gO mL mR
  have GP : FnOk P w K mg base CX0 3 fP fdP ["_law_jar_here", "_law_shape", "_law_figures_here", "_law_often"] (spParts K) := ok_parts FP FT FO bT bO gT gO mL mR mT
  have GA : FnOk P w K mg base CX0 3 fA fdA ["_law_jar_here", "_law_figures_here"] (spAnch K) := ok_anch FA FT FO bT bO gT gO mL mS mT mO
  refine F.ok scShot (fun vs H Q E h => ?_) (fun cdv A outer s H vs Q E hr h => ?_)
  · obtain ⟨d, n, often, rfl, _⟩ := h
    rfl
  · obtain ⟨d, n, often, rfl, pot, hn, of0, of1, q⟩ := h
    refine ⟨_, pss_cons (ps_par (i := 4) (j := 5) rfl scShot.nd rfl rfl (by decide) rfl rfl (pa_cons (pe_call GF hr (by rfl) gF FF.kp bF .nil pass0 (pa_cons (pv 0) (pa_cons (pe_op op_add (pv 1) (pe_call GT hr (by rfl) gT FT.kp bT .nil pass0 (pa_cons (pv 0) (pa_cons (pe_op op_add (pe_op op_sub (pv 2) (pv 1)) pe_int) pa_nil)))) pa_nil))) (pa_cons (pe_lst pa_nil) pa_nil)) (by rfl))
      (pss_cons (ps_for PassesOwn.never rfl (pi_list (pv 4)) (pg_name (i := 6) scShot.nd rfl (.inl rfl))
        (pss_cons (ps_set (i := 7) scShot.nd rfl (.inl rfl) (pe_call GO hr (by rfl) gO FO.kp bO .nil pass0 (pa_cons (pv 0) (pa_cons (pe_lst (pa_cons pe_str (pa_cons pe_str (pa_cons pe_str (pa_cons pe_str (pa_cons pe_str pa_nil)))))) pa_nil))))
        (pss_one (ps_expr (pe_bm PySem.F.plainAttrs_list PySem.F.slot_list_append PySem.F.type_list_append mt_append (pv 5) (pa_cons (pe_tup (pa_cons (pv 6) (pa_cons (pe_call GO hr (by rfl) gO FO.kp bO .nil pass0 (pa_cons (pv 0) (pa_cons (pe_lst (pa_cons pe_str (pa_cons pe_str pa_nil))) pa_nil))) (pa_cons (pv 7) (pa_cons (pe_call GP hr (by rfl) gP FP.kp bP .nil pass0 (pa_cons (pv 0) (pa_cons (pv 7) (pa_cons (pv 4) (pa_cons (pv 3) pa_nil))))) pa_nil))))) pa_nil))))))
      (pss_one (ps_ret (pe_tup (pa_cons (pe_ifExp (pt_cmpR (op_neD hr.units) (pv 4) (pe_lst pa_nil) (nomark _)) (pe_call GA hr (by rfl) gA FA.kp bA .nil pass0 (pa_cons (pv 0) (pa_cons (pv 4) pa_nil))) (pe_tup pa_nil)) (pa_cons (pe_callTy call_tuple_of (by rfl) mT (by decide +kernel) (pa_cons (pv 5) pa_nil)) pa_nil)))))), ?_⟩
    refine seq_of (par_of ?_)
    refine c_of (call_of ?_)
    refine c_of (v_of rfl ?_)
    refine c_of (op_of (v_of rfl ?_))
    refine rd_take (ev_var rfl) (ev_op (ev_op (ev_var rfl) (ev_var rfl) rv_I0) ev_c rv_I0) pot (by omega) (by decide) (by decide) fun H1 r o1 p1 r0 r1 => ?_
    refine ⟨0, r, rfl, rfl, ?_⟩
    refine n_of ⟨d, n + 1, 0 + r, rfl, p1, by omega, by omega, by omega, fun H2 l fs o2 p2 nld hl0 hl fl fb fasc => ?_⟩
    refine ⟨Nat.zero_le _, fun th hth => ?_⟩
    refine ⟨_, _, rfl, ?_⟩
    have nthd := p2.ne hth
    have nlt : l ≠ th := ne_of_none hl hth
    have eA : Ex H2 (upd H2 th (.lst [])) := Ex.new hth
    have l3 := eA _ _ hl
    have t3 : (upd H2 th (.lst [])) th = some (.lst []) := upd_same
    have p3 := p2.ex eA
    have o3 : Off d H (upd H2 th (.lst [])) := (o1.trans o2).trans (Off.of eA)
    generalize upd H2 th (.lst []) = H3 at eA l3 t3 p3 o3 ⊢
    have len10 : fs.length ≤ 10 := by omega
    have Hth : H th = none := by
      cases e : H th with
      | none => rfl
      | some o =>
        by_cases z : th = d
        · exact absurd z nthd
        · rw [(o1.trans o2) th o z e] at hth
          cases hth
    refine ⟨.ref l, rfl, l, rfl, ⟨_, sq_of l3⟩, for_list (K := K) (a := l) (xs := fs.map V.int) (fun i σ' H' => ∃ y6 y7 ts ys, σ' = [some (.ref d), some (.int 0), some (.int 8), some (.int often), some (.ref l), some (.ref th), y6, y7] ∧ Off d H H' ∧ Pot H' d (n + 31 + 42 * (i : Int)) ∧ H' l = some (.lst (fs.map V.int)) ∧ H' th = some (.lst ys) ∧ TkAll K H' ys (ts.map dThing) ∧ ts.map Thing.n = fs.take i ∧ ∀ t ∈ ts, ThingOk t ∧ InFs fs t.parts)
      ⟨none, none, [], [], rfl, o3, p3.up (by omega), l3, t3, .nil, rfl, fun _ h => absurd h List.not_mem_nil⟩ (fun i σ' H' _ ⟨_, _, _, _, _, _, _, h, _⟩ => sq_of h) ?_ ?_⟩
    · rintro i x σ' H' hx ⟨y6, y7, ts, ys, rfl, o, p, hl', ht', td, tn, tok⟩
      obtain ⟨k, hk, rfl⟩ := at_map hx
      have il : i < fs.length := (List.getElem?_eq_some_iff.mp hk).1
      have kb := fb k (List.mem_of_getElem? hk)
      have tsl : ts.length = i := by
        have := congrArg List.length tn
        rw [List.length_map, List.length_take] at this
        omega
      dsimp only [gName]
      refine seq_of (asg_of (rd_of (ev_var rfl) p (by omega) (el_lst (ea_cons ev_c (ea_cons ev_c (ea_cons ev_c (ea_cons ev_c (ea_cons ev_c ea_nil))))) (by show 5 ≤ 100000; decide)) (by show 0 < 5; decide) (by show 5 ≤ 1000; decide) fun H4 x hx o4 p4 => ?_))
      obtain ⟨sh, hsh, rfl⟩ : ∃ sh : Str, (sh = "record" ∨ sh = "map" ∨ sh = "weak") ∧ x = .str sh := by
        rcases List.mem_cons.mp hx with e | hx
        · exact ⟨_, .inl rfl, e⟩
        · rcases List.mem_cons.mp hx with e | hx
          · exact ⟨_, .inl rfl, e⟩
          · rcases List.mem_cons.mp hx with e | hx
            · exact ⟨_, .inl rfl, e⟩
            · rcases List.mem_cons.mp hx with e | hx
              · exact ⟨_, .inr (.inl rfl), e⟩
              · rw [List.mem_singleton.mp hx]
                exact ⟨_, .inr (.inr rfl), rfl⟩
      have hth4 := o4 th _ nthd ht'
      have hl4 := o4 l _ nld hl'
      refine ⟨.ref th, rfl, .inl ⟨rfl, _, sq_of hth4⟩, ?_⟩
      refine c_of (tup_of (c_of (v_of rfl ?_)))
      refine c_of (rd_of (ev_var rfl) p4 (by omega) (el_lst (ea_cons ev_c (ea_cons ev_c ea_nil)) (by show 2 ≤ 100000; decide)) (by show 0 < 2; decide) (by show 2 ≤ 1000; decide) fun H5 x hx o5 p5 => ?_)
      refine c_of (v_of rfl ?_)
      refine c_of (call_of ?_)
      refine c_of (v_of rfl (c_of (v_of rfl (c_of (v_of rfl (c_of (v_of rfl (n_of ?_))))))))
      obtain ⟨hm, hhm, rfl⟩ : ∃ hm : Str, (hm = "counted" ∨ hm = "traced") ∧ x = .str hm := by
        rcases List.mem_cons.mp hx with e | hx
        · exact ⟨_, .inl rfl, e⟩
        · rw [List.mem_singleton.mp hx]
          exact ⟨_, .inr rfl, rfl⟩
      have hl5 := o5 l _ nld hl4
      refine ⟨d, l, n + 31 + 42 * (i : Int) + 1 + 1, often, sh, fs, rfl, p5, by omega, nld, hl5, by omega, len10, fb, fasc, of0, of1, hsh, fun H6 x ps o6 p6 tdx okp inf => ?_⟩
      refine n_of ⟨by show 4 ≤ sizeLine; decide, fun a ha => ?_⟩
      have e7 : Ex H6 (upd H6 a (.tup [.int k, .str hm, .str sh, x])) := Ex.new ha
      have td7 : Tk K (upd H6 a (.tup [.int k, .str hm, .str sh, x])) (.ref a) (dThing ⟨k, hm, sh, ps⟩) := .tup (upd_same) (.cons (.int k) (.cons (.str hm) (.cons (.str sh) (.cons (tdx.ex e7) .nil))))
      have o47 : Off d H' (upd H6 a (.tup [.int k, .str hm, .str sh, x])) := ((o4.trans o5).trans o6).trans (Off.of e7)
      have p7 := p6.ex e7
      generalize upd H6 a (.tup [.int k, .str hm, .str sh, x]) = H7 at e7 td7 o47 p7 ⊢
      have ht7 := o47 th _ nthd ht'
      have yl : ys.length = i := by
        rw [td.len, List.length_map, tsl]
      refine n_of ⟨th, ys, _, rfl, rfl, ht7, sz_lt (by omega), ?_⟩
      have k8 : KeepK K H7 (upd H7 th (.lst (ys ++ [.ref a]))) := .lst ht7 fun a o n h => by
        rw [upd_ne n]
        exact h
      refine ⟨_, _, ts ++ [⟨k, hm, sh, ps⟩], ys ++ [.ref a], rfl, (o.trans o47).fresh Hth, (p7.updD nthd).up (by push_cast; omega), ?_, upd_same, ?_, ?_, fun t ht => ?_⟩
      · rw [upd_ne nlt]
        exact o47 l _ nld hl'
      · rw [List.map_append]
        exact ((td.keep (keepOff p o47)).snoc td7).keep k8
      · rw [List.map_append, tn, take_one hk]
        rfl
      · rcases List.mem_append.mp ht with h | h
        · exact tok t h
        · rw [List.mem_singleton.mp h]
          exact ⟨⟨okp, kb.1, kb.2, hhm⟩, inf⟩
    · rintro σ' H' ⟨y6, y7, ts, ys, rfl, o, p, hl', ht', td, tn, tok⟩
      rw [List.length_map] at tn p
      rw [List.take_length] at tn
      have tsl : ts.length = fs.length := by
        rw [← tn, List.length_map]
      refine ret_of (tup_of (c_of (if_of (test_of (op_of (v_of rfl (lst_of (n_of ⟨Nat.zero_le _, fun e he => ⟨.list (fs.map .int), .list [], .lst (sq_of (Ex.new he _ _ hl')) (dp_ints fs), .lst (sq_of upd_same) .nil, ?_, by rfl, _, rfl, ?_⟩⟩))))))))
      · unfold SeqAt.shaped
        rw [PyData.canLay0, ints_lay, PyData.depth, ints_depth]
        rfl
      have eN : Ex H' (upd H' e (.lst [])) := Ex.new he
      have pN := p.ex eN
      have lN := eN _ _ hl'
      have tN := eN _ _ ht'
      have tdN := td.ex eN
      have oN := o.trans (Off.of eN)
      generalize upd H' e (.lst []) = H5 at eN pN lN tN tdN oN ⊢
      -- the end, from the roots
      have fin : ∀ (H6 : Hp) (x : V) (rs : List (Str × Int)), Off d H5 H6 → Pot H6 d (n + 550) → Tk K H6 x (.tuple (rs.map dRoot)) → ((rs = [] ∧ ts = []) ∨ RootsOk (ts.map Thing.n) rs) → ∀ (T : Hp → Prop), (∀ (H7 : Hp) (a : Addr), H7 a = none → True) → ∀ p1 : Addr, H6 p1 = none → ∀ p2 : Addr, (upd H6 p1 (.tup ys)) p2 = none → Q (.ref p2) (upd (upd H6 p1 (.tup ys)) p2 (.tup [x, .ref p1])) := by
        intro H6 x rs o6 p6 tx rk _ _ a1 h1 a2 h2
        have e1 : Ex H6 (upd H6 a1 (.tup ys)) := Ex.new h1
        have e2 : Ex (upd H6 a1 (.tup ys)) (upd (upd H6 a1 (.tup ys)) a2 (.tup [x, .ref a1])) := Ex.new h2
        refine q _ (.ref a2) ⟨rs, ts⟩ ((oN.trans o6).trans (Off.of (e1.trans e2))) ((p6.ex (e1.trans e2)).up (by omega)) ?_ ⟨by rw [tsl]; exact len10, fun t ht => (tok t ht).1, fun t ht => by rw [show (Shot.mk rs ts).things.map Thing.n = _ from tn]; exact (tok t ht).2, by rw [tn]; exact fasc, rk⟩
        refine .tup (upd_same) (.cons (tx.ex (e1.trans e2)) (.cons (.tup ((e2 _ _ upd_same)) ((tdN.keep (keepOff pN o6)).ex (e1.trans e2))) .nil))
      cases fs with
      | nil =>
        have ts0 : ts = [] := List.eq_nil_of_length_eq_zero tsl
        rw [show PyData.eqv (.list (([] : List Int).map .int)) (.list []) = true from rfl]
        rw [if_neg (show ¬ (!true) = true from Bool.false_ne_true)]
        refine tup_of (n_of ⟨Nat.zero_le _, fun a ha => ?_⟩)
        have eR : Ex H5 (upd H5 a (.tup [])) := Ex.new ha
        refine c_of (cb_of (c_of (v_of rfl (n_of ⟨th, ys, rfl, .inl ⟨sq_of (eR _ _ tN), fun a1 h1 => n_of ⟨by show 2 ≤ sizeLine; decide, fun a2 h2 => ?_⟩⟩⟩))))
        exact fin _ (.ref a) [] (Off.of eR) ((pN.ex eR).up (by show n + 31 + 42 * ((0 : Nat) : Int) ≤ n + 550; omega)) (.tup (upd_same) .nil) (.inl ⟨rfl, ts0⟩) (fun _ => True) (fun _ _ _ => trivial) a1 h1 a2 h2
      | cons z r =>
        rw [show PyData.eqv (.list ((z :: r).map .int)) (.list []) = false from rfl]
        rw [if_pos (show (!false) = true from rfl)]
        refine call_of (c_of (v_of rfl (c_of (v_of rfl (n_of ?_)))))
        refine ⟨d, l, _, z :: r, rfl, pN, by omega, nld, lN, by show 0 < r.length + 1; omega, len10, fb, fun H6 x rs A' W o6 p6 tx perm srt fo wm => ?_⟩
        refine c_of (cb_of (c_of (v_of rfl (n_of ⟨th, ys, rfl, .inl ⟨sq_of (o6 th _ nthd tN), fun a1 h1 => n_of ⟨by show 2 ≤ sizeLine; decide, fun a2 h2 => ?_⟩⟩⟩))))
        exact fin _ x rs o6 (p6.up (by omega)) tx (.inr ⟨⟨A', W, perm, by rw [tn]; exact fo, wm⟩, srt⟩) (fun _ => True) (fun _ _ _ => trivial) a1 h1 a2 h2
end
end Sn
/-! drawn snapshots are small -/
namespace Kn
open PySem PySem.Spec PyProof.Rows L2 Evl Gd Sn Qw
theorem bzi {i : Int} (h : 0 ≤ i ∧ i ≤ 200) : Bz 0 1 40 (.int i) := bz_int (by omega) (by decide) (Nat.le_refl _)
theorem bzs {z : Str} (h : z = "counted" ∨ z = "traced" ∨ z = "record" ∨ z = "map" ∨ z = "weak") : Bz 0 1 100 (.str z) := by
  have a : ∀ z ∈ (["counted", "traced", "record", "map", "weak"] : List Str), bt 0 (.str z) = true ∧ (PyData.str z).depth ≤ 1 ∧ (PyData.str z).shown.length ≤ 100 := by decide +kernel
  have m : z ∈ (["counted", "traced", "record", "map", "weak"] : List Str) := by
    simp only [List.mem_cons, List.not_mem_nil, or_false]
    exact h
  exact ⟨(a z m).1, (a z m).2.1, (a z m).2.2⟩
theorem bzl {m k : Nat} {xs : List PyData} (L : Nat) (h : ∀ x ∈ xs, Bz m k L x) (n : xs.length ≤ 401 + m) {N : Nat} (hn : xs.length * (L + 2) + 2 ≤ N) : Bz m (k + 1) N (.tuple xs) :=
  BzAll.tup ⟨fun x hx => (h x hx).f, fun x hx => (h x hx).d⟩ n (by
    have := shsum_le (L := L) fun x hx => (h x hx).l
    omega)
theorem bz_part {p : Part} (h : ∀ i ∈ partInts p, 0 ≤ i ∧ i ≤ 200) : Bz 0 2 100 (dPart p) := by
  cases p with
  | tgt n => exact (bzi (h n (by simp [partInts]))).up (Nat.le_refl _) (by decide) (by decide)
  | pair k v =>
    have hk := bzi (h k (by cases v <;> simp [partInts]))
    refine bzl 40 (fun x hx => ?_) (by show 2 ≤ _; omega) (by show 2 * 42 + 2 ≤ 100; decide)
    simp only [List.mem_cons, List.not_mem_nil, or_false] at hx
    rcases hx with rfl | rfl
    · exact hk
    · cases v with
      | none => exact ⟨rfl, by show PyData.depth .none ≤ 1; decide +kernel, by show (PyData.shown .none).length ≤ 40; decide +kernel⟩
      | some v => exact bzi (h v (by simp [partInts]))
theorem bz_thing {t : Thing} (h : ThingOk t) : Bz 0 4 5000 (dThing t) := by
  obtain ⟨⟨pl, sm, sh, _⟩, n0, n1, hh⟩ := h
  have bp : Bz 0 3 1100 (.tuple (t.parts.map dPart)) := bzl 100 (fun x hx => by
    obtain ⟨p, hp, rfl⟩ := List.mem_map.mp hx
    exact bz_part (sm p hp)) (by rw [List.length_map]; omega) (by rw [List.length_map]; omega)
  refine bzl 1100 (fun x hx => ?_) (by show 4 ≤ _; omega) (by show 4 * 1102 + 2 ≤ 5000; decide)
  simp only [List.mem_cons, List.not_mem_nil, or_false] at hx
  rcases hx with rfl | rfl | rfl | rfl
  · exact (bzi ⟨n0, n1⟩).up (Nat.le_refl _) (by decide) (by decide)
  · exact (bzs (hh.elim .inl fun z => .inr (.inl z))).up (Nat.le_refl _) (by decide) (by decide)
  · refine (bzs ?_).up (Nat.le_refl _) (by decide) (by decide)
    rcases sh with ⟨e, _⟩ | ⟨e, _⟩ | ⟨e, _⟩
    · exact .inr (.inr (.inl e))
    · exact .inr (.inr (.inr (.inl e)))
    · exact .inr (.inr (.inr (.inr e)))
  · exact bp
theorem bz_root {r : Str × Int} (h : RootOk r) : Bz 0 2 1500 (dRoot r) := by
  obtain ⟨h1, h2⟩ := h
  have hi := bzi h2
  have hz : Bz 0 1 700 (.str r.1) := by
    rcases h1 with h1 | ⟨w, hw, e⟩
    · have a : ∀ z ∈ names4, bt 0 (.str z) = true ∧ (PyData.str z).depth ≤ 1 ∧ (PyData.str z).shown.length ≤ 700 := by decide +kernel
      exact ⟨(a _ h1).1, (a _ h1).2.1, (a _ h1).2.2⟩
    · have wa : ∀ z ∈ words3, (TL.tl z).all (fun c => decide (c < 128)) = true ∧ z.length ≤ 5 := by decide +kernel
      obtain ⟨w1, w2⟩ := wa w hw
      have il := int_len40 (n := 0) (i := r.2) (by omega) (by decide)
      have ln : r.1.length ≤ 46 := by
        rw [e, Str.length_append, Str.length_append, show (" " : Str).length = 1 from by decide +kernel]
        omega
      refine bz_str (fun c hc => ?_) (by omega) (by omega) (Nat.le_refl _)
      rw [e, TL.tl_append, TL.tl_append] at hc
      rcases List.mem_append.mp hc with hc | hc
      · rcases List.mem_append.mp hc with hc | hc
        · exact of_decide_eq_true (List.all_eq_true.mp w1 c hc)
        · have : c ∈ [32] := hc
          rw [List.mem_singleton.mp this]
          decide
      · exact int_asc _ c hc
  refine bzl 700 (fun x hx => ?_) (by show 2 ≤ _; omega) (by show 2 * 702 + 2 ≤ 1500; decide)
  simp only [List.mem_cons, List.not_mem_nil, or_false] at hx
  rcases hx with rfl | rfl
  · exact hz
  · exact hi.up (Nat.le_refl _) (Nat.le_refl _) (by decide)
theorem flat_len {W : List (Str × List Int)} (h : ∀ z ∈ W, z.2.length ≤ 10) : (gripsOf W).length ≤ W.length * 10 := by
  induction W with
  | nil => exact Nat.zero_le _
  | cons z W ih =>
    have h1 := h z List.mem_cons_self
    have h2 := ih fun y m => h y (List.mem_cons_of_mem _ m)
    unfold gripsOf at h2 ⊢
    rw [List.flatMap_cons, List.length_append, List.length_map, List.length_cons]
    omega
theorem roots_ok {fs : List Int} {rs : List (Str × Int)} (h : RootsOk fs rs) (fl : fs.length ≤ 10) (fb : ∀ i ∈ fs, 0 ≤ i ∧ i ≤ 200) : rs.length ≤ 34 ∧ ∀ r ∈ rs, RootOk r := by
  obtain ⟨⟨A, W, perm, fo, wm⟩, _⟩ := h
  have al := fo.nm.length_le
  rw [List.length_map] at al
  have n4 : names4.length = 4 := rfl
  have wl : W.length = 3 := by
    have := congrArg List.length wm
    rw [List.length_map] at this
    exact this
  have gl := flat_len (W := W) fun z hz => Nat.le_trans (fo.gr z hz).length_le fl
  refine ⟨?_, fun r hr => ?_⟩
  · rw [perm.length_eq, List.length_append]
    omega
  · rcases List.mem_append.mp (perm.mem_iff.mp hr) with m | m
    · exact ⟨.inl (fo.nm.subset (List.mem_map.mpr ⟨r, m, rfl⟩)), fb _ (fo.nv r m)⟩
    · obtain ⟨z, hz, m⟩ := List.mem_flatMap.mp m
      obtain ⟨i, hi, rfl⟩ := List.mem_map.mp m
      exact ⟨.inr ⟨z.1, by rw [← wm]; exact List.mem_map.mpr ⟨z, hz, rfl⟩, rfl⟩, fb _ ((fo.gr z hz).subset hi)⟩
theorem bz_shot {s : Shot} (h : Drawn s) : Bz 0 6 300000 (dShot s) := by
  have bt' : Bz 0 5 51000 (.tuple (s.things.map dThing)) := bzl 5000 (fun x hx => by
    obtain ⟨t, ht, rfl⟩ := List.mem_map.mp hx
    exact bz_thing (h.th t ht)) (by rw [List.length_map]; have := h.len; omega) (by rw [List.length_map]; have := h.len; omega)
  have fl : (s.things.map Thing.n).length ≤ 10 := by rw [List.length_map]; exact h.len
  have fb : ∀ i ∈ s.things.map Thing.n, 0 ≤ i ∧ i ≤ 200 := fun i hi => by
    obtain ⟨t, ht, rfl⟩ := List.mem_map.mp hi
    exact ⟨(h.th t ht).2.1, (h.th t ht).2.2.1⟩
  have br : s.roots.length ≤ 34 ∧ ∀ r ∈ s.roots, RootOk r := by
    rcases h.rt with ⟨e, _⟩ | e
    · rw [e]
      exact ⟨Nat.zero_le _, fun r hr => nomatch hr⟩
    · exact roots_ok e fl fb
  have brt : Bz 0 3 52000 (.tuple (s.roots.map dRoot)) := bzl 1500 (fun x hx => by
    obtain ⟨r, hr, rfl⟩ := List.mem_map.mp hx
    exact bz_root (br.2 r hr)) (by rw [List.length_map]; omega) (by rw [List.length_map]; omega)
  refine bzl 52000 (fun x hx => ?_) (by show 2 ≤ _; omega) (by show 2 * 52002 + 2 ≤ 300000; decide)
  simp only [List.mem_cons, List.not_mem_nil, or_false] at hx
  rcases hx with rfl | rfl
  · exact brt.up (Nat.le_refl _) (by decide) (Nat.le_refl _)
  · exact bt'.up (Nat.le_refl _) (Nat.le_refl _) (by decide)
mutual
/-- a known value, off addresses that are lists -/
theorem _root_.Sn.Tk.avD {K : PySem.W.Frag} {H : Hp} {D : Addr → Prop} (hD : ∀ a, D a → ∃ zs, H a = some (.lst zs)) : ∀ {x : V} {e : PyData}, Tk K H x e → Av K D H x e
  | _, _, .non => .non
  | _, _, .int i => .int i
  | _, _, .str x => .str x
  | _, _, .tup h a => .tup (fun z => by obtain ⟨zs, hz⟩ := hD _ z; rw [h] at hz; cases hz) h (Sn.TkAll.avD hD a)
theorem _root_.Sn.TkAll.avD {K : PySem.W.Frag} {H : Hp} {D : Addr → Prop} (hD : ∀ a, D a → ∃ zs, H a = some (.lst zs)) : ∀ {xs : List V} {es : List PyData}, TkAll K H xs es → AvAll K D H xs es
  | _, _, .nil => .nil
  | _, _, .cons h a => .cons (Sn.Tk.avD hD h) (Sn.TkAll.avD hD a)
end
end Kn
/-! _law_right -/
namespace Kn
open PySem PySem.Spec PyProof.Rows L2 Evl Gd Sn Qw
abbrev sRight : Stmt := topS 38
abbrev nRight : List Str := ["_law_jar_here", "_law_shot_here", "_law_some", "_law_near", "_law_anchor", "_law_turn", "_law_bent_here", "_law_thing"]
theorem scRight : FnScope nRight ["_law_jar_here"] (defScope sRight) := ⟨rfl, rfl, rfl, by decide +kernel, rfl, by decide +kernel, by decide +kernel⟩
def spRight : L2.Sp := fun vs H Q _ => ∃ (d : Addr) (n : Int), vs = [.ref d] ∧ Pot H d n ∧ n ≤ 100000 ∧ ∀ H', Off d H H' → Pot H' d (n + 3000) → Q (.bl true) H'
def Gv (e : PyData) : Prop := Bz 10 40 10000000 e
theorem Bz.gv {m k L : Nat} {e : PyData} (h : Bz m k L e) (a : m ≤ 10) (b : k ≤ 40) (c : L ≤ 10000000) : Gv e := h.up a b c
abbrev first12 (e : PyData) (ds : List PyData) : List PyData := [e, .list ds, .tuple ds.reverse, .tuple (cutL ds none (some 1)), .tuple (ds ++ [.tuple []]), .none, .int 0, .str "", .tuple [], .tuple [.tuple [], .tuple []], .list [.tuple [], .tuple []], .tuple [.tuple [], .list []]]
theorem first_ok {ds : List PyData} (h : Bz 0 6 300000 (.tuple ds)) : ∀ e ∈ first12 (.tuple ds) ds, Gv e := by
  intro e he
  have small : ∀ e ∈ ([.none, .int 0, .str "", .tuple [], .tuple [.tuple [], .tuple []], .list [.tuple [], .tuple []], .tuple [.tuple [], .list []]] : List PyData), bt 0 e = true ∧ e.depth ≤ 4 ∧ e.shown.length ≤ 50 := by decide +kernel
  have cutT : Bz 1 19 601200 (.tuple (cutL ds none (some 1))) := by
    obtain ⟨k', hk, al, hs, hl⟩ := h.items
    have al1 : BzAll 0 k' (cutL ds none (some 1)) := al.sub fun y hy => cutL_mem hy
    exact (al1.tup (by have := cutL_len ds none (some 1); omega) (L := 300002) (by have := cutL_sum ds none (some 1); omega)).up (by decide) (by omega) (by decide)
  have catT : Bz 1 19 601200 (.tuple (ds ++ [.tuple []])) := by
    obtain ⟨k', hk, al, hs, hl⟩ := h.items
    have t0 : BzAll 1 18 [PyData.tuple []] := BzAll.one (L := 50) ⟨by decide +kernel, by decide +kernel, by decide +kernel⟩
    have s0 : shsum [PyData.tuple []] ≤ 50 := by decide +kernel
    exact ((al.up (by decide) (show k' ≤ 18 by omega)).app t0).tup (by rw [List.length_append]; show ds.length + 1 ≤ _; omega) (by rw [shsum_app]; omega)
  rcases List.mem_cons.mp he with rfl | he
  · exact h.gv (by decide) (by decide) (by decide)
  rcases List.mem_cons.mp he with rfl | he
  · exact (bendT_ok h (e' := .list ds) (.head _)).gv (by decide) (by decide) (by decide)
  rcases List.mem_cons.mp he with rfl | he
  · exact (bendT_ok h (e' := .tuple ds.reverse) (.tail _ (.tail _ (.head _)))).gv (by decide) (by decide) (by decide)
  rcases List.mem_cons.mp he with rfl | he
  · exact cutT.gv (by decide) (by decide) (by decide)
  rcases List.mem_cons.mp he with rfl | he
  · exact catT.gv (by decide) (by decide) (by decide)
  · obtain ⟨g1, g2, g3⟩ := small e he
    exact ⟨bt_mono (by decide) _ g1, by omega, by omega⟩
abbrev nearD (z : Str) : PyData := .tuple [.tuple [.tuple [.str z, .int 5]], .tuple [.tuple [.int 5, .str "traced", .str "record", .tuple []]]]
abbrev near19 : List Str := (["A", "Ab", "aB", "abcdefgh", "abcdefghi", "", "a1", "pin", "none", "None", "get", "pin 00", "hold 5"] : List Str) ++ (["queue", "queue 5", "hold 6", "Hold 5", "settle", "Settle"] : List Str)
theorem near_ok : ∀ z ∈ near19, Gv (nearD z) := by
  have a : ∀ z ∈ near19, bt 10 (nearD z) = true ∧ (nearD z).depth ≤ 40 ∧ (nearD z).shown.length ≤ 200 := by decide +kernel
  exact fun z hz => ⟨(a z hz).1, (a z hz).2.1, Nat.le_trans (a z hz).2.2 (by decide)⟩
section
variable {K : PySem.W.Frag} {D : Addr → Prop} {σ : L2.St} {H : Hp}
theorem all_vals {i j : Nat} {l : Addr} {ys : List V} {es : List PyData} {E : XK} {Q : VK} (e : σ[i]? = some (some (.ref l))) (hl : H l = some (.lst ys)) (av : AvAll K D H ys es) (ok : ∀ e ∈ es, Gv e) (few : ys.length ≤ 90000) (hw : ∀ y : V, wipe ((wipe σ [j]).set j (some y)) [j] = wipe σ [j]) (hj : ∀ y : V, ((wipe σ [j]).set j (some y))[j]? = some (some y))
    (q : ∀ H', Ex H H' → Q (.bl true) H') : tCB (rAll K) (tCons (tLc (iList K (tVar i)) (gName j) tYes (tCall (spValR K) [] E (tCons (tVar j) tNil)) [j]) tNil) σ H Q :=
  Sn.cb_of (Sn.c_of (lc_of (iL_of (Sn.v_of e ⟨l, rfl, ⟨_, sq_of hl⟩, fun B hB => by
    refine lc_list (xs := ys) (fun m H' => Ex H H' ∧ m ≤ ys.length ∧ H' B = some (.lst ((List.replicate m true).map V.bl))) ⟨Ex.new hB, Nat.zero_le _, upd_same⟩ (fun m H' _ h => sq_of (h.1 _ _ hl)) ?_ ?_
    · rintro m y H' hy ⟨e', hm, hb⟩
      obtain ⟨p, hp, ap⟩ := av.get hy
      have il := (List.getElem?_eq_some_iff.mp hy).1
      have g := ok p (List.mem_of_getElem? hp)
      refine ⟨hw y, ?_⟩
      dsimp only [tYes]
      rw [if_pos rfl]
      refine Sn.call_of (Sn.c_of (Sn.v_of (hj y) (Sn.n_of ⟨D, y, p, rfl, ap.kept e', Bz.tame g (by decide), Bz.shw g (by decide) (by decide) (by decide), fun H2 x2 => ?_⟩)))
      refine ⟨_, x2 _ _ hb, sz_lt (by rw [List.length_map, List.length_replicate]; omega), Ex.mut (e'.trans x2) hB, il, ?_⟩
      rw [upd_same, List.replicate_succ', List.map_append]
      rfl
    · rintro H2 ⟨e2, hm, hb⟩
      refine Sn.n_of ⟨B, _, rfl, sq_of hb, ?_⟩
      rw [show (List.replicate ys.length true).all id = true from by simp]
      exact q H2 e2⟩))))
end
section
variable {P : Program} {w : World} {K : PySem.W.Frag} {mg : Str → Option Value} {base : Heap}
theorem ok_right {f fT fO fS fB fV fD : Addr} {fd fdT fdO fdS fdB fdV fdD : FuncData} (F : Fun K "_law_right" "_law_right" sRight f fd) (FT : Fun K "_law_take" "_law_take" sTake fT fdT) (FO : Fun K "_law_of" "_law_of" sOf fO fdO) (FS : Fun K "_law_shot" "_law_shot" sShot fS fdS) (FB : Fun K "_law_bent" "_law_bent" sBent fB fdB) (FV : Fun K "_law_value_right" "_law_value_right" sValR fV fdV) (FD : Fun K "_law_odd" "_law_odd" sOdd fD fdD)
    (bT : Binds K fdT ["_law_jar_here", "_law_many"] []) (bO : Binds K fdO ["_law_jar_here", "_law_some"] []) (bS : Binds K fdS ["_law_jar_here", "_law_least", "_law_most", "_law_often"] []) (bB : Binds K fdB ["_law_jar_here", "_law_thing", "_law_deep"] []) (bV : Binds K fdV ["_law_thing"] []) (bD : Binds K fdD ["_law_jar_here"] [])
    (gT : mg "_law_take" = some (.ref fT)) (gS : mg "_law_shot" = some (.ref fS)) (gB : mg "_law_bent" = some (.ref fB)) (gV : mg "_law_value_right" = some (.ref fV)) (gD : mg "_law_odd" = some (.ref fD)) (mL : mg "len" = none) (mR : mg "range" = none) (mA : mg "all" = none) (mLi : mg "list" = none)
    (GS' : FnOk P w K mg base CX0 4 fS fdS ["_law_jar_here", "_law_least", "_law_most", "_law_often"] (spShot K)) (GB : FnOk P w K mg base CX0 9 fB fdB ["_law_jar_here", "_law_thing", "_law_deep"] (spBent K 6)) (GV : FnG P w K mg base CX0 6 fV fdV ["_law_thing"] (spValR K)) (GD' : FnOk P w K mg base CX0 3 fD fdD ["_law_jar_here"] (spOdd K)) : FnG P w K mg base CX0 10 f fd ["_law_jar_here"] spRight := by
  have GT : FnOk P w K mg base CX0 9 fT fdT ["_law_jar_here", "_law_many"] spTake := (ok_take FT).mono (by decide)
  have GS : FnOk P w K mg base CX0 9 fS fdS ["_law_jar_here", "_law_least", "_law_most", "_law_often"] (spShot K) := GS'.mono (by decide)
  have GD : FnOk P w K mg base CX0 9 fD fdD ["_law_jar_here"] (spOdd K) := GD'.mono (by decide)
  refine fng0_of F scRight (fun vs H Q E h => ?_) (fun cdv A outer s H vs Q E hr gd h => ?_)
  · obtain ⟨d, n, rfl, _⟩ := h
    rfl
  · obtain ⟨d, n, rfl, pot, hn, q⟩ := h
    refine ⟨_, pss_cons (ps_set (i := 1) scRight.nd rfl (.inl rfl) (pe_call GS hr (by rfl) gS FS.kp bS .nil pass0 (pa_cons (pv 0) <| pa_cons pe_int <| pa_cons pe_int <| pa_cons pe_int pa_nil))) <|
      pss_cons (ps_set (i := 2) scRight.nd rfl (.inl rfl) (pe_lst (pa_cons (pv 1) <| pa_cons (pe_callTy call_listN (by rfl) mLi (by decide +kernel) (pa_cons (pv 1) pa_nil)) <| pa_cons (pe_revT (pv 1)) <| pa_cons (pe_slice sl_w (pv 1) po_none (po_some pe_int)) <| pa_cons (pe_op op_catW (pv 1) (pe_tup (pa_cons (pe_tup pa_nil) pa_nil))) <| pa_cons pe_non <| pa_cons pe_int <| pa_cons pe_str <| pa_cons (pe_tup pa_nil) <| pa_cons (pe_tup (pa_cons (pe_tup pa_nil) <| pa_cons (pe_tup pa_nil) pa_nil)) <| pa_cons (pe_lstN (pa_cons (pe_tup pa_nil) <| pa_cons (pe_tup pa_nil) pa_nil)) <| pa_cons (pe_tup (pa_cons (pe_tup pa_nil) <| pa_cons (pe_lstN pa_nil) pa_nil)) pa_nil))) <|
      pss_cons (ps_expr (pe_bm PySem.F.plainAttrs_list PySem.F.slot_list_append PySem.F.type_list_append mt_append (pv 2) (pa_cons (pe_call GD hr (by rfl) gD FD.kp bD .nil pass0 (pa_cons (pv 0) pa_nil)) pa_nil))) <|
      pss_cons (ps_set (i := 3) scRight.nd rfl (.inl rfl) (pe_lst (pa_cons pe_str <| pa_cons pe_str <| pa_cons pe_str <| pa_cons pe_str <| pa_cons pe_str <| pa_cons pe_str <| pa_cons pe_str <| pa_cons pe_str <| pa_cons pe_str <| pa_cons pe_str <| pa_cons pe_str <| pa_cons pe_str <| pa_cons pe_str pa_nil))) <|
      pss_cons (ps_for PassesOwn.never rfl (pi_list (pe_op op_cat (pv 3) (pe_lst (pa_cons pe_str <| pa_cons pe_str <| pa_cons pe_str <| pa_cons pe_str <| pa_cons pe_str <| pa_cons pe_str pa_nil)))) (pg_name (i := 4) scRight.nd rfl (.inl rfl))
        (pss_one (ps_expr (pe_bm PySem.F.plainAttrs_list PySem.F.slot_list_append PySem.F.type_list_append mt_append (pv 2) (pa_cons (pe_tup (pa_cons (pe_tup (pa_cons (pe_tup (pa_cons (pv 4) <| pa_cons pe_int pa_nil)) pa_nil)) <| pa_cons (pe_tup (pa_cons (pe_tup (pa_cons pe_int <| pa_cons pe_str <| pa_cons pe_str <| pa_cons (pe_tup pa_nil) pa_nil)) pa_nil)) pa_nil)) pa_nil))))) <|
      pss_cons (ps_for PassesOwn.never rfl (pi_range1 (by rfl) mR (pa_cons pe_int pa_nil)) (pg_name (i := 5) scRight.nd rfl (.inl rfl))
        (pss_cons (ps_set (i := 6) scRight.nd rfl (.inl rfl) (pe_call GB hr (by rfl) gB FB.kp bB .nil pass0 (pa_cons (pv 0) <| pa_cons (pv 1) <| pa_cons pe_int pa_nil))) <|
         pss_one (ps_expr (pe_bm PySem.F.plainAttrs_list PySem.F.slot_list_append PySem.F.type_list_append mt_append (pv 2) (pa_cons (pe_ifExp (pt_cmpR op_eq (pe_call GT hr (by rfl) gT FT.kp bT .nil pass0 (pa_cons (pv 0) <| pa_cons pe_int pa_nil)) pe_int (nomark _)) (pe_call GB hr (by rfl) gB FB.kp bB .nil pass0 (pa_cons (pv 0) <| pa_cons (pv 6) <| pa_cons pe_int pa_nil)) (pv 6)) pa_nil))))) <|
      pss_one (ps_ret (pe_callB (cr_all rfl) (by rfl) mA (by decide +kernel) (pa_cons (pe_lc (own := [("_law_thing", 7)]) (g := gName 7) (tt := tYes) (te := tCall (spValR K) [] E0 (tCons (tVar 7) tNil)) rfl scRight.nd (pi_list (pv 2)) (blkOk_by (N := nRight) (sc := defScope sRight) (by decide +kernel))
        (fun _ _ _ _ _ => pg_name (i := 7) scRight.nd rfl (.inl rfl)) (fun _ _ _ _ _ => pts_nil) (fun _ _ _ _ _ => pe_callG GV (hr.mono (by decide)) gd (by rfl) gV FV.kp bV .nil pass0 (pa_cons (pv 7) pa_nil))) pa_nil))), ?_⟩
    refine Sn.seq_of (Sn.asg_of (Sn.call_of (Sn.c_of (Sn.v_of rfl (Sn.c_of (Sn.k_of (Sn.c_of (Sn.k_of (Sn.c_of (Sn.k_of (Sn.n_of ⟨d, n, 3, rfl, pot, by omega, by decide, by decide, fun H1 x s o1 p1 tx dr => ?_⟩)))))))))))
    have bs : Bz 0 6 300000 (dShot s) := bz_shot dr
    have isl : ∃ zs, H1 d = some (.lst zs) := by
      obtain ⟨g, b, m, h0, _⟩ := p1
      exact ⟨_, h0⟩
    have ax : Av K (· = d) H1 x (dShot s) := tx.avD fun a e => by rw [show a = d from e]; exact isl
    obtain ⟨ds, eds⟩ : ∃ ds, dShot s = .tuple ds := ⟨_, rfl⟩
    rw [eds] at bs ax
    clear tx dr eds
    have dl := (bs.items).choose_spec.2.2.2
    dsimp only
    have vx : Vl K (· = d) [some (.ref d), some x, none, none, none, none, none, none] H1 (tVar 1) (.tuple ds) := vl_var rfl ax
    have v12 : VlA K (· = d) [some (.ref d), some x, none, none, none, none, none, none] H1 _ (first12 (.tuple ds) ds) := vl_cons vx <| vl_cons (vl_listN vx) <| vl_cons (vl_rev vx (by omega)) <| vl_cons (vl_to vx fun _ _ q => Sn.k_of q) <| vl_cons (vl_cat vx (vl_tup (vl_cons (vl_tup vl_nil (by decide)) vl_nil) (by decide)) (by show ds.length + 1 ≤ _; omega)) <| vl_cons vl_non <| vl_cons (vl_int 0) <| vl_cons (vl_str "") <| vl_cons (vl_tup vl_nil (by decide)) <| vl_cons (vl_tup (vl_cons (vl_tup vl_nil (by decide)) <| vl_cons (vl_tup vl_nil (by decide)) vl_nil) (by decide)) <| vl_cons (vl_lst (vl_cons (vl_tup vl_nil (by decide)) <| vl_cons (vl_tup vl_nil (by decide)) vl_nil) (by decide)) <| vl_cons (vl_tup (vl_cons (vl_tup vl_nil (by decide)) <| vl_cons (vl_lst vl_nil (by decide)) vl_nil) (by decide)) vl_nil
    refine Sn.seq_of (Sn.asg_of (Sn.lst_of (v12 H1 _ (Ex.refl H1) (fun a e => .inl e) (held_pot p1) _ fun H2 ys x2 av => ⟨by rw [av.len]; show 12 ≤ sizeLine; decide, fun l hl => ?_⟩)))
    have y12 : ys.length = 12 := av.len
    have nl : l ≠ d := (p1.ex x2).ne hl
    have p2 := (p1.ex x2).ex (Ex.new (o := .lst ys) hl)
    have hl0 : H l = none := by
      cases e : H l with
      | none => rfl
      | some o =>
        have := x2 _ _ (o1 l o nl e)
        rw [hl] at this
        cases this
    have o2 : Off d H (upd H2 l (.lst ys)) := o1.trans (Off.of (x2.trans (Ex.new hl)))
    have h2 : (upd H2 l (.lst ys)) l = some (.lst ys) := upd_same
    let D : Addr → Prop := fun a => a = d ∨ a = l
    have dD : D d := .inl rfl
    have grow : ∀ {H' : Hp}, H' l = none → ∀ a, D a → (· = d) a ∨ H' a = none := fun h a e => e.elim .inl fun e => .inr (by rw [e]; exact h)
    have av2 : AvAll K D (upd H2 l (.lst ys)) ys (first12 (.tuple ds) ds) := (av.grow (grow hl)).keep fun a o na ha => by
      rw [upd_ne fun e => na (.inr e)]
      exact ha
    have ax2 : Av K D (upd H2 l (.lst ys)) x (.tuple ds) := ((ax.keepE x2).grow (grow hl)).keep fun a o na ha => by
      rw [upd_ne fun e => na (.inr e)]
      exact ha
    have held : ∀ {G : Hp} {n' : Int} {zs : List V}, Pot G d n' → G l = some (.lst zs) → HeldV D G := fun p h a e z => by
      rcases e with e | e
      · exact held_pot p a e z
      · rw [e, h] at z
        cases z
    have gr : ∀ {G : Hp} (a : Addr), D a → D a ∨ G a = none := fun a e => .inl e
    -- what holds of the list
    let St : Hp → Nat → Int → Prop := fun G m n' => Off d H G ∧ Pot G d n' ∧ Av K D G x (.tuple ds) ∧ ∃ ys es, G l = some (.lst ys) ∧ AvAll K D G ys es ∧ (∀ e ∈ es, Gv e) ∧ ys.length = m
    have push : ∀ {G G' : Hp} {m : Nat} {n' n2 : Int} {y : V} {e : PyData}, St G m n' → Off d G G' → Pot G' d n2 → Av K D G' y e → Gv e → m ≤ 1000 → ∃ zs, G' l = some (.lst zs) ∧ zs.length < sizeLine ∧ St (upd G' l (.lst (zs ++ [y]))) (m + 1) n2 := fun {G G' m n' n2 y e} st o p ay g hm => by
      obtain ⟨o0, p0, axG, ys, es, hG, avs, ok, ln⟩ := st
      have b : Byd D G (upd G' l (.lst (ys ++ [y]))) := fun a u na ha => by
        rw [upd_ne fun e => na (.inr e)]
        exact o a u (fun e => na (.inl e)) ha
      have b' : Byd D G' (upd G' l (.lst (ys ++ [y]))) := fun a u na ha => by
        rw [upd_ne fun e => na (.inr e)]
        exact ha
      refine ⟨ys, o l _ nl hG, sz_lt (by omega), (o0.trans o).fresh hl0, p.updD nl, axG.keep b, ys ++ [y], es ++ [e], upd_same, AvAll.app (.cons (ay.keep b') .nil) (avs.keep b), fun e' he' => ?_, by rw [List.length_append, ln]; rfl⟩
      rcases List.mem_append.mp he' with h | h
      · exact ok e' h
      · rw [List.mem_singleton.mp h]
        exact g
    have s12 : St (upd H2 l (.lst ys)) 12 (n + 600) := ⟨o2, p2, ax2, ys, _, h2, av2, first_ok bs, y12⟩
    generalize upd H2 l (.lst ys) = G0 at s12 ⊢
    clear av2 ax2 p2 o2 h2 av v12 vx ax p1 o1 x2 hl isl
    dsimp only
    -- odd
    have st := s12
    obtain ⟨o0, p0, axG, ys0, es0, hG, avs, ok, ln⟩ := s12
    refine Sn.seq_of ⟨.ref l, rfl, .inl ⟨rfl, _, sq_of hG⟩, ?_⟩
    refine Sn.c_of (Sn.call_of (Sn.c_of (Sn.v_of rfl (Sn.n_of ⟨D, d, _, rfl, dD, held p0 hG, p0, by omega, fun G1 y e oG pG ay od => ?_⟩))))
    obtain ⟨zs, hz, zf, s13⟩ := push st oG pG ay (Bz.gv od (by decide) (by decide) (by decide)) (by decide)
    refine Sn.n_of ⟨l, zs, _, rfl, rfl, hz, zf, ?_⟩
    generalize upd G1 l (.lst (zs ++ [y])) = G2 at s13 ⊢
    clear st hG avs ok ln axG p0 o0 hz zf ay od oG pG
    dsimp only
    refine Sn.seq_of (Sn.asg_of (Sn.lst_of (Sn.c_of (Sn.k_of (Sn.c_of (Sn.k_of (Sn.c_of (Sn.k_of (Sn.c_of (Sn.k_of (Sn.c_of (Sn.k_of (Sn.c_of (Sn.k_of (Sn.c_of (Sn.k_of (Sn.c_of (Sn.k_of (Sn.c_of (Sn.k_of (Sn.c_of (Sn.k_of (Sn.c_of (Sn.k_of (Sn.c_of (Sn.k_of (Sn.c_of (Sn.k_of (Sn.n_of ⟨by show 13 ≤ sizeLine; decide, fun l1 hl1 => ?_⟩)))))))))))))))))))))))))))))
    dsimp only
    refine Sn.seq_of (for_of (iL_of (Sn.op_of (Sn.v_of rfl (Sn.lst_of (Sn.c_of (Sn.k_of (Sn.c_of (Sn.k_of (Sn.c_of (Sn.k_of (Sn.c_of (Sn.k_of (Sn.c_of (Sn.k_of (Sn.c_of (Sn.k_of (Sn.n_of ⟨by show 6 ≤ sizeLine; decide, fun l2 hl2 => ?_⟩))))))))))))))))))
    refine ⟨l1, l2, _, _, rfl, rfl, (Ex.new hl2) _ _ upd_same, upd_same, by show 13 + 6 ≤ sizeLine; decide, fun l3 hl3 => ?_⟩
    have stx : ∀ {G G' : Hp} {m : Nat} {n' : Int}, St G m n' → Ex G G' → St G' m n' := fun ⟨o0, p0, axG, ys, es, hG, avs, ok, ln⟩ e => ⟨o0.trans (Off.of e), p0.ex e, axG.keepE e, ys, es, e _ _ hG, avs.keepE e, ok, ln⟩
    have stn : ∀ {G : Hp} {m : Nat} {n1 n2 : Int}, St G m n1 → n1 ≤ n2 → St G m n2 := fun ⟨o0, p0, r⟩ e => ⟨o0, p0.up e, r⟩
    have x3 := ((Ex.new (o := .lst [V.str "A", V.str "Ab", V.str "aB", V.str "abcdefgh", V.str "abcdefghi", V.str "", V.str "a1", V.str "pin", V.str "none", V.str "None", V.str "get", V.str "pin 00", V.str "hold 5"]) hl1).trans (Ex.new (o := .lst [V.str "queue", V.str "queue 5", V.str "hold 6", V.str "Hold 5", V.str "settle", V.str "Settle"]) hl2)).trans (Ex.new (o := .lst ([V.str "A", V.str "Ab", V.str "aB", V.str "abcdefgh", V.str "abcdefghi", V.str "", V.str "a1", V.str "pin", V.str "none", V.str "None", V.str "get", V.str "pin 00", V.str "hold 5"] ++ [V.str "queue", V.str "queue 5", V.str "hold 6", V.str "Hold 5", V.str "settle", V.str "Settle"])) hl3)
    have h3 : (upd (upd (upd G2 l1 (.lst [V.str "A", V.str "Ab", V.str "aB", V.str "abcdefgh", V.str "abcdefghi", V.str "", V.str "a1", V.str "pin", V.str "none", V.str "None", V.str "get", V.str "pin 00", V.str "hold 5"])) l2 (.lst [V.str "queue", V.str "queue 5", V.str "hold 6", V.str "Hold 5", V.str "settle", V.str "Settle"])) l3 (.lst ([V.str "A", V.str "Ab", V.str "aB", V.str "abcdefgh", V.str "abcdefghi", V.str "", V.str "a1", V.str "pin", V.str "none", V.str "None", V.str "get", V.str "pin 00", V.str "hold 5"] ++ [V.str "queue", V.str "queue 5", V.str "hold 6", V.str "Hold 5", V.str "settle", V.str "Settle"]))) l3 = some (.lst (near19.map V.str)) := upd_same
    have s3 := stx s13 x3
    have nl3 : l3 ≠ l ∧ l3 ≠ d := by
      obtain ⟨o0, p0, axG, ys, es, hG, _⟩ := stx s13 ((Ex.new (o := .lst [V.str "A", V.str "Ab", V.str "aB", V.str "abcdefgh", V.str "abcdefghi", V.str "", V.str "a1", V.str "pin", V.str "none", V.str "None", V.str "get", V.str "pin 00", V.str "hold 5"]) hl1).trans (Ex.new (o := .lst [V.str "queue", V.str "queue 5", V.str "hold 6", V.str "Hold 5", V.str "settle", V.str "Settle"]) hl2))
      exact ⟨fun e => (by rw [e, hG] at hl3; cases hl3), p0.ne hl3⟩
    generalize upd (upd (upd G2 l1 (.lst [V.str "A", V.str "Ab", V.str "aB", V.str "abcdefgh", V.str "abcdefghi", V.str "", V.str "a1", V.str "pin", V.str "none", V.str "None", V.str "get", V.str "pin 00", V.str "hold 5"])) l2 (.lst [V.str "queue", V.str "queue 5", V.str "hold 6", V.str "Hold 5", V.str "settle", V.str "Settle"])) l3 (.lst ([V.str "A", V.str "Ab", V.str "aB", V.str "abcdefgh", V.str "abcdefghi", V.str "", V.str "a1", V.str "pin", V.str "none", V.str "None", V.str "get", V.str "pin 00", V.str "hold 5"] ++ [V.str "queue", V.str "queue 5", V.str "hold 6", V.str "Hold 5", V.str "settle", V.str "Settle"])) = G3 at s3 h3 ⊢
    clear x3 hl1 hl2 hl3 s13
    refine ⟨l3, rfl, ⟨_, sq_of h3⟩, for_list (K := K) (a := l3) (xs := near19.map V.str) (fun i σ' G => ∃ y4, σ' = [some (.ref d), some x, some (.ref l), some (.ref l1), y4, none, none, none] ∧ St G (13 + i) (n + 611) ∧ G l3 = some (.lst (near19.map V.str))) ⟨none, rfl, stn s3 (by omega), h3⟩ (fun i σ' G _ ⟨_, _, _, h⟩ => sq_of h) ?_ ?_⟩
    · rintro i xv σ' G hx ⟨y4, rfl, st, h3⟩
      rw [List.getElem?_map] at hx
      obtain ⟨z, hz, rfl⟩ := Option.map_eq_some_iff.mp hx
      have il : i < 19 := (List.getElem?_eq_some_iff.mp hz).1
      dsimp only [gName]
      have st' := st
      obtain ⟨o0, p0, axG, ys, es, hG, avs, ok, ln⟩ := st'
      refine ⟨.ref l, rfl, .inl ⟨rfl, _, sq_of hG⟩, ?_⟩
      have vN : ∀ {y}, Vl K D [some (.ref d), some x, some (.ref l), some (.ref l1), some (.str z), none, none, y] G _ (nearD z) := fun {y} => vl_tup (vl_cons (vl_tup (vl_cons (vl_tup (vl_cons (vl_var (i := 4) rfl (.str z)) <| vl_cons (vl_int 5) vl_nil) (by show 2 ≤ 100; decide)) vl_nil) (by show 1 ≤ 100; decide)) <| vl_cons (vl_tup (vl_cons (vl_tup (vl_cons (vl_int 5) <| vl_cons (vl_str "traced") <| vl_cons (vl_str "record") <| vl_cons (vl_tup vl_nil (by decide)) vl_nil) (by decide)) vl_nil) (by decide)) vl_nil) (by show 2 ≤ 100; decide)
      refine Sn.c_of (vN G D (Ex.refl G) gr (held p0 hG) _ fun G1 y x1 ay => ?_)
      obtain ⟨zs, hz', zf, s'⟩ := push st (Off.of x1) (p0.ex x1) ay (near_ok z (List.mem_of_getElem? hz)) (by omega)
      refine Sn.n_of ⟨l, zs, _, rfl, rfl, hz', zf, _, rfl, s', ?_⟩
      rw [upd_ne nl3.1]
      exact x1 _ _ h3
    · rintro σ' G ⟨y4, rfl, st, _⟩
      dsimp only
      have st : St G 32 (n + 611) := st
      refine Sn.seq_of (for_of (r1_of (Sn.c_of (Sn.k_of (Sn.n_of ⟨16, rfl, by decide, by decide, for_range (lo := 0) (n := 16) (fun i σ' G => ∃ y4 y5 y6, σ' = [some (.ref d), some x, some (.ref l), some (.ref l1), y4, y5, y6, none] ∧ St G (32 + i) (n + 611 + 80 * (i : Int))) ⟨_, _, _, rfl, stn st (by omega)⟩ ?_ ?_⟩)))))
      · rintro i σ' G hi ⟨y4, y5, y6, rfl, st⟩
        dsimp only [gName]
        have st' := st
        obtain ⟨o0, p0, axG, ys, es, hG, avs, ok, ln⟩ := st'
        refine Sn.seq_of (Sn.asg_of (Sn.call_of (Sn.c_of (Sn.v_of rfl (Sn.c_of (Sn.v_of rfl (Sn.c_of (Sn.k_of (Sn.n_of ⟨D, d, _, x, _, 0, 6, 300000, rfl, dD, held p0 hG, p0, by push_cast; omega, axG, bs, by decide, fun G1 b e1 o1 p1 ab bb => ?_⟩)))))))))
        dsimp only
        refine ⟨.ref l, rfl, .inl ⟨rfl, _, sq_of (o1 l _ nl hG)⟩, ?_⟩
        refine Sn.c_of (if_of (Sn.test_of (Sn.op_of (Sn.rd_take (ev_var rfl) ev_c p1 (by push_cast; omega) (by decide) (by decide) fun G2 r o2 p2 r0 r1 => Sn.k_of ⟨rfl, _, rfl, ?_⟩))))
        by_cases c : V.int r = V.int 0
        · rw [decide_eq_true c, if_pos rfl]
          refine Sn.call_of (Sn.c_of (Sn.v_of rfl (Sn.c_of (Sn.v_of rfl (Sn.c_of (Sn.k_of (Sn.n_of ⟨D, d, _, b, e1, _, _, _, rfl, dD, held p2 ((o1.trans o2) l _ nl hG), p2, by push_cast; omega, ab.keep (bydo dD o2), bb, by decide, fun G3 b2 e2 o3 p3 ab2 bb2 => ?_⟩)))))))
          obtain ⟨zs, hz', zf, s'⟩ := push st ((o1.trans o2).trans o3) p3 ab2 (Bz.gv bb2 (by decide) (by decide) (by decide)) (by omega)
          exact Sn.n_of ⟨l, zs, _, rfl, rfl, hz', zf, _, _, _, rfl, stn s' (by push_cast; omega)⟩
        · rw [decide_eq_false c, if_neg Bool.false_ne_true]
          refine Sn.v_of rfl ?_
          obtain ⟨zs, hz', zf, s'⟩ := push st (o1.trans o2) p2 (ab.keep (bydo dD o2)) (Bz.gv bb (by decide) (by decide) (by decide)) (by omega)
          exact Sn.n_of ⟨l, zs, _, rfl, rfl, hz', zf, _, _, _, rfl, stn s' (by push_cast; omega)⟩
      · rintro σ' G ⟨y4, y5, y6, rfl, o0, p0, axG, ys, es, hG, avs, ok, ln⟩
        dsimp only
        exact Sn.ret_of (all_vals rfl hG avs ok (by omega) (fun _ => rfl) (fun _ => rfl) fun H' e' => q H' (o0.trans (Off.of e')) ((p0.ex e').up (by push_cast; omega)))
end
end Kn
/-! law -/
namespace Kn
open PySem PySem.Spec PyProof.Rows L2 Evl Gd Sn Qw
abbrev sLaw : Stmt := topS 39
abbrev nLaw : List Str := ["_law_script", "_law_many", "_law_one", "_law_k", "_law_jar_here", "_law_turn"]
theorem scLaw : FnScope nLaw ["_law_script"] (defScope sLaw) := ⟨rfl, rfl, rfl, by decide +kernel, rfl, by decide +kernel, by decide +kernel⟩
def spLaw (K : PySem.W.Frag) : L2.Sp := fun vs H Q _ => ∃ (a : Addr) (ns : List Int), vs = [.ref a] ∧ SqL K H a (ns.map V.int) ∧ ns.length ≤ 63 ∧ ∀ H', Q (.bl true) H'
theorem off_ex {d : Addr} {H H' : Hp} (o : Off d H H') (h : H d = none) : Ex H H' := fun a u ha => o a u (ne_of_none ha h) ha
abbrev rowD (j : Nat) : PyData := .tuple [.int (0 + (j : Int)), .str "traced", .str "record", .tuple []]
abbrev bigD (m : Nat) : PyData := .tuple [.tuple [], .tuple ((List.range m).map rowD)]
theorem big_ok {m : Nat} (h : m ≤ 401) : Gv (bigD m) := by
  have row : ∀ j < m, Bz 0 2 1000 (rowD j) := fun j hj => bzl 100 (fun x hx => by
    simp only [List.mem_cons, List.not_mem_nil, or_false] at hx
    rcases hx with rfl | rfl | rfl | rfl
    · exact (bz_int (m := 0) (k := 1) (i := 0 + (j : Int)) (by omega) (by decide) (Nat.le_refl 40)).up (Nat.le_refl _) (Nat.le_refl _) (by decide)
    · exact bzs (.inr (.inl rfl))
    · exact bzs (.inr (.inr (.inl rfl)))
    · exact ⟨by decide +kernel, by decide +kernel, by decide +kernel⟩) (by show 4 ≤ _; omega) (by show 4 * 102 + 2 ≤ 1000; decide)
  have t : Bz 0 3 500000 (.tuple ((List.range m).map rowD)) := bzl 1000 (fun x hx => by
    obtain ⟨j, hj, rfl⟩ := List.mem_map.mp hx
    exact row j (List.mem_range.mp hj)) (by rw [List.length_map, List.length_range]; omega) (by rw [List.length_map, List.length_range]; omega)
  have top : Bz 0 4 2000000 (bigD m) := bzl 500000 (fun x hx => by
    simp only [List.mem_cons, List.not_mem_nil, or_false] at hx
    rcases hx with rfl | rfl
    · exact ⟨by decide +kernel, by decide +kernel, Nat.le_trans (show (PyData.tuple []).shown.length ≤ 10 by decide +kernel) (by decide)⟩
    · exact t) (by show 2 ≤ _; omega) (by show 2 * 500002 + 2 ≤ 2000000; decide)
  exact top.gv (by decide) (by decide) (by decide)
section
variable {P : Program} {w : World} {K : PySem.W.Frag} {mg : Str → Option Value} {base : Heap}
theorem ok_law {f fJ fR fV : Addr} {fd fdJ fdR fdV : FuncData} (F : Fun K "law" "law" sLaw f fd) (FJ : Fun K "_law_jar" "_law_jar" sSource fJ fdJ) (FR : Fun K "_law_right" "_law_right" sRight fR fdR) (FV : Fun K "_law_value_right" "_law_value_right" sValR fV fdV)
    (bJ : Binds K fdJ ["_law_script", "_law_k"] []) (bR : Binds K fdR ["_law_jar_here"] []) (bV : Binds K fdV ["_law_thing"] [])
    (gJ : mg "_law_jar" = some (.ref fJ)) (gR : mg "_law_right" = some (.ref fR)) (gV : mg "_law_value_right" = some (.ref fV))
    (mL : mg "len" = none) (mR : mg "range" = none) (mX : mg "max" = none) (mN : mg "min" = none) (mB : mg "abs" = none) (mI : mg "int" = none) (mA : mg "all" = none) (mT : mg "tuple" = none)
    (GR : FnG P w K mg base CX0 10 fR fdR ["_law_jar_here"] spRight) (GV : FnG P w K mg base CX0 6 fV fdV ["_law_thing"] (spValR K)) : FnG P w K mg base CX0 11 f fd ["_law_script"] (spLaw K) := by
  have GJ : FnOk P w K mg base CX0 10 fJ fdJ ["_law_script", "_law_k"] (spSource K) := (ok_source FJ mL mB mI).mono (by decide)
  refine fng0_of F scLaw (fun vs H Q E h => ?_) (fun cdv A outer s H vs Q E hr gd h => ?_)
  · obtain ⟨a, ns, rfl, _⟩ := h
    rfl
  · obtain ⟨a, ns, rfl, hS, hlen, q⟩ := h
    refine ⟨_, pss_cons (ps_for PassesOwn.never rfl (pi_tup (pe_tup (pa_cons pe_int (pa_cons pe_int pa_nil)))) (pg_name (i := 1) scLaw.nd rfl (.inl rfl))
        (pss_one (ps_if (pt_not (pt_val (pe_callG GV (hr.mono (by decide)) gd (by rfl) gV FV.kp bV .nil pass0 (pa_cons (pe_tup (pa_cons (pe_tup pa_nil) <| pa_cons (pe_callTy call_tuple_of (by rfl) mT (by decide +kernel) (pa_cons (pe_lc (own := [("_law_one", 2)]) (g := gName 2) (tt := tYes) (te := tTup (tCons (tVar 2) <| tCons (tC (.str "traced")) <| tCons (tC (.str "record")) <| tCons (tTup tNil) tNil)) rfl scLaw.nd (pi_range1 (by rfl) mR (pa_cons (pv 1) pa_nil)) (blkOk_by (N := nLaw) (sc := defScope sLaw) (by decide +kernel))
          (fun _ _ _ _ _ => pg_name (i := 2) scLaw.nd rfl (.inl rfl)) (fun _ _ _ _ _ => pts_nil) (fun _ _ _ _ _ => pe_tup (pa_cons (pv 2) <| pa_cons pe_str <| pa_cons pe_str <| pa_cons (pe_tup pa_nil) pa_nil))) pa_nil)) pa_nil)) pa_nil)))) (pss_one (ps_ret pe_bl)) pss_nil))) <|
      pss_cons (ps_for PassesOwn.never rfl (pi_range1 (by rfl) mR (pa_cons (pe_callB (call_max2 rfl) (by rfl) mX boot_max (pa_cons pe_int (pa_cons (pe_callB (call_min2 rfl) (by rfl) mN boot_min (pa_cons pe_int (pa_cons (pe_callB call_len_seq (by rfl) mL PySem.boot_len (pa_cons (pv 0) pa_nil)) pa_nil))) pa_nil))) pa_nil)) (pg_name (i := 3) scLaw.nd rfl (.inl rfl))
        (pss_cons (ps_set (i := 4) scLaw.nd rfl (.inr rfl) (pe_call GJ hr (by rfl) gJ FJ.kp bJ .nil pass0 (pa_cons (pv 0) <| pa_cons (pv 3) pa_nil))) <|
         pss_one (ps_if (pt_not (pt_val (pe_callB (cr_all rfl) (by rfl) mA (by decide +kernel) (pa_cons (pe_lc (own := [("_law_turn", 5)]) (g := gName 5) (tt := tYes) (te := tCall spRight [] E0 (tCons (tVar 4) tNil)) rfl scLaw.nd (pi_range1 (by rfl) mR (pa_cons pe_int pa_nil)) (blkOk_by (N := nLaw) (sc := defScope sLaw) (by decide +kernel))
          (fun _ _ _ _ _ => pg_name (i := 5) scLaw.nd rfl (.inl rfl)) (fun _ _ _ _ _ => pts_nil) (fun _ _ _ _ _ => pe_callG GR hr gd (by rfl) gR FR.kp bR .nil pass0 (pa_cons (pv 4) pa_nil))) pa_nil)))) (pss_one (ps_ret pe_bl)) pss_nil))) <|
      pss_one (ps_ret pe_bl), ?_⟩
    refine Sn.seq_of (for_of (iT_of (Sn.tup_of (Sn.c_of (Sn.k_of (Sn.c_of (Sn.k_of (Sn.n_of ⟨by show 2 ≤ sizeLine; decide, fun t ht => ?_⟩))))))))
    have xt : Ex H (upd H t (.tup [V.int 400, V.int 401])) := Ex.new ht
    have ht1 : (upd H t (.tup [V.int 400, V.int 401])) t = some (.tup [V.int 400, V.int 401]) := upd_same
    generalize upd H t (.tup [V.int 400, V.int 401]) = H1 at xt ht1 ⊢
    refine ⟨t, rfl, ⟨_, st_of ht1⟩, for_tup (K := K) (a := t) (xs := [V.int 400, V.int 401]) (fun i σ' G => ∃ y1, σ' = [some (.ref a), y1, none, none, none, none] ∧ Ex H1 G) ⟨none, rfl, Ex.refl H1⟩ (fun i σ' G _ ⟨_, _, e⟩ => st_of (e _ _ ht1)) ?_ ?_⟩
    · rintro i xv σ' G hx ⟨y1, rfl, eG⟩
      obtain ⟨m, hm, rfl⟩ : ∃ m : Nat, m ≤ 401 ∧ xv = .int (m : Int) := by
        have := List.mem_of_getElem? hx
        simp only [List.mem_cons, List.not_mem_nil, or_false] at this
        rcases this with rfl | rfl
        · exact ⟨400, by decide, rfl⟩
        · exact ⟨401, by decide, rfl⟩
      dsimp only [gName]
      refine ifS_of (Sn.not_of (Sn.test_of (Sn.call_of (Sn.c_of (Sn.tup_of (Sn.c_of (Sn.tup_of (Sn.n_of ⟨Nat.zero_le _, fun p0 hp0 => Sn.c_of (Sn.cb_of (Sn.c_of (lc_of (r1_of (Sn.c_of (Sn.v_of rfl (Sn.n_of ⟨(m : Int), rfl, by omega, by omega, fun B hB => ?_⟩)))))))⟩))))))))
      have xp : Ex G (upd G p0 (.tup [])) := Ex.new hp0
      have hp1 : (upd G p0 (.tup [])) p0 = some (.tup []) := upd_same
      generalize upd G p0 (.tup []) = G1 at xp hp1 hB ⊢
      have nB : p0 ≠ B := fun e => by rw [← e, hp1] at hB; cases hB
      rw [Int.toNat_natCast]
      refine lc_range (lo := 0) (n := m) (fun j G' => Ex G1 G' ∧ ∃ ys, G' B = some (.lst ys) ∧ AvAll K (· = B) G' ys ((List.range j).map rowD)) ⟨Ex.new hB, [], upd_same, .nil⟩ ?_ ?_
      · rintro j G' hj ⟨e', ys, hb, avs⟩
        refine ⟨rfl, ?_⟩
        dsimp only [tYes]
        rw [if_pos rfl]
        have vR : ∀ {y1 y3 y4 y5}, Vl K (· = B) [some (.ref a), y1, some (.int (0 + (j : Int))), y3, y4, y5] G' (tTup (tCons (tVar 2) <| tCons (tC (.str "traced")) <| tCons (tC (.str "record")) <| tCons (tTup tNil) tNil)) (rowD j) := fun {y1 y3 y4 y5} => vl_tup (vl_cons (vl_var (i := 2) rfl (.int _)) <| vl_cons (vl_str "traced") <| vl_cons (vl_str "record") <| vl_cons (vl_tup vl_nil (by decide)) vl_nil) (by show 4 ≤ 100; decide)
        have ln := avs.len
        rw [List.length_map, List.length_range] at ln
        refine vR G' _ (Ex.refl G') (fun a e => .inl e) (fun a e z => by rw [show a = B from e, hb] at z; cases z) _ fun G2 y x2 ay => ?_
        have b : Byd (· = B) G2 (upd G2 B (.lst (ys ++ [y]))) := fun a u na ha => by
          rw [upd_ne na]
          exact ha
        refine ⟨ys, x2 _ _ hb, sz_lt (by omega), Ex.mut (e'.trans x2) hB, ys ++ [y], upd_same, ?_⟩
        rw [List.range_succ, List.map_append]
        exact AvAll.app (.cons (ay.keep b) .nil) ((avs.keepE x2).keep b)
      · rintro G2 ⟨e2, ys, hb, avs⟩
        refine Sn.n_of ⟨B, ys, rfl, .inl ⟨sq_of hb, fun q1 hq1 => Sn.n_of ⟨by show 2 ≤ sizeLine; decide, fun q2 hq2 => Sn.n_of ?_⟩⟩⟩
        have x1 := Ex.new (o := .tup ys) hq1
        have x2 := Ex.new (o := .tup [V.ref p0, V.ref q1]) hq2
        have g := big_ok hm
        have nq1 : ¬ q1 = B := fun e => by rw [e, hb] at hq1; cases hq1
        have nq2 : ¬ q2 = B := fun e => by rw [e, x1 _ _ hb] at hq2; cases hq2
        have av : Av K (· = B) (upd (upd G2 q1 (.tup ys)) q2 (.tup [V.ref p0, V.ref q1])) (.ref q2) (bigD m) := .tup nq2 upd_same (.cons (.tup nB (x2 _ _ (x1 _ _ (e2 _ _ hp1))) .nil) (.cons (.tup nq1 (x2 _ _ upd_same) ((avs.keepE x1).keepE x2)) .nil))
        refine ⟨_, .ref q2, bigD m, rfl, av, Bz.tame g (by decide), Bz.shw g (by decide) (by decide) (by decide), fun G3 x3 => ⟨true, rfl, ?_⟩⟩
        rw [if_neg (show ¬ (!true) = true from Bool.false_ne_true)]
        exact ⟨_, rfl, ((((eG.trans xp).trans e2).trans x1).trans x2).trans x3⟩
    rintro σ' H2 ⟨y1, rfl, x02'⟩
    have x02 := xt.trans x02'
    have hS2 := ex_l x02 hS
    dsimp only
    refine Sn.seq_of ?_
    refine ⟨.ref a, rfl, a, _, rfl, .inl hS2, 3, _, rfl, 1, _, rfl, _, rfl, ?_, ?_, ?_⟩
    · split <;> (try split) <;> omega
    · split <;> (try split) <;> omega
    have hn : (if (if ((ns.map V.int).length : Int) < 3 then ((ns.map V.int).length : Int) else 3) > 1 then (if ((ns.map V.int).length : Int) < 3 then ((ns.map V.int).length : Int) else 3) else 1).toNat ≤ 3 := by
      split <;> (try split) <;> omega
    refine for_range (lo := 0) (fun i σ' H' => ∃ y1 y3 y4, σ' = [some (.ref a), y1, none, y3, y4, none] ∧ Ex H H') ⟨_, _, _, rfl, x02⟩ ?_ ?_
    · rintro i σ' H1' hi ⟨y1, y3, y4, rfl, e1'⟩
      dsimp only [gName]
      refine Sn.seq_of (Sn.asg_of (Sn.call_of (Sn.c_of (Sn.v_of rfl (Sn.c_of (Sn.v_of rfl (Sn.n_of ⟨a, ns, 0 + (i : Int), rfl, ex_l e1' hS, hlen, by omega, by omega, fun H2' d e2' hd pot => ?_⟩)))))))
      have hdN : H d = none := fresh_back e1' hd
      dsimp only
      refine ifS_of (Sn.not_of (Sn.test_of (Sn.cb_of (Sn.c_of (lc_of (r1_of (Sn.c_of (Sn.k_of (Sn.n_of ⟨4, rfl, by decide, by decide, fun B hB => ?_⟩))))))))) 
      have nB : B ≠ d := pot.ne hB
      refine lc_range (lo := 0) (n := 4) (fun j G' => Off d H2' G' ∧ Pot G' d (3000 * (j : Int)) ∧ G' B = some (.lst ((List.replicate j true).map V.bl))) ⟨Off.of (Ex.new hB), (pot.ex (Ex.new hB)).up (by omega), upd_same⟩ ?_ ?_
      · rintro j G' hj ⟨o', p', hb⟩
        refine ⟨rfl, ?_⟩
        dsimp only [tYes]
        rw [if_pos rfl]
        refine Sn.call_of (Sn.c_of (Sn.v_of rfl (Sn.n_of ⟨d, _, rfl, p', by omega, fun G4 o4 p4 => ?_⟩)))
        refine ⟨_, o4 _ _ nB hb, sz_lt (by rw [List.length_map, List.length_replicate]; omega), (o'.trans o4).fresh hB, (p4.updD nB).up (by push_cast; omega), ?_⟩
        rw [upd_same, List.replicate_succ', List.map_append]
        rfl
      · rintro G4 ⟨o4, p4, hb⟩
        refine Sn.n_of ⟨B, _, rfl, sq_of hb, true, by rw [show (List.replicate 4 true).all id = true from rfl], ?_⟩
        rw [if_neg (show ¬ (!true) = true from Bool.false_ne_true)]
        exact ⟨_, _, _, rfl, off_ex ((Off.of (e1'.trans e2')).trans o4) hdN⟩
    · rintro σ' H' _
      exact q H'
end
end Kn
namespace KnE
open PySem PySem.Spec PyProof.Rows L2 Evl Gd Qw Kn Sn
/-- a def of the top, as the head finds it -/
structure At (K : PySem.W.Frag) (x : Str) (st : Stmt) (f : Addr) : Prop where
  nm : PySem.W.nsIn K mainGlobals x = some (some (.ref f))
  ex : ∃ (oc kV doc pm cdv ct : Value) (od an : Option Addr) (sl : Array (Option Value)), K.lookup f = some ⟨oc, od, .func (PySem.W.fnOf x x (defArgs st) (defBody st) (defScope st) .none kV doc pm an cdv ct), sl⟩ ∧ PySem.W.codeIn K cdv x = true
  kp : PySem.W.keepIn K (.ref f) = true
theorem At.of {K : PySem.W.Frag} {x : Str} {st : Stmt} {f : Addr} {oc kV doc pm cdv ct : Value} {od an : Option Addr} {sl : Array (Option Value)} (n : PySem.W.nsIn K mainGlobals x = some (some (.ref f))) (l : K.lookup f = some ⟨oc, od, .func (PySem.W.fnOf x x (defArgs st) (defBody st) (defScope st) .none kV doc pm an cdv ct), sl⟩)
    (c : PySem.W.codeIn K cdv x = true) (k : PySem.W.keepIn K (.ref f) = true) : At K x st f := ⟨n, ⟨oc, kV, doc, pm, cdv, ct, od, an, sl, l, c⟩, k⟩
theorem At.fn {K : PySem.W.Frag} {x : Str} {st : Stmt} {f : Addr} (a : At K x st f) : ∃ fd, Fun K x x st f fd := by
  obtain ⟨oc, kV, doc, pm, cdv, ct, od, an, sl, l, c⟩ := a.ex
  exact ⟨_, fun_mk l c a.kp⟩
/-- a method -/
structure AtM (K : PySem.W.Frag) (C : Addr) (x qual : Str) (st : Stmt) (f : Addr) : Prop where
  fi : PySem.W.findIn K (.ref C) x = some (some (.ref f))
  isf : PySem.W.isFn K (.ref f) = true
  ex : ∃ (oc kV doc pm cdv ct : Value) (od an : Option Addr) (sl : Array (Option Value)), K.lookup f = some ⟨oc, od, .func (PySem.W.fnOf x qual (defArgs st) (defBody st) (defScope st) .none kV doc pm an cdv ct), sl⟩ ∧ PySem.W.codeIn K cdv qual = true
  kp : PySem.W.keepIn K (.ref f) = true
theorem AtM.of {K : PySem.W.Frag} {C : Addr} {x qual : Str} {st : Stmt} {f : Addr} {oc kV doc pm cdv ct : Value} {od an : Option Addr} {sl : Array (Option Value)} (n : PySem.W.findIn K (.ref C) x = some (some (.ref f))) (i : PySem.W.isFn K (.ref f) = true) (l : K.lookup f = some ⟨oc, od, .func (PySem.W.fnOf x qual (defArgs st) (defBody st) (defScope st) .none kV doc pm an cdv ct), sl⟩)
    (c : PySem.W.codeIn K cdv qual = true) (k : PySem.W.keepIn K (.ref f) = true) : AtM K C x qual st f := ⟨n, i, ⟨oc, kV, doc, pm, cdv, ct, od, an, sl, l, c⟩, k⟩
theorem AtM.fn {K : PySem.W.Frag} {C : Addr} {x qual : Str} {st : Stmt} {f : Addr} (a : AtM K C x qual st f) : ∃ fd, Fun K x qual st f fd := by
  obtain ⟨oc, kV, doc, pm, cdv, ct, od, an, sl, l, c⟩ := a.ex
  exact ⟨_, fun_mk l c a.kp⟩
/-- the words about a class -/
structure ClsA (K : PySem.W.Frag) (x : Str) (C : Addr) : Prop where
  nm : PySem.W.nsIn K mainGlobals x = some (some (.ref C))
  pg : PySem.W.plainGet K C Str.empty = true
  hd : PySem.W.hasDictIn K C = true
  po : PySem.W.plainOver K C = true
  sa : PySem.W.findIn K (.ref C) "__setattr__" = some (some (.builtin "object.__setattr__"))
  mks : PySem.W.makesIn K C = true
  kc : PySem.W.keepIn K (.ref C) = true
theorem ClsA.cl {K : PySem.W.Frag} {x : Str} {C : Addr} (c : ClsA K x C) : Cls K C := ⟨c.pg, c.hd, c.po, c.sa⟩
theorem kb_one {K : PySem.W.Frag} {f : Addr} {fd : FuncData} {st : Stmt} {x p : Str} (F : Fun K x x st f fd) (h : ∀ (oc kV doc pm cdv ct : Value) (an : Option Addr) (s : Shared) (us ws : List Value), (us ++ ws).length = 1 → BindsTo s (PySem.W.fnOf x x (defArgs st) (defBody st) (defScope st) .none kV doc pm an cdv ct) ⟨us, ([p] : List Str).zip ws⟩ (([p] : List Str).zip (us ++ ws))) :
    KBinds K fd [p] [p] (· ++ ·) (· ++ ·) := by
  obtain ⟨⟨oc, od, kV, doc, pm, an, cdv, ct, osl, rfl, look, code⟩, _⟩ := F
  exact ⟨fun s us ws _ hl => h oc kV doc pm cdv ct an s us ws hl, fun r rz => r.append rz⟩
abbrev spLaw (K : PySem.W.Frag) : L2.Sp := Kn.spLaw K
theorem top_ok {l : PySem.W.OpenLaw} {w : World} {K : PySem.W.Frag} {h : Heap} {mg : Str → Option Value} {fa   f_law f__law_jar f__law_take f__law_of f__law_figures f__law_parts f__law_anchors f__law_shot f__law_odd f__law_bent f__law_is_figure f__law_is_called f__law_pairs_right f__law_anchors_right f__law_inner_right f__law_shot_right f__law_value_right f__law_right f_is_name f_is_integer f_is_tuple_of f_is_one_of f_is_ascending f_is_head f_are_slots f_are_entries f_fits_sort f_grip_root f_is_root f_is_snapshot  : Addr} {dT dH dG u1 u2 nn v1 v2 v3 ng t8 t4 t6 : Nat} (X : K.In h) (G : h.Ns mainGlobals mg) (hfa : mg "law" = some (.ref fa))
    (a_law : At K "law" sLaw f_law)
    (a__law_jar : At K "_law_jar" sSource f__law_jar)
    (a__law_take : At K "_law_take" sTake f__law_take)
    (a__law_of : At K "_law_of" sOf f__law_of)
    (a__law_figures : At K "_law_figures" sFig f__law_figures)
    (a__law_parts : At K "_law_parts" sParts f__law_parts)
    (a__law_anchors : At K "_law_anchors" sAnch f__law_anchors)
    (a__law_shot : At K "_law_shot" sShot f__law_shot)
    (a__law_odd : At K "_law_odd" sOdd f__law_odd)
    (a__law_bent : At K "_law_bent" sBent f__law_bent)
    (a__law_is_figure : At K "_law_is_figure" sFigure f__law_is_figure)
    (a__law_is_called : At K "_law_is_called" sCalled f__law_is_called)
    (a__law_pairs_right : At K "_law_pairs_right" sPairsR f__law_pairs_right)
    (a__law_anchors_right : At K "_law_anchors_right" sAncR f__law_anchors_right)
    (a__law_inner_right : At K "_law_inner_right" sInR f__law_inner_right)
    (a__law_shot_right : At K "_law_shot_right" sShR f__law_shot_right)
    (a__law_value_right : At K "_law_value_right" sValR f__law_value_right)
    (a__law_right : At K "_law_right" sRight f__law_right)
    (a_is_name : At K "is_name" sIsName f_is_name)
    (a_is_integer : At K "is_integer" sInt f_is_integer)
    (a_is_tuple_of : At K "is_tuple_of" sTupOf f_is_tuple_of)
    (a_is_one_of : At K "is_one_of" sOne f_is_one_of)
    (a_is_ascending : At K "is_ascending" sAsc f_is_ascending)
    (a_is_head : At K "is_head" sHead f_is_head)
    (a_are_slots : At K "are_slots" sSlots f_are_slots)
    (a_are_entries : At K "are_entries" sEnts f_are_entries)
    (a_fits_sort : At K "fits_sort" sFits f_fits_sort)
    (a_grip_root : At K "grip_root" sGrip f_grip_root)
    (a_is_root : At K "is_root" sRoot f_is_root)
    (a_is_snapshot : At K "is_snapshot" sSnap f_is_snapshot)
    (z_len : PySem.W.nsIn K mainGlobals "len" = some none)
    (z_abs : PySem.W.nsIn K mainGlobals "abs" = some none)
    (z_int : PySem.W.nsIn K mainGlobals "int" = some none)
    (z_range : PySem.W.nsIn K mainGlobals "range" = some none)
    (z_max : PySem.W.nsIn K mainGlobals "max" = some none)
    (z_min : PySem.W.nsIn K mainGlobals "min" = some none)
    (z_repr : PySem.W.nsIn K mainGlobals "repr" = some none)
    (z_tuple : PySem.W.nsIn K mainGlobals "tuple" = some none)
    (z_str : PySem.W.nsIn K mainGlobals "str" = some none)
    (z_all : PySem.W.nsIn K mainGlobals "all" = some none)
    (z_isinstance : PySem.W.nsIn K mainGlobals "isinstance" = some none)
    (z_set : PySem.W.nsIn K mainGlobals "set" = some none)
    (z_sorted : PySem.W.nsIn K mainGlobals "sorted" = some none)
    (z_list : PySem.W.nsIn K mainGlobals "list" = some none)
    (z_bool : PySem.W.nsIn K mainGlobals "bool" = some none)
    (z_zip : PySem.W.nsIn K mainGlobals "zip" = some none)
    (gl_l : PySem.W.nsIn K mainGlobals "MOST_LETTERS" = some (some (.int 8 t8)))
    (gl_o : PySem.W.nsIn K mainGlobals "MOST_OBJECTS" = some (some (.int 400 t4)))
    (gl_s : PySem.W.nsIn K mainGlobals "SLOTS" = some (some (.int 6 t6)))
    (gl_dT : PySem.W.nsIn K mainGlobals "TAKEN" = some (some (.ref dT)))
    (gl_dH : PySem.W.nsIn K mainGlobals "HOMES" = some (some (.ref dH)))
    (gl_dG : PySem.W.nsIn K mainGlobals "GRIPS" = some (some (.ref dG)))
    (dc_dT : He.dicW K dT = some (He.keysIn w.params ["none", "get", "at", "is", "then", "record", "weak", "map", "counted", "traced", "let", "drop", "hold", "release", "pin", "unpin", "say", "if", "else", "end", "repeat", "proc", "do", "minor", "rings", "begin", "slice", "compact", "finalize", "settle"]))
    (tu_h : List.lookup dH K = some { cls := .type "tuple", data := .seq #[.str "counted" u1, .str "traced" u2] nn })
    (tu_g : List.lookup dG K = some { cls := .type "tuple", data := .seq #[.str "pin" v1, .str "hold" v2, .str "queue" v3] ng }) :
    ∃ fd : FuncData, (∀ (s : Shared) (v : Value), BindsTo s fd ⟨[v], []⟩ [("_law_script", v)]) ∧ ∀ base : Heap, K.In base → base.Ns mainGlobals mg → FnG l.prog w K mg base CX0 11 fa fd ["_law_script"] (spLaw K) := by
  have e := hfa.symm.trans (PySem.W.mg_of X G a_law.nm)
  cases e
  obtain ⟨fd_law, F_law⟩ := a_law.fn
  have g_law := PySem.W.mg_of X G a_law.nm
  obtain ⟨fd__law_jar, F__law_jar⟩ := a__law_jar.fn
  have g__law_jar := PySem.W.mg_of X G a__law_jar.nm
  have b__law_jar := F__law_jar.binds (ps := ["_law_script", "_law_k"]) fun _ _ _ _ _ _ us hl => match us, hl with | [_, _], _ => rfl
  obtain ⟨fd__law_take, F__law_take⟩ := a__law_take.fn
  have g__law_take := PySem.W.mg_of X G a__law_take.nm
  have b__law_take := F__law_take.binds (ps := ["_law_jar_here", "_law_many"]) fun _ _ _ _ _ _ us hl => match us, hl with | [_, _], _ => rfl
  obtain ⟨fd__law_of, F__law_of⟩ := a__law_of.fn
  have g__law_of := PySem.W.mg_of X G a__law_of.nm
  have b__law_of := F__law_of.binds (ps := ["_law_jar_here", "_law_some"]) fun _ _ _ _ _ _ us hl => match us, hl with | [_, _], _ => rfl
  obtain ⟨fd__law_figures, F__law_figures⟩ := a__law_figures.fn
  have g__law_figures := PySem.W.mg_of X G a__law_figures.nm
  have b__law_figures := F__law_figures.binds (ps := ["_law_jar_here", "_law_many"]) fun _ _ _ _ _ _ us hl => match us, hl with | [_, _], _ => rfl
  obtain ⟨fd__law_parts, F__law_parts⟩ := a__law_parts.fn
  have g__law_parts := PySem.W.mg_of X G a__law_parts.nm
  have b__law_parts := F__law_parts.binds (ps := ["_law_jar_here", "_law_shape", "_law_figures_here", "_law_often"]) fun _ _ _ _ _ _ us hl => match us, hl with | [_, _, _, _], _ => rfl
  obtain ⟨fd__law_anchors, F__law_anchors⟩ := a__law_anchors.fn
  have g__law_anchors := PySem.W.mg_of X G a__law_anchors.nm
  have b__law_anchors := F__law_anchors.binds (ps := ["_law_jar_here", "_law_figures_here"]) fun _ _ _ _ _ _ us hl => match us, hl with | [_, _], _ => rfl
  obtain ⟨fd__law_shot, F__law_shot⟩ := a__law_shot.fn
  have g__law_shot := PySem.W.mg_of X G a__law_shot.nm
  have b__law_shot := F__law_shot.binds (ps := ["_law_jar_here", "_law_least", "_law_most", "_law_often"]) fun _ _ _ _ _ _ us hl => match us, hl with | [_, _, _, _], _ => rfl
  obtain ⟨fd__law_odd, F__law_odd⟩ := a__law_odd.fn
  have g__law_odd := PySem.W.mg_of X G a__law_odd.nm
  have b__law_odd := F__law_odd.binds (ps := ["_law_jar_here"]) fun _ _ _ _ _ _ us hl => match us, hl with | [_], _ => rfl
  obtain ⟨fd__law_bent, F__law_bent⟩ := a__law_bent.fn
  have g__law_bent := PySem.W.mg_of X G a__law_bent.nm
  have b__law_bent := F__law_bent.binds (ps := ["_law_jar_here", "_law_thing", "_law_deep"]) fun _ _ _ _ _ _ us hl => match us, hl with | [_, _, _], _ => rfl
  obtain ⟨fd__law_is_figure, F__law_is_figure⟩ := a__law_is_figure.fn
  have g__law_is_figure := PySem.W.mg_of X G a__law_is_figure.nm
  have b__law_is_figure := F__law_is_figure.binds (ps := ["_law_thing"]) fun _ _ _ _ _ _ us hl => match us, hl with | [_], _ => rfl
  obtain ⟨fd__law_is_called, F__law_is_called⟩ := a__law_is_called.fn
  have g__law_is_called := PySem.W.mg_of X G a__law_is_called.nm
  have b__law_is_called := F__law_is_called.binds (ps := ["_law_thing"]) fun _ _ _ _ _ _ us hl => match us, hl with | [_], _ => rfl
  obtain ⟨fd__law_pairs_right, F__law_pairs_right⟩ := a__law_pairs_right.fn
  have g__law_pairs_right := PySem.W.mg_of X G a__law_pairs_right.nm
  have b__law_pairs_right := F__law_pairs_right.binds (ps := ["_law_thing"]) fun _ _ _ _ _ _ us hl => match us, hl with | [_], _ => rfl
  obtain ⟨fd__law_anchors_right, F__law_anchors_right⟩ := a__law_anchors_right.fn
  have g__law_anchors_right := PySem.W.mg_of X G a__law_anchors_right.nm
  have b__law_anchors_right := F__law_anchors_right.binds (ps := ["_law_thing", "_law_figures_here"]) fun _ _ _ _ _ _ us hl => match us, hl with | [_, _], _ => rfl
  obtain ⟨fd__law_inner_right, F__law_inner_right⟩ := a__law_inner_right.fn
  have g__law_inner_right := PySem.W.mg_of X G a__law_inner_right.nm
  have b__law_inner_right := F__law_inner_right.binds (ps := ["_law_shape", "_law_thing", "_law_figures_here"]) fun _ _ _ _ _ _ us hl => match us, hl with | [_, _, _], _ => rfl
  obtain ⟨fd__law_shot_right, F__law_shot_right⟩ := a__law_shot_right.fn
  have g__law_shot_right := PySem.W.mg_of X G a__law_shot_right.nm
  have b__law_shot_right := F__law_shot_right.binds (ps := ["_law_thing"]) fun _ _ _ _ _ _ us hl => match us, hl with | [_], _ => rfl
  obtain ⟨fd__law_value_right, F__law_value_right⟩ := a__law_value_right.fn
  have g__law_value_right := PySem.W.mg_of X G a__law_value_right.nm
  have b__law_value_right := F__law_value_right.binds (ps := ["_law_thing"]) fun _ _ _ _ _ _ us hl => match us, hl with | [_], _ => rfl
  obtain ⟨fd__law_right, F__law_right⟩ := a__law_right.fn
  have g__law_right := PySem.W.mg_of X G a__law_right.nm
  have b__law_right := F__law_right.binds (ps := ["_law_jar_here"]) fun _ _ _ _ _ _ us hl => match us, hl with | [_], _ => rfl
  obtain ⟨fd_is_name, F_is_name⟩ := a_is_name.fn
  have g_is_name := PySem.W.mg_of X G a_is_name.nm
  have b_is_name := F_is_name.binds (ps := ["word"]) fun _ _ _ _ _ _ us hl => match us, hl with | [_], _ => rfl
  obtain ⟨fd_is_integer, F_is_integer⟩ := a_is_integer.fn
  have g_is_integer := PySem.W.mg_of X G a_is_integer.nm
  have b_is_integer := F_is_integer.binds (ps := ["value"]) fun _ _ _ _ _ _ us hl => match us, hl with | [_], _ => rfl
  obtain ⟨fd_is_tuple_of, F_is_tuple_of⟩ := a_is_tuple_of.fn
  have g_is_tuple_of := PySem.W.mg_of X G a_is_tuple_of.nm
  have b_is_tuple_of := F_is_tuple_of.binds (ps := ["value", "many"]) fun _ _ _ _ _ _ us hl => match us, hl with | [_, _], _ => rfl
  obtain ⟨fd_is_one_of, F_is_one_of⟩ := a_is_one_of.fn
  have g_is_one_of := PySem.W.mg_of X G a_is_one_of.nm
  have b_is_one_of := F_is_one_of.binds (ps := ["value", "there"]) fun _ _ _ _ _ _ us hl => match us, hl with | [_, _], _ => rfl
  obtain ⟨fd_is_ascending, F_is_ascending⟩ := a_is_ascending.fn
  have g_is_ascending := PySem.W.mg_of X G a_is_ascending.nm
  have b_is_ascending := F_is_ascending.binds (ps := ["keys"]) fun _ _ _ _ _ _ us hl => match us, hl with | [_], _ => rfl
  obtain ⟨fd_is_head, F_is_head⟩ := a_is_head.fn
  have g_is_head := PySem.W.mg_of X G a_is_head.nm
  have b_is_head := F_is_head.binds (ps := ["value"]) fun _ _ _ _ _ _ us hl => match us, hl with | [_], _ => rfl
  obtain ⟨fd_are_slots, F_are_slots⟩ := a_are_slots.fn
  have g_are_slots := PySem.W.mg_of X G a_are_slots.nm
  have b_are_slots := F_are_slots.binds (ps := ["parts", "there"]) fun _ _ _ _ _ _ us hl => match us, hl with | [_, _], _ => rfl
  obtain ⟨fd_are_entries, F_are_entries⟩ := a_are_entries.fn
  have g_are_entries := PySem.W.mg_of X G a_are_entries.nm
  have b_are_entries := F_are_entries.binds (ps := ["parts", "there"]) fun _ _ _ _ _ _ us hl => match us, hl with | [_, _], _ => rfl
  obtain ⟨fd_fits_sort, F_fits_sort⟩ := a_fits_sort.fn
  have g_fits_sort := PySem.W.mg_of X G a_fits_sort.nm
  have b_fits_sort := F_fits_sort.binds (ps := ["sort", "parts", "there"]) fun _ _ _ _ _ _ us hl => match us, hl with | [_, _, _], _ => rfl
  obtain ⟨fd_grip_root, F_grip_root⟩ := a_grip_root.fn
  have g_grip_root := PySem.W.mg_of X G a_grip_root.nm
  have b_grip_root := F_grip_root.binds (ps := ["grip", "number"]) fun _ _ _ _ _ _ us hl => match us, hl with | [_, _], _ => rfl
  obtain ⟨fd_is_root, F_is_root⟩ := a_is_root.fn
  have g_is_root := PySem.W.mg_of X G a_is_root.nm
  have b_is_root := F_is_root.binds (ps := ["value", "there"]) fun _ _ _ _ _ _ us hl => match us, hl with | [_, _], _ => rfl
  obtain ⟨fd_is_snapshot, F_is_snapshot⟩ := a_is_snapshot.fn
  have g_is_snapshot := PySem.W.mg_of X G a_is_snapshot.nm
  have b_is_snapshot := F_is_snapshot.binds (ps := ["value"]) fun _ _ _ _ _ _ us hl => match us, hl with | [_], _ => rfl
  have k_is_snapshot : KBinds K fd_is_snapshot ["value"] ["value"] (· ++ ·) (· ++ ·) := kb_one F_is_snapshot fun oc kV doc pm cdv ct an s us ws hl => by
    match us, ws, hl with
    | [u], [], _ => exact .of_eq rfl
    | [], [u], _ => exact .of_eq rfl
  have m_len := PySem.W.mg_none_of X G z_len
  have m_abs := PySem.W.mg_none_of X G z_abs
  have m_int := PySem.W.mg_none_of X G z_int
  have m_range := PySem.W.mg_none_of X G z_range
  have m_max := PySem.W.mg_none_of X G z_max
  have m_min := PySem.W.mg_none_of X G z_min
  have m_repr := PySem.W.mg_none_of X G z_repr
  have m_tuple := PySem.W.mg_none_of X G z_tuple
  have m_str := PySem.W.mg_none_of X G z_str
  have m_all := PySem.W.mg_none_of X G z_all
  have m_isinstance := PySem.W.mg_none_of X G z_isinstance
  have m_set := PySem.W.mg_none_of X G z_set
  have m_sorted := PySem.W.mg_none_of X G z_sorted
  have m_list := PySem.W.mg_none_of X G z_list
  have m_bool := PySem.W.mg_none_of X G z_bool
  have m_zip := PySem.W.mg_none_of X G z_zip
  refine ⟨fd_law, fun s v => ?_, fun base _ _ => ?_⟩
  · obtain ⟨oc, od, kV, doc, pm, an, cdv, ct, osl, rfl, _⟩ := F_law.ex
    exact .of_eq rfl
  · have kdOf : ∀ {d : Addr} {ks : List Str}, He.dicW K d = some (He.keysIn w.params ks) → ∃ es n, KDict K w d es n := fun h => by
      obtain ⟨es, n, D⟩ := He.dicW_ok h
      exact ⟨es, n, D⟩
    have T : Tb K w mg dT := ⟨⟨_, PySem.W.mg_of X G gl_l⟩, PySem.W.mg_of X G gl_dT, kdOf dc_dT, Gd.dic_ns dc_dT⟩
    have hH : ∀ H, SqT K H dH (homesK.map V.str) := fun H => .inr ⟨_, _, _, tu_h, rfl, rfl, by show 2 ≤ sizeLine; decide, .cons ⟨_, rfl⟩ (.cons ⟨_, rfl⟩ .nil)⟩
    have hD : ∀ H, SqT K H dG (grips3.map V.str) := fun H => .inr ⟨_, _, _, tu_g, rfl, rfl, by show 3 ≤ sizeLine; decide, .cons ⟨_, rfl⟩ (.cons ⟨_, rfl⟩ (.cons ⟨_, rfl⟩ .nil))⟩
    have GN := ok_isname (P := l.prog) (w := w) (base := base) F_is_name T m_len
    have GI := ok_int (P := l.prog) (w := w) (base := base) F_is_integer m_isinstance m_int m_bool
    have GT := ok_tupof (P := l.prog) (w := w) (base := base) F_is_tuple_of m_isinstance m_tuple m_len
    have GO := ok_one (P := l.prog) (w := w) (base := base) F_is_one_of F_is_integer b_is_integer g_is_integer GI
    have GAi := ok_ascI (P := l.prog) (w := w) (base := base) F_is_ascending m_all m_zip
    have GAs := ok_ascS (P := l.prog) (w := w) (base := base) F_is_ascending m_all m_zip
    have GH := ok_head (P := l.prog) (w := w) (base := base) F_is_head F_is_integer F_is_tuple_of b_is_integer b_is_tuple_of g_is_integer g_is_tuple_of (PySem.W.mg_of X G gl_dH) hH m_isinstance m_tuple GI GT
    have GSl := ok_slots (P := l.prog) (w := w) (base := base) F_are_slots F_is_integer F_is_tuple_of F_is_one_of F_is_ascending b_is_integer b_is_tuple_of b_is_one_of b_is_ascending g_is_integer g_is_tuple_of g_is_one_of g_is_ascending ⟨_, PySem.W.mg_of X G gl_s⟩ GI GT GO GAi
    have GE := ok_ents (P := l.prog) (w := w) (base := base) F_are_entries F_is_tuple_of F_is_one_of F_is_ascending b_is_tuple_of b_is_one_of b_is_ascending g_is_tuple_of g_is_one_of g_is_ascending GT GO GAi
    have GF := ok_fits (P := l.prog) (w := w) (base := base) F_fits_sort F_is_one_of F_are_slots F_are_entries b_is_one_of b_are_slots b_are_entries g_is_one_of g_are_slots g_are_entries m_len m_all GO GSl GE
    have GRo := ok_root (dT := dT) (P := l.prog) (w := w) (base := base) F_is_root F_is_tuple_of F_is_one_of F_is_name F_grip_root b_is_tuple_of b_is_one_of b_is_name b_grip_root g_is_tuple_of g_is_one_of g_is_name g_grip_root (PySem.W.mg_of X G gl_dG) hD m_isinstance m_str GT GO GN
    have GSn := ok_snap (P := l.prog) (w := w) (base := base) F_is_snapshot F_is_tuple_of F_is_head F_is_ascending F_fits_sort F_is_root b_is_tuple_of b_is_head b_is_ascending b_fits_sort b_is_root g_is_tuple_of g_is_head g_is_ascending g_fits_sort g_is_root ⟨_, PySem.W.mg_of X G gl_o⟩ m_isinstance m_tuple m_len m_all GT GH GAi GAs GF GRo
    have GSR := ok_shR (P := l.prog) (w := w) (base := base) F__law_shot_right F__law_pairs_right F__law_is_figure F__law_is_called F__law_anchors_right F__law_inner_right b__law_pairs_right b__law_is_figure b__law_is_called b__law_anchors_right b__law_inner_right g__law_pairs_right g__law_is_figure g__law_is_called g__law_anchors_right g__law_inner_right m_isinstance m_tuple m_str m_int m_bool m_len m_all m_sorted m_set
    have GV := ok_valR (P := l.prog) (w := w) (base := base) F__law_value_right F__law_shot_right F_is_snapshot b__law_shot_right b_is_snapshot k_is_snapshot g__law_shot_right g_is_snapshot m_repr GSR GSn
    have GSh := ok_shot (P := l.prog) (w := w) (base := base) F__law_shot F__law_take F__law_of F__law_figures F__law_parts F__law_anchors b__law_take b__law_of b__law_figures b__law_parts b__law_anchors g__law_take g__law_of g__law_figures g__law_parts g__law_anchors m_len m_str m_tuple m_sorted m_range
    have GD := ok_odd (P := l.prog) (w := w) (base := base) F__law_odd F__law_take F__law_of b__law_take b__law_of g__law_take g__law_of m_len m_range
    have GB := ok_bent (P := l.prog) (w := w) (base := base) F__law_bent F__law_take F__law_of F__law_odd b__law_bent b__law_take b__law_of b__law_odd g__law_bent g__law_take g__law_of g__law_odd m_len m_range m_isinstance m_tuple m_str m_int m_bool m_list 6
    have GRt := ok_right (P := l.prog) (w := w) (base := base) F__law_right F__law_take F__law_of F__law_shot F__law_bent F__law_value_right F__law_odd b__law_take b__law_of b__law_shot b__law_bent b__law_value_right b__law_odd g__law_take g__law_shot g__law_bent g__law_value_right g__law_odd m_len m_range m_all m_list GSh GB GV GD
    exact Kn.ok_law F_law F__law_jar F__law_right F__law_value_right b__law_jar b__law_right b__law_value_right g__law_jar g__law_right g__law_value_right m_len m_range m_max m_min m_abs m_int m_all m_tuple GRt GV
end KnE
open PySem PySem.W PyProof.Rows
set_option maxHeartbeats 0 in
theorem PySem.Challenge.cw_crossheaps_k59_snapshots_of_any_value_holds : PySem.Challenge.rw_crossheaps_k59_snapshots_of_any_value.Holds := by
  w_on; o_law; k_head; (case hw => w_witness2)
  k_fill
  refine Gd.walkG (l := PySem.Challenge.rw_crossheaps_k59_snapshots_of_any_value) (n := 63) (k := 11) (x := "_law_script") (CX := fun _ => L2.CX0) (sp := fun w => KnE.spLaw _) rfl (by decide) rfl ⟨rfl, by decide, by decide⟩ (fun w h Y => PySem.W.kIn_of Y) ?F (fun _ _ a ns hl _ hS => ⟨a, ns, rfl, hS, hl, fun _ => rfl⟩) (fun _ _ _ _ _ h => h)
  case F =>
    intro w mg fa h KX G hmg
    refine' KnE.top_ok KX G hmg (.of ?n0 ?l0 ?c0 ?k0) (.of ?n1 ?l1 ?c1 ?k1) (.of ?n2 ?l2 ?c2 ?k2) (.of ?n3 ?l3 ?c3 ?k3) (.of ?n4 ?l4 ?c4 ?k4) (.of ?n5 ?l5 ?c5 ?k5) (.of ?n6 ?l6 ?c6 ?k6) (.of ?n7 ?l7 ?c7 ?k7) (.of ?n8 ?l8 ?c8 ?k8) (.of ?n9 ?l9 ?c9 ?k9) (.of ?n10 ?l10 ?c10 ?k10) (.of ?n11 ?l11 ?c11 ?k11) (.of ?n12 ?l12 ?c12 ?k12) (.of ?n13 ?l13 ?c13 ?k13) (.of ?n14 ?l14 ?c14 ?k14) (.of ?n15 ?l15 ?c15 ?k15) (.of ?n16 ?l16 ?c16 ?k16) (.of ?n17 ?l17 ?c17 ?k17) (.of ?n18 ?l18 ?c18 ?k18) (.of ?n19 ?l19 ?c19 ?k19) (.of ?n20 ?l20 ?c20 ?k20) (.of ?n21 ?l21 ?c21 ?k21) (.of ?n22 ?l22 ?c22 ?k22) (.of ?n23 ?l23 ?c23 ?k23) (.of ?n24 ?l24 ?c24 ?k24) (.of ?n25 ?l25 ?c25 ?k25) (.of ?n26 ?l26 ?c26 ?k26) (.of ?n27 ?l27 ?c27 ?k27) (.of ?n28 ?l28 ?c28 ?k28) (.of ?n29 ?l29 ?c29 ?k29) ?z0 ?z1 ?z2 ?z3 ?z4 ?z5 ?z6 ?z7 ?z8 ?z9 ?z10 ?z11 ?z12 ?z13 ?z14 ?z15 ?h0 ?h1 ?h2 ?h3 ?h4 ?h5 ?h6 ?h7 ?h8
    (case n0 => k_is)
    (case l0 => k_is)
    (case c0 => k_is)
    (case k0 => k_is)
    (case n1 => k_is)
    (case l1 => k_is)
    (case c1 => k_is)
    (case k1 => k_is)
    (case n2 => k_is)
    (case l2 => k_is)
    (case c2 => k_is)
    (case k2 => k_is)
    (case n3 => k_is)
    (case l3 => k_is)
    (case c3 => k_is)
    (case k3 => k_is)
    (case n4 => k_is)
    (case l4 => k_is)
    (case c4 => k_is)
    (case k4 => k_is)
    (case n5 => k_is)
    (case l5 => k_is)
    (case c5 => k_is)
    (case k5 => k_is)
    (case n6 => k_is)
    (case l6 => k_is)
    (case c6 => k_is)
    (case k6 => k_is)
    (case n7 => k_is)
    (case l7 => k_is)
    (case c7 => k_is)
    (case k7 => k_is)
    (case n8 => k_is)
    (case l8 => k_is)
    (case c8 => k_is)
    (case k8 => k_is)
    (case n9 => k_is)
    (case l9 => k_is)
    (case c9 => k_is)
    (case k9 => k_is)
    (case n10 => k_is)
    (case l10 => k_is)
    (case c10 => k_is)
    (case k10 => k_is)
    (case n11 => k_is)
    (case l11 => k_is)
    (case c11 => k_is)
    (case k11 => k_is)
    (case n12 => k_is)
    (case l12 => k_is)
    (case c12 => k_is)
    (case k12 => k_is)
    (case n13 => k_is)
    (case l13 => k_is)
    (case c13 => k_is)
    (case k13 => k_is)
    (case n14 => k_is)
    (case l14 => k_is)
    (case c14 => k_is)
    (case k14 => k_is)
    (case n15 => k_is)
    (case l15 => k_is)
    (case c15 => k_is)
    (case k15 => k_is)
    (case n16 => k_is)
    (case l16 => k_is)
    (case c16 => k_is)
    (case k16 => k_is)
    (case n17 => k_is)
    (case l17 => k_is)
    (case c17 => k_is)
    (case k17 => k_is)
    (case n18 => k_is)
    (case l18 => k_is)
    (case c18 => k_is)
    (case k18 => k_is)
    (case n19 => k_is)
    (case l19 => k_is)
    (case c19 => k_is)
    (case k19 => k_is)
    (case n20 => k_is)
    (case l20 => k_is)
    (case c20 => k_is)
    (case k20 => k_is)
    (case n21 => k_is)
    (case l21 => k_is)
    (case c21 => k_is)
    (case k21 => k_is)
    (case n22 => k_is)
    (case l22 => k_is)
    (case c22 => k_is)
    (case k22 => k_is)
    (case n23 => k_is)
    (case l23 => k_is)
    (case c23 => k_is)
    (case k23 => k_is)
    (case n24 => k_is)
    (case l24 => k_is)
    (case c24 => k_is)
    (case k24 => k_is)
    (case n25 => k_is)
    (case l25 => k_is)
    (case c25 => k_is)
    (case k25 => k_is)
    (case n26 => k_is)
    (case l26 => k_is)
    (case c26 => k_is)
    (case k26 => k_is)
    (case n27 => k_is)
    (case l27 => k_is)
    (case c27 => k_is)
    (case k27 => k_is)
    (case n28 => k_is)
    (case l28 => k_is)
    (case c28 => k_is)
    (case k28 => k_is)
    (case n29 => k_is)
    (case l29 => k_is)
    (case c29 => k_is)
    (case k29 => k_is)
    (case z0 => k_is)
    (case z1 => k_is)
    (case z2 => k_is)
    (case z3 => k_is)
    (case z4 => k_is)
    (case z5 => k_is)
    (case z6 => k_is)
    (case z7 => k_is)
    (case z8 => k_is)
    (case z9 => k_is)
    (case z10 => k_is)
    (case z11 => k_is)
    (case z12 => k_is)
    (case z13 => k_is)
    (case z14 => k_is)
    (case z15 => k_is)
    (case h0 => k_is)
    (case h1 => k_is)
    (case h2 => k_is)
    (case h3 => k_is)
    (case h4 => k_is)
    (case h5 => k_is)
    (case h6 => (first | rfl | k_is | kernel_rfl | decide +kernel))
    (case h7 => (first | rfl | k_is | kernel_rfl))
    (case h8 => (first | rfl | k_is | kernel_rfl))
