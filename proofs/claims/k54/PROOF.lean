import PyProof.Rows.All
import Wide.All
import OpenK.AllK
import Wide.FinOn
import PySem.Challenge.RW_crossheaps_k54_what_dies_without_links
import HandS.Base
import HandS.List
import HandS.SortRule
import HandS.ForMost
import HandS.Evl
import HandS.FStrTup
import HandS.Iter
import HandS.Walk
import HandS.DictTup
import KE.KDictWalk
import KE.KPairComp
import HandS.SortInts
import HandS.Conv
import HandS.Wide
import HandS.SetKeys
import HandS.Steps
import HandS.IsInst
import HandS.Star
import HandS.DictComp
import HandS.Style
import KE.KDictPairs
import KE.DataEq
import KE.KExcSuper
import HandS.ExcInit
import HandS.FStr
import KE.KExcIs
import HandS.ExcField
import HandS.ExcIs
import HandS.ExcValue
import HandS.TryOnly
import PyProof.Rows.SetFrom
import HandS.More
import HandS.TupAny
import HandS.Deep
import HandS.Text
import PyProof.Rows.TupMore
import PyProof.Rows.IntBool
import PyProof.Rows.EqBoolInt
import HandS.Codes
import HandS.Lambda
import PyProof.Draws
import KE.KDictIter
import KE.GoesEnum
import HandS.EndTab
import HandS.HeadHook3
import KE.KNestM
import KE.KLam
set_option Elab.async false
set_option linter.all false
set_option maxRecDepth 100000
set_option maxHeartbeats 8000000
namespace Gd
open PySem L2
/-! The order of tuples of keys. -/
def kLt : Key → Key → Bool
  | .inl a, .inl b => decide (a < b)
  | .inr a, .inr b => decide (a.cps.toList < b.cps.toList)
  | .inl _, .inr _ => true
  | .inr _, .inl _ => false
def ksLt : List Key → List Key → Bool
  | [], [] => false
  | [], _ :: _ => true
  | _ :: _, [] => false
  | a :: r, b :: s => if a = b then ksLt r s else kLt a b
theorem str_ext {a b : Str} (h : a.cps.toList = b.cps.toList) : a = b := by
  cases a
  cases b
  simp only at h
  rw [Array.toList_inj.mp h]
theorem kLt_irr : ∀ a : Key, kLt a a = false
  | .inl a => decide_eq_false (Int.lt_irrefl a)
  | .inr a => decide_eq_false (List.lt_irrefl _)
theorem kLt_as : ∀ {a b : Key}, kLt a b = true → kLt b a = false
  | .inl a, .inl b, h => decide_eq_false (by have := of_decide_eq_true h; omega)
  | .inr a, .inr b, h => decide_eq_false (fun q => List.lt_irrefl _ (List.lt_trans (of_decide_eq_true h) q))
  | .inl _, .inr _, _ => rfl
  | .inr _, .inl _, h => nomatch h
theorem kLt_tri : ∀ {a b : Key}, kLt a b = false → kLt b a = false → a = b
  | .inl a, .inl b, h, g => by
    have h1 := of_decide_eq_false h
    have h2 := of_decide_eq_false g
    rw [show a = b from by omega]
  | .inr a, .inr b, h, g => by
    have h1 := of_decide_eq_false h
    have h2 := of_decide_eq_false g
    rw [str_ext (List.le_antisymm (List.not_lt.mp h2) (List.not_lt.mp h1))]
  | .inl _, .inr _, h, _ => nomatch h
  | .inr _, .inl _, _, g => nomatch g
theorem kLt_tr : ∀ {a b c : Key}, kLt a b = true → kLt b c = true → kLt a c = true
  | .inl a, .inl b, .inl c, h, g => decide_eq_true (by have := of_decide_eq_true h; have := of_decide_eq_true g; omega)
  | .inr a, .inr b, .inr c, h, g => decide_eq_true (List.lt_trans (of_decide_eq_true h) (of_decide_eq_true g))
  | .inl _, .inl _, .inr _, _, _ => rfl
  | .inl _, .inr _, .inr _, _, _ => rfl
  | .inl _, .inr _, .inl _, _, g => nomatch g
  | .inr _, .inl _, _, h, _ => nomatch h
  | .inr _, .inr _, .inl _, _, g => nomatch g
theorem ksLt_irr : ∀ a : List Key, ksLt a a = false
  | [] => rfl
  | a :: r => by
    rw [ksLt, if_pos rfl]
    exact ksLt_irr r
theorem ksLt_as : ∀ {a b : List Key}, ksLt a b = true → ksLt b a = false
  | [], [], h => nomatch h
  | [], _ :: _, _ => rfl
  | _ :: _, [], h => nomatch h
  | a :: r, b :: s, h => by
    rw [ksLt] at h ⊢
    by_cases e : a = b
    · rw [if_pos e] at h
      rw [if_pos e.symm]
      exact ksLt_as h
    · rw [if_neg e] at h
      rw [if_neg (fun q => e q.symm)]
      exact kLt_as h
theorem ksLt_tri : ∀ {a b : List Key}, ksLt a b = false → ksLt b a = false → a = b
  | [], [], _, _ => rfl
  | [], _ :: _, h, _ => nomatch h
  | _ :: _, [], _, h => nomatch h
  | a :: r, b :: s, h, g => by
    rw [ksLt] at h g
    by_cases e : a = b
    · rw [if_pos e] at h
      rw [if_pos e.symm] at g
      rw [e, ksLt_tri h g]
    · rw [if_neg e] at h
      rw [if_neg (fun q => e q.symm)] at g
      exact absurd (kLt_tri h g) e
theorem ksLt_tr : ∀ {a b c : List Key}, ksLt a b = true → ksLt b c = true → ksLt a c = true
  | [], [], _, h, _ => nomatch h
  | [], _ :: _, [], _, g => nomatch g
  | [], _ :: _, _ :: _, _, _ => rfl
  | _ :: _, [], _, h, _ => nomatch h
  | _ :: _, _ :: _, [], _, g => nomatch g
  | a :: r, b :: s, c :: t, h, g => by
    rw [ksLt] at h g ⊢
    by_cases e : a = b
    · subst e
      rw [if_pos rfl] at h
      by_cases e2 : a = c
      · rw [if_pos e2] at g ⊢
        exact ksLt_tr h g
      · rw [if_neg e2] at g ⊢
        exact g
    · rw [if_neg e] at h
      by_cases e2 : b = c
      · subst e2
        rw [if_neg e]
        exact h
      · rw [if_neg e2] at g
        have e3 : a ≠ c := fun q => by
          subst q
          rw [kLt_as h] at g
          cases g
        rw [if_neg e3]
        exact kLt_tr h g
theorem ksLt_ntr {a b c : List Key} (h : ksLt a b = false) (g : ksLt b c = false) : ksLt a c = false := by
  cases q : ksLt a c with
  | false => rfl
  | true =>
    cases p : ksLt b a with
    | true =>
      rw [ksLt_tr p q] at g
      cases g
    | false =>
      have e := ksLt_tri h p
      subst e
      rw [q] at g
      cases g
end Gd
namespace Sn
open PySem PySem.Spec PyProof.Rows L2
/-! Data of tuples, texts, ints and None, as it lies in a heap; snapshots. -/
def Exx (H H' : Hp) : Prop := ∀ a o, H a = some o → H' a = some o
mutual
inductive Td (K : PySem.W.Frag) (H : Hp) : V → PyData → Prop
  | non : Td K H .non .none
  | int (i : Int) : Td K H (.int i) (.int i)
  | str (x : Str) : Td K H (.str x) (.str x)
  | tup {a : Addr} {xs : List V} {ds : List PyData} : SqT K H a xs → TdAll K H xs ds → Td K H (.ref a) (.tuple ds)
inductive TdAll (K : PySem.W.Frag) (H : Hp) : List V → List PyData → Prop
  | nil : TdAll K H [] []
  | cons {v : V} {vs : List V} {d : PyData} {ds : List PyData} : Td K H v d → TdAll K H vs ds → TdAll K H (v :: vs) (d :: ds)
end
section
variable {K : PySem.W.Frag} {H H' : Hp} {x : V} {xs ys : List V} {d : PyData} {ds es : List PyData}
/-- what H' keeps of the tuples -/
def KeepT (K : PySem.W.Frag) (H H' : Hp) : Prop := ∀ a xs, SqT K H a xs → SqT K H' a xs
theorem KeepT.of (e : ∀ a o, H a = some o → H' a = some o) : KeepT K H H' := by
  intro a xs h
  rcases h with (h | ⟨o, h⟩) | h
  · exact .inl (.inl (e _ _ h))
  · exact .inl (.inr ⟨o, e _ _ h⟩)
  · exact .inr h
/-- all but a list, a dict or an instance stays -/
theorem KeepT.off {p : Addr} {u : HO} (hp : H p = some u) (hu : (∀ xs, u ≠ .tup xs) ∧ ∀ o v, u ≠ .frz o v) (e : ∀ a o, a ≠ p → H a = some o → H' a = some o) : KeepT K H H' := by
  intro a xs h
  rcases h with (h | ⟨o, h⟩) | h
  · exact .inl (.inl (e _ _ (fun q => by
      rw [q, hp] at h
      exact hu.1 _ (Option.some.inj h)) h))
  · exact .inl (.inr ⟨o, e _ _ (fun q => by
      rw [q, hp] at h
      exact hu.2 _ _ (Option.some.inj h)) h⟩)
  · exact .inr h
theorem KeepT.lst {p : Addr} {zs : List V} (hp : H p = some (.lst zs)) (e : ∀ a o, a ≠ p → H a = some o → H' a = some o) : KeepT K H H' := .off hp ⟨(fun _ z => nomatch z), (fun _ _ z => nomatch z)⟩ e
mutual
theorem Td.keep (k : KeepT K H H') : ∀ {x : V} {d : PyData}, Td K H x d → Td K H' x d
  | _, _, .non => .non
  | _, _, .int i => .int i
  | _, _, .str x => .str x
  | _, _, .tup h a => .tup (k _ _ h) (TdAll.keep k a)
theorem TdAll.keep (k : KeepT K H H') : ∀ {xs : List V} {ds : List PyData}, TdAll K H xs ds → TdAll K H' xs ds
  | _, _, .nil => .nil
  | _, _, .cons h a => .cons (Td.keep k h) (TdAll.keep k a)
end
theorem Td.ex (e : ∀ a o, H a = some o → H' a = some o) (h : Td K H x d) : Td K H' x d := h.keep (.of e)
theorem TdAll.ex (e : ∀ a o, H a = some o → H' a = some o) (h : TdAll K H xs ds) : TdAll K H' xs ds := h.keep (.of e)
mutual
theorem Td.dp : ∀ {x : V} {d : PyData}, Td K H x d → Dp K H x d
  | _, _, .non => .non
  | _, _, .int i => .int i
  | _, _, .str x => .str x
  | _, _, .tup h a => .tup h (TdAll.dp a)
theorem TdAll.dp : ∀ {xs : List V} {ds : List PyData}, TdAll K H xs ds → DpAll K H xs ds
  | _, _, .nil => .nil
  | _, _, .cons h a => .cons (Td.dp h) (TdAll.dp a)
end
theorem TdAll.len : ∀ {xs : List V} {ds : List PyData}, TdAll K H xs ds → xs.length = ds.length
  | _, _, .nil => rfl
  | _, _, .cons _ a => by rw [List.length_cons, List.length_cons, TdAll.len a]
theorem TdAll.snoc : ∀ {xs : List V} {ds : List PyData} {x : V} {d : PyData}, TdAll K H xs ds → Td K H x d → TdAll K H (xs ++ [x]) (ds ++ [d])
  | _, _, _, _, .nil, h => .cons h .nil
  | _, _, _, _, .cons a b, h => .cons a (b.snoc h)
theorem TdAll.app : ∀ {xs ys : List V} {ds es : List PyData}, TdAll K H xs ds → TdAll K H ys es → TdAll K H (xs ++ ys) (ds ++ es)
  | _, _, _, _, .nil, h => h
  | _, _, _, _, .cons a b, h => .cons a (b.app h)
theorem TdAll.get : ∀ {xs : List V} {ds : List PyData} {i : Nat} {x : V}, TdAll K H xs ds → xs[i]? = some x → ∃ d, ds[i]? = some d ∧ Td K H x d
  | _, _, _, _, .nil, h => by simp at h
  | _, _, 0, _, .cons a _, h => ⟨_, rfl, by
    have e := Option.some.inj h
    rw [← e]
    exact a⟩
  | _, _, i + 1, _, .cons _ b, h => by
    obtain ⟨d, h1, h2⟩ := TdAll.get (i := i) b (by simpa using h)
    exact ⟨d, by simpa using h1, h2⟩
theorem TdAll.at : ∀ {xs : List V} {ds : List PyData} {i : Nat} {d : PyData}, TdAll K H xs ds → ds[i]? = some d → ∃ x, xs[i]? = some x ∧ Td K H x d
  | _, _, _, _, .nil, h => by simp at h
  | _, _, 0, _, .cons a _, h => ⟨_, rfl, by
    have e := Option.some.inj h
    rw [← e]
    exact a⟩
  | _, _, i + 1, _, .cons _ b, h => by
    obtain ⟨d, h1, h2⟩ := TdAll.at (i := i) b (by simpa using h)
    exact ⟨d, by simpa using h1, h2⟩
theorem Td.inv_tup (h : Td K H x (.tuple ds)) : ∃ p xs, x = .ref p ∧ SqT K H p xs ∧ TdAll K H xs ds := by
  cases h with
  | tup a b => exact ⟨_, _, rfl, a, b⟩
theorem Td.inv_int {i : Int} (h : Td K H x (.int i)) : x = .int i := by cases h <;> rfl
theorem Td.inv_str {z : Str} (h : Td K H x (.str z)) : x = .str z := by cases h <;> rfl
theorem Td.inv_non (h : Td K H x .none) : x = .non := by cases h <;> rfl
theorem TdAll.inv_cons (h : TdAll K H xs (d :: ds)) : ∃ y ys, xs = y :: ys ∧ Td K H y d ∧ TdAll K H ys ds := by
  cases h with
  | cons a b => exact ⟨_, _, rfl, a, b⟩
theorem TdAll.inv_nil (h : TdAll K H xs []) : xs = [] := by cases h <;> rfl
theorem TdAll.ints : ∀ ns : List Int, TdAll K H (ns.map V.int) (ns.map .int)
  | [] => .nil
  | n :: r => .cons (.int n) (TdAll.ints r)
theorem TdAll.inv_ints : ∀ {xs : List V} (ns : List Int), TdAll K H xs (ns.map .int) → xs = ns.map V.int
  | _, [], h => h.inv_nil
  | _, n :: r, h => by
    obtain ⟨y, ys, rfl, h1, h2⟩ := TdAll.inv_cons h
    rw [h1.inv_int, TdAll.inv_ints r h2]
    rfl
/-- a tuple of three, of four, of two -/
theorem Td.inv2 {d1 d2 : PyData} (h : Td K H x (.tuple [d1, d2])) : ∃ p y z, x = .ref p ∧ SqT K H p [y, z] ∧ Td K H y d1 ∧ Td K H z d2 := by
  obtain ⟨p, xs, rfl, h1, h2⟩ := h.inv_tup
  obtain ⟨y, ys, rfl, a, h2⟩ := h2.inv_cons
  obtain ⟨z, zs, rfl, b, h2⟩ := h2.inv_cons
  rw [h2.inv_nil] at h1
  exact ⟨p, y, z, rfl, h1, a, b⟩
theorem Td.inv3 {d1 d2 d3 : PyData} (h : Td K H x (.tuple [d1, d2, d3])) : ∃ p y z u, x = .ref p ∧ SqT K H p [y, z, u] ∧ Td K H y d1 ∧ Td K H z d2 ∧ Td K H u d3 := by
  obtain ⟨p, xs, rfl, h1, h2⟩ := h.inv_tup
  obtain ⟨y, ys, rfl, a, h2⟩ := h2.inv_cons
  obtain ⟨z, zs, rfl, b, h2⟩ := h2.inv_cons
  obtain ⟨u, us, rfl, c, h2⟩ := h2.inv_cons
  rw [h2.inv_nil] at h1
  exact ⟨p, y, z, u, rfl, h1, a, b, c⟩
theorem Td.inv4 {d1 d2 d3 d4 : PyData} (h : Td K H x (.tuple [d1, d2, d3, d4])) : ∃ p y z u v, x = .ref p ∧ SqT K H p [y, z, u, v] ∧ Td K H y d1 ∧ Td K H z d2 ∧ Td K H u d3 ∧ Td K H v d4 := by
  obtain ⟨p, xs, rfl, h1, h2⟩ := h.inv_tup
  obtain ⟨y, ys, rfl, a, h2⟩ := h2.inv_cons
  obtain ⟨z, zs, rfl, b, h2⟩ := h2.inv_cons
  obtain ⟨u, us, rfl, c, h2⟩ := h2.inv_cons
  obtain ⟨v, vs, rfl, e, h2⟩ := h2.inv_cons
  rw [h2.inv_nil] at h1
  exact ⟨p, y, z, u, v, rfl, h1, a, b, c, e⟩
end
/-! ### snapshots -/
inductive Part where
  | tgt (n : Int)
  | pair (k : Int) (v : Option Int)
def dOpt : Option Int → PyData
  | none => .none
  | some v => .int v
def dPart : Part → PyData
  | .tgt n => .int n
  | .pair k v => .tuple [.int k, dOpt v]
structure Thing where
  n : Int
  home : Str
  sort : Str
  parts : List Part
def dThing (t : Thing) : PyData := .tuple [.int t.n, .str t.home, .str t.sort, .tuple (t.parts.map dPart)]
def dRoot (r : Str × Int) : PyData := .tuple [.str r.1, .int r.2]
structure Shot where
  roots : List (Str × Int)
  things : List Thing
def dShot (s : Shot) : PyData := .tuple [.tuple (s.roots.map dRoot), .tuple (s.things.map dThing)]
/-- records have slots with objects, maps entries, weak objects targets -/
def OkThing (t : Thing) : Prop := (t.sort = "record" ∧ ∀ p ∈ t.parts, ∃ k v, p = .pair k (some v)) ∨ (t.sort = "map" ∧ ∀ p ∈ t.parts, ∃ k v, p = .pair k v) ∨ (t.sort = "weak" ∧ ∀ p ∈ t.parts, ∃ n, p = .tgt n)
/-! ### arcs, and what is alive -/
structure Arc where
  link : List Key
  src : List Int
  tgt : Int
def kD : Key → PyData
  | .inl i => .int i
  | .inr z => .str z
def dArc (α : Arc) : PyData := .tuple [.tuple (α.link.map kD), .tuple (α.src.map .int), .int α.tgt]
def rootArc (r : Str × Int) : Arc := ⟨[.inr "root", .inr r.1], [], r.2⟩
def slotArc (n : Int) : Part → Option Arc
  | .pair k (some v) => some ⟨[.inr "slot", .inl n, .inl k], [n], v⟩
  | _ => none
def entryArc (n : Int) : Part → Option Arc
  | .pair k (some v) => some ⟨[.inr "entry", .inl n, .inl k], [n, k], v⟩
  | _ => none
def thingArcs (t : Thing) : List Arc := if t.sort = "record" then t.parts.filterMap (slotArc t.n) else if t.sort = "map" then t.parts.filterMap (entryArc t.n) else []
def arcsOf (s : Shot) : List Arc := s.roots.map rootArc ++ s.things.flatMap thingArcs
inductive Live (as : List Arc) : Int → Prop
  | mk {α : Arc} : α ∈ as → (∀ n ∈ α.src, Live as n) → Live as α.tgt
/-- what is closed under the arcs has all that is alive -/
theorem Live.sub {as : List Arc} {S : Int → Prop} (h : ∀ α ∈ as, (∀ n ∈ α.src, S n) → S α.tgt) {n : Int} (l : Live as n) : S n := by
  induction l with
  | mk m _ ih => exact h _ m ih
theorem kV_td {K : PySem.W.Frag} {H : Hp} : ∀ k : Key, Td K H (kV k) (kD k)
  | .inl i => .int i
  | .inr z => .str z
theorem kVs_td {K : PySem.W.Frag} {H : Hp} : ∀ ks : List Key, TdAll K H (ks.map kV) (ks.map kD)
  | [] => .nil
  | k :: r => .cons (kV_td k) (kVs_td r)
end Sn
namespace Sn
open PySem PySem.Spec PyProof.Rows L2
/-! ### nets: roots and rows; what the worklist of `met` does -/
structure Row where
  n : Int
  sort : Str
  parts : List Part
structure NetM where
  roots : List (Str × Int)
  rows : List Row
def pairOf : Part → Option (Int × Int)
  | .pair k (some v) => some (k, v)
  | _ => none
def pairsOf (r : Row) : List (Int × Int) := r.parts.filterMap pairOf
def slotA (n : Int) (p : Int × Int) : Arc := ⟨[.inr "slot", .inl n, .inl p.1], [n], p.2⟩
def entryA (n : Int) (p : Int × Int) : Arc := ⟨[.inr "entry", .inl n, .inl p.1], [n, p.1], p.2⟩
def rowArcs (r : Row) : List Arc := if r.sort = "record" then (pairsOf r).map (slotA r.n) else if r.sort = "map" then (pairsOf r).map (entryA r.n) else []
def netArcs (N : NetM) : List Arc := N.roots.map rootArc ++ N.rows.flatMap rowArcs
def isVal : Part → Bool
  | .pair _ none => false
  | _ => true
def rowOf (t : Thing) : Row := ⟨t.n, t.sort, if t.sort = "map" then t.parts.filter isVal else t.parts⟩
def netM (s : Shot) : NetM := ⟨s.roots, s.things.map rowOf⟩
theorem slot_pair (n : Int) (p : Part) : slotArc n p = (pairOf p).map (slotA n) := by
  cases p with
  | tgt m => rfl
  | pair k v => cases v <;> rfl
theorem entry_pair (n : Int) (p : Part) : entryArc n p = (pairOf p).map (entryA n) := by
  cases p with
  | tgt m => rfl
  | pair k v => cases v <;> rfl
theorem filterMap_map' {α β γ : Type} (f : α → Option β) (g : β → γ) (l : List α) : l.filterMap (fun x => (f x).map g) = (l.filterMap f).map g := by
  induction l with
  | nil => rfl
  | cons x l ih =>
    cases e : f x with
    | none => rw [List.filterMap_cons_none (by rw [e]; rfl), List.filterMap_cons_none e, ih]
    | some y => rw [List.filterMap_cons_some (b := g y) (by rw [e]; rfl), List.filterMap_cons_some e, List.map_cons, ih]
theorem vals_same : ∀ l : List Part, (l.filter isVal).filterMap pairOf = l.filterMap pairOf
  | [] => rfl
  | p :: l => by
    have ih := vals_same l
    cases p with
    | tgt m => rw [List.filter_cons_of_pos rfl, List.filterMap_cons_none rfl, List.filterMap_cons_none rfl, ih]
    | pair k v =>
      cases v with
      | none => rw [List.filter_cons_of_neg (show ¬ (isVal (Part.pair k none) = true) from Bool.false_ne_true), List.filterMap_cons_none rfl, ih]
      | some v => rw [List.filter_cons_of_pos rfl, List.filterMap_cons_some (f := pairOf) (b := (k, v)) rfl, List.filterMap_cons_some (f := pairOf) (b := (k, v)) rfl, ih]
theorem row_arcs (t : Thing) : rowArcs (rowOf t) = thingArcs t := by
  unfold rowArcs thingArcs pairsOf rowOf
  dsimp only
  by_cases h1 : t.sort = "record"
  · rw [if_pos h1, if_pos h1, if_neg (by rw [h1]; decide +kernel), ← filterMap_map']
    exact (congrArg (fun f => List.filterMap f t.parts) (funext fun p => slot_pair t.n p)).symm
  · rw [if_neg h1, if_neg h1]
    by_cases h2 : t.sort = "map"
    · rw [if_pos h2, if_pos h2, if_pos h2, vals_same, ← filterMap_map']
      exact (congrArg (fun f => List.filterMap f t.parts) (funext fun p => entry_pair t.n p)).symm
    · rw [if_neg h2, if_neg h2]
theorem net_arcs (s : Shot) : netArcs (netM s) = arcsOf s := by
  unfold netArcs netM arcsOf
  dsimp only
  rw [List.flatMap_map]
  exact congrArg (fun f => s.roots.map rootArc ++ s.things.flatMap f) (funext row_arcs)
/-- records and maps have pairs with objects -/
def OkRow (r : Row) : Prop := (r.sort = "record" ∧ ∃ ps : List (Int × Int), r.parts = ps.map fun p => .pair p.1 (some p.2)) ∨ (r.sort = "map" ∧ ∃ ps : List (Int × Int), r.parts = ps.map fun p => .pair p.1 (some p.2)) ∨ r.sort = "weak"
theorem pairs_of {r : Row} {ps : List (Int × Int)} (h : r.parts = ps.map fun p => .pair p.1 (some p.2)) : pairsOf r = ps := by
  unfold pairsOf
  rw [h]
  clear h
  induction ps with
  | nil => rfl
  | cons p ps ih => rw [List.map_cons, List.filterMap_cons_some (f := pairOf) (b := p) rfl, ih]
structure OkNet (N : NetM) : Prop where
  rows : ∀ r ∈ N.rows, OkRow r
  nodup : (N.rows.map Row.n).Nodup
  there : ∀ α ∈ netArcs N, α.tgt ∈ N.rows.map Row.n
  many : (netArcs N).length ≤ 1000
  len : N.rows.length ≤ 1000
theorem row_uniq {rs : List Row} (h : (rs.map Row.n).Nodup) {r r' : Row} (m : r ∈ rs) (m' : r' ∈ rs) (e : r.n = r'.n) : r = r' := by
  induction rs with
  | nil => exact absurd m List.not_mem_nil
  | cons x rs ih =>
    rw [List.map_cons] at h
    have hn := List.nodup_cons.mp h
    rcases List.mem_cons.mp m with rfl | m
    · rcases List.mem_cons.mp m' with rfl | m'
      · rfl
      · exact absurd (List.mem_map.mpr ⟨r', m', e.symm⟩) hn.1
    · rcases List.mem_cons.mp m' with q | m'
      · rw [q] at e
        exact absurd (List.mem_map.mpr ⟨r, m, e⟩) hn.1
      · exact ih hn.2 m m'
/-- what waits: values by their keys, in their order -/
def wOf (ps : List (Int × Int)) (n : Int) : List Int := (ps.filter fun p => decide (p.1 = n)).map (·.2)
theorem wOf_snoc (ps : List (Int × Int)) (s n v : Int) : wOf (ps ++ [(s, v)]) n = wOf ps n ++ (if s = n then [v] else []) := by
  unfold wOf
  rw [List.filter_append, List.map_append]
  by_cases h : s = n
  · rw [if_pos h, List.filter_cons_of_pos (p := fun p : Int × Int => decide (p.1 = n)) (decide_eq_true h)]
    rfl
  · rw [if_neg h, List.filter_cons_of_neg (p := fun p : Int × Int => decide (p.1 = n)) (by simpa using h)]
    rfl
theorem wOf_mem {ps : List (Int × Int)} {n v : Int} : v ∈ wOf ps n ↔ (n, v) ∈ ps := by
  unfold wOf
  constructor
  · intro h
    obtain ⟨p, hp, rfl⟩ := List.mem_map.mp h
    have := List.mem_filter.mp hp
    have e : p.1 = n := of_decide_eq_true this.2
    rw [← e]
    exact this.1
  · intro h
    exact List.mem_map.mpr ⟨(n, v), List.mem_filter.mpr ⟨h, decide_eq_true rfl⟩, rfl⟩
theorem wOf_len (ps : List (Int × Int)) (n : Int) : (wOf ps n).length ≤ ps.length := by
  unfold wOf
  rw [List.length_map]
  exact List.length_filter_le _ _
/-- what stands in the rows that are not met -/
def wsum (w : Row → Nat) (rs : List Row) (met : List Int) : Nat := ((rs.filter fun r => decide (r.n ∉ met)).map w).sum
theorem wsum_le (w : Row → Nat) (rs : List Row) (met : List Int) (n : Int) : wsum w rs (met ++ [n]) ≤ wsum w rs met := by
  unfold wsum
  induction rs with
  | nil => exact Nat.le_refl _
  | cons r rs ih =>
    by_cases m : r.n ∈ met
    · rw [List.filter_cons_of_neg (by simp [m]), List.filter_cons_of_neg (by simp [m])]
      exact ih
    · by_cases e : r.n = n
      · rw [List.filter_cons_of_neg (by simp [e]), List.filter_cons_of_pos (by simp [m]), List.map_cons, List.sum_cons]
        omega
      · rw [List.filter_cons_of_pos (by simp [m, e]), List.filter_cons_of_pos (by simp [m]), List.map_cons, List.map_cons, List.sum_cons, List.sum_cons]
        omega
theorem wsum_less (w : Row → Nat) {rs : List Row} {met : List Int} {r : Row} (hr : r ∈ rs) (h : r.n ∉ met) : wsum w rs (met ++ [r.n]) + w r ≤ wsum w rs met := by
  obtain ⟨a, b, rfl⟩ := List.append_of_mem hr
  have h1 := wsum_le w a met r.n
  have h2 := wsum_le w b met r.n
  unfold wsum at *
  rw [List.filter_append, List.filter_append, List.map_append, List.map_append, List.sum_append, List.sum_append, List.filter_cons_of_neg (by simp), List.filter_cons_of_pos (by simp [h]), List.map_cons, List.sum_cons]
  omega
theorem wsum_nil (w : Row → Nat) (rs : List Row) : wsum w rs [] = (rs.map w).sum := by
  unfold wsum
  rw [List.filter_eq_self.mpr (fun r _ => by simp)]
theorem wsum_one_nil (rs : List Row) : wsum (fun _ => 1) rs [] = rs.length := by
  rw [wsum_nil]
  induction rs with
  | nil => rfl
  | cons r rs ih =>
    rw [List.map_cons, List.sum_cons, ih, List.length_cons]
    omega
def adds (r : Row) (met : List Int) : List Int := if r.sort = "record" then (pairsOf r).map (·.2) else if r.sort = "map" then ((pairsOf r).filter fun p => decide (p.1 ∈ met)).map (·.2) else []
def waits (r : Row) (met : List Int) : List (Int × Int) := if r.sort = "map" then (pairsOf r).filter fun p => decide (p.1 ∉ met) else []
theorem filt_both {α : Type} (l : List α) (p : α → Prop) [DecidablePred p] : (l.filter fun x => decide (p x)).length + (l.filter fun x => decide (¬ p x)).length = l.length := by
  induction l with
  | nil => rfl
  | cons x l ih =>
    by_cases h : p x
    · rw [List.filter_cons_of_pos (by simpa using h), List.filter_cons_of_neg (by simpa using h), List.length_cons, List.length_cons]
      omega
    · rw [List.filter_cons_of_neg (by simpa using h), List.filter_cons_of_pos (by simpa using h), List.length_cons, List.length_cons]
      omega
theorem adds_waits (r : Row) (met : List Int) : (adds r met).length + (waits r met).length = (rowArcs r).length := by
  unfold adds waits rowArcs
  by_cases h1 : r.sort = "record"
  · rw [if_pos h1, if_pos h1, if_neg (by rw [h1]; decide +kernel), List.length_map, List.length_map]
    rfl
  · rw [if_neg h1, if_neg h1]
    by_cases h2 : r.sort = "map"
    · rw [if_pos h2, if_pos h2, if_pos h2, List.length_map, List.length_map]
      exact filt_both (pairsOf r) fun p => p.1 ∈ met
    · rw [if_neg h2, if_neg h2, if_neg h2]
      rfl
/-- the state of the worklist: met, ahead, waiting -/
structure WlInv (N : NetM) (B met ys : List Int) (ps : List (Int × Int)) (m : Nat) : Prop where
  live : ∀ n ∈ met, Live ((netArcs N).filter fun α => decide (α.tgt ∉ B)) n
  nodup : met.Nodup
  can : ∀ y ∈ ys, ∃ α ∈ netArcs N, α.tgt = y ∧ ∀ s ∈ α.src, s ∈ met
  wai : ∀ p ∈ ps, ∃ α ∈ netArcs N, α.tgt = p.2 ∧ ∀ s ∈ α.src, s ∈ met ∨ s = p.1
  all : ∀ α ∈ netArcs N, (∀ s ∈ α.src, s ∈ met) → α.tgt ∈ met ∨ α.tgt ∈ ys ∨ α.tgt ∈ B
  wal : ∀ r ∈ N.rows, r.sort = "map" → r.n ∈ met → ∀ p ∈ pairsOf r, p.1 ∉ met → p ∈ ps
  many : met.length + wsum (fun _ => 1) N.rows met ≤ 1000
  me : m = ys.length + wsum (fun r => (rowArcs r).length) N.rows met + (ps.filter fun p => decide (p.1 ∉ met)).length
  le : m ≤ 1000
  pl : ps.length + wsum (fun r => (rowArcs r).length) N.rows met ≤ 1000
theorem arc_cases {N : NetM} {α : Arc} (h : α ∈ netArcs N) : (∃ r ∈ N.roots, α = rootArc r) ∨ (∃ r ∈ N.rows, r.sort = "record" ∧ ∃ p ∈ pairsOf r, α = slotA r.n p) ∨ (∃ r ∈ N.rows, r.sort = "map" ∧ ∃ p ∈ pairsOf r, α = entryA r.n p) := by
  rcases List.mem_append.mp h with h | h
  · obtain ⟨r, hr, rfl⟩ := List.mem_map.mp h
    exact .inl ⟨r, hr, rfl⟩
  · obtain ⟨r, hr, h⟩ := List.mem_flatMap.mp h
    unfold rowArcs at h
    by_cases h1 : r.sort = "record"
    · rw [if_pos h1] at h
      obtain ⟨p, hp, rfl⟩ := List.mem_map.mp h
      exact .inr (.inl ⟨r, hr, h1, p, hp, rfl⟩)
    · rw [if_neg h1] at h
      by_cases h2 : r.sort = "map"
      · rw [if_pos h2] at h
        obtain ⟨p, hp, rfl⟩ := List.mem_map.mp h
        exact .inr (.inr ⟨r, hr, h2, p, hp, rfl⟩)
      · rw [if_neg h2] at h
        exact absurd h List.not_mem_nil
theorem slot_in {N : NetM} {r : Row} (hr : r ∈ N.rows) (h : r.sort = "record") {p : Int × Int} (hp : p ∈ pairsOf r) : slotA r.n p ∈ netArcs N := by
  refine List.mem_append.mpr (.inr (List.mem_flatMap.mpr ⟨r, hr, ?_⟩))
  unfold rowArcs
  rw [if_pos h]
  exact List.mem_map.mpr ⟨p, hp, rfl⟩
theorem entry_in {N : NetM} {r : Row} (hr : r ∈ N.rows) (h : r.sort = "map") {p : Int × Int} (hp : p ∈ pairsOf r) : entryA r.n p ∈ netArcs N := by
  refine List.mem_append.mpr (.inr (List.mem_flatMap.mpr ⟨r, hr, ?_⟩))
  unfold rowArcs
  rw [if_neg (by rw [h]; decide +kernel), if_pos h]
  exact List.mem_map.mpr ⟨p, hp, rfl⟩
theorem WlInv.start {N : NetM} {B : List Int} (ok : OkNet N) : ∃ m, WlInv N B [] (N.roots.map (·.2)) [] m := by
  have h0 : (netArcs N).length = N.roots.length + (N.rows.map fun r => (rowArcs r).length).sum := by
    unfold netArcs
    rw [List.length_append, List.length_map, List.length_flatMap]
  have h1 := ok.many
  refine ⟨_, ⟨fun n h => absurd h List.not_mem_nil, List.nodup_nil, fun y hy => ?_, fun p h => absurd h List.not_mem_nil, fun α ha hs => ?_, fun r _ _ h => absurd h List.not_mem_nil, ?_, rfl, ?_, ?_⟩⟩
  · obtain ⟨r, hr, rfl⟩ := List.mem_map.mp hy
    exact ⟨rootArc r, List.mem_append.mpr (.inl (List.mem_map.mpr ⟨r, hr, rfl⟩)), rfl, fun s h => absurd h List.not_mem_nil⟩
  · rcases arc_cases ha with ⟨r, hr, rfl⟩ | ⟨r, hr, _, p, hp, rfl⟩ | ⟨r, hr, _, p, hp, rfl⟩
    · exact .inr (.inl (List.mem_map.mpr ⟨r, hr, rfl⟩))
    · exact absurd (hs r.n List.mem_cons_self) List.not_mem_nil
    · exact absurd (hs r.n List.mem_cons_self) List.not_mem_nil
  · rw [wsum_one_nil, List.length_nil]
    have := ok.len
    omega
  · rw [wsum_nil, List.length_map, List.filter_nil, List.length_nil]
    omega
  · rw [wsum_nil, List.length_nil]
    omega
/-- popped, but met or barred -/
theorem WlInv.skip {N : NetM} {B met zs : List Int} {n : Int} {ps : List (Int × Int)} {m : Nat} (h : WlInv N B met (zs ++ [n]) ps m) (hn : n ∈ met ∨ n ∈ B) : ∃ m', m' < m ∧ WlInv N B met zs ps m' := by
  have e := h.me
  rw [List.length_append, List.length_singleton] at e
  have l := h.le
  refine ⟨_, ?_, ⟨h.live, h.nodup, fun y hy => h.can y (List.mem_append.mpr (.inl hy)), h.wai, fun α ha hs => ?_, h.wal, h.many, rfl, by omega, h.pl⟩⟩
  · omega
  · rcases h.all α ha hs with z | z | z
    · exact .inl z
    · rcases List.mem_append.mp z with z | z
      · exact .inr (.inl z)
      · rw [List.mem_singleton.mp z]
        rcases hn with q | q
        · exact .inl q
        · exact .inr (.inr q)
    · exact .inr (.inr z)
theorem filt_split (ps : List (Int × Int)) {met : List Int} {n : Int} (hn : n ∉ met) : (ps.filter fun p => decide (p.1 ∉ met)).length = (ps.filter fun p => decide (p.1 ∉ met ++ [n])).length + (wOf ps n).length := by
  unfold wOf
  rw [List.length_map]
  induction ps with
  | nil => rfl
  | cons p ps ih =>
    by_cases e : p.1 = n
    · rw [List.filter_cons_of_pos (by simp [e, hn]), List.filter_cons_of_neg (by simp [e]), List.filter_cons_of_pos (by simp [e]), List.length_cons, List.length_cons]
      omega
    · by_cases m : p.1 ∈ met
      · rw [List.filter_cons_of_neg (by simp [m]), List.filter_cons_of_neg (by simp [m]), List.filter_cons_of_neg (by simp [e])]
        exact ih
      · rw [List.filter_cons_of_pos (by simp [m]), List.filter_cons_of_pos (by simp [m, e]), List.filter_cons_of_neg (by simp [e]), List.length_cons, List.length_cons]
        omega
theorem waits_key {r : Row} {met : List Int} {p : Int × Int} (h : p ∈ waits r met) : r.sort = "map" ∧ p ∈ pairsOf r ∧ p.1 ∉ met := by
  unfold waits at h
  by_cases h2 : r.sort = "map"
  · rw [if_pos h2] at h
    have := List.mem_filter.mp h
    exact ⟨h2, this.1, of_decide_eq_true this.2⟩
  · rw [if_neg h2] at h
    exact absurd h List.not_mem_nil
/-- a new object is met -/
theorem WlInv.step {N : NetM} {B met zs : List Int} {r : Row} {ps : List (Int × Int)} {m : Nat} (ok : OkNet N) (h : WlInv N B met (zs ++ [r.n]) ps m) (hr : r ∈ N.rows) (hm : r.n ∉ met) (hB : r.n ∉ B) :
    ∃ m', m' < m ∧ WlInv N B (met ++ [r.n]) (zs ++ adds r (met ++ [r.n]) ++ wOf (ps ++ waits r (met ++ [r.n])) r.n) (ps ++ waits r (met ++ [r.n])) m' := by
  have e := h.me
  rw [List.length_append, List.length_singleton] at e
  have l := h.le
  have hpl := h.pl
  have w1 := wsum_less (fun _ => 1) hr hm
  have w2 := wsum_less (fun r => (rowArcs r).length) hr hm
  have aw := adds_waits r (met ++ [r.n])
  have fs := filt_split ps hm
  have many := h.many
  have sub : ∀ {s}, s ∈ met → s ∈ met ++ [r.n] := fun q => List.mem_append.mpr (.inl q)
  have self : r.n ∈ met ++ [r.n] := List.mem_append.mpr (.inr List.mem_cons_self)
  have wn : wOf (ps ++ waits r (met ++ [r.n])) r.n = wOf ps r.n := by
    unfold wOf
    rw [List.filter_append, List.filter_eq_nil_iff (l := waits r _) |>.mpr (fun p hp q => ?_), List.append_nil]
    have := (waits_key hp).2.2
    rw [of_decide_eq_true q] at this
    exact this self
  have fw : ((ps ++ waits r (met ++ [r.n])).filter fun p => decide (p.1 ∉ met ++ [r.n])).length = (ps.filter fun p => decide (p.1 ∉ met ++ [r.n])).length + (waits r (met ++ [r.n])).length := by
    rw [List.filter_append, List.length_append, List.filter_eq_self (l := waits r _) |>.mpr (fun p hp => decide_eq_true (waits_key hp).2.2)]
  rw [wn]
  refine ⟨_, ?_, ⟨fun n hn => ?_, ?_, fun y hy => ?_, fun p hp => ?_, fun α ha hs => ?_, fun r' hr' hs hn p hp hk => ?_, ?_, rfl, ?_, ?_⟩⟩
  · rw [fw, List.length_append, List.length_append]
    try dsimp only at w2
    omega
  · rcases List.mem_append.mp hn with z | z
    · exact h.live n z
    · rw [List.mem_singleton.mp z]
      obtain ⟨α, ha, ht, hs⟩ := h.can r.n (List.mem_append.mpr (.inr List.mem_cons_self))
      rw [← ht]
      exact .mk (List.mem_filter.mpr ⟨ha, decide_eq_true (by rw [ht]; exact hB)⟩) fun s q => h.live s (hs s q)
  · rw [List.nodup_append]
    refine ⟨h.nodup, by simp, fun a ha b hb q => ?_⟩
    rw [List.mem_singleton.mp hb] at q
    rw [q] at ha
    exact hm ha
  · rcases List.mem_append.mp hy with z | z
    · rcases List.mem_append.mp z with z | z
      · obtain ⟨α, ha, ht, hs⟩ := h.can y (List.mem_append.mpr (.inl z))
        exact ⟨α, ha, ht, fun s q => sub (hs s q)⟩
      · unfold adds at z
        by_cases h1 : r.sort = "record"
        · rw [if_pos h1] at z
          obtain ⟨p, hp, rfl⟩ := List.mem_map.mp z
          refine ⟨_, slot_in hr h1 hp, rfl, fun s q => ?_⟩
          rw [List.mem_singleton.mp q]
          exact self
        · rw [if_neg h1] at z
          by_cases h2 : r.sort = "map"
          · rw [if_pos h2] at z
            obtain ⟨p, hp, rfl⟩ := List.mem_map.mp z
            have hp2 := List.mem_filter.mp hp
            refine ⟨_, entry_in hr h2 hp2.1, rfl, fun s q => ?_⟩
            rcases List.mem_cons.mp q with rfl | q
            · exact self
            · rw [List.mem_singleton.mp q]
              exact of_decide_eq_true hp2.2
          · rw [if_neg h2] at z
            exact absurd z List.not_mem_nil
    · obtain ⟨α, ha, ht, hs⟩ := h.wai _ (wOf_mem.mp z)
      refine ⟨α, ha, ht, fun s q => ?_⟩
      rcases hs s q with q | q
      · exact sub q
      · rw [q]
        exact self
  · rcases List.mem_append.mp hp with z | z
    · obtain ⟨α, ha, ht, hs⟩ := h.wai p z
      exact ⟨α, ha, ht, fun s q => (hs s q).imp sub id⟩
    · obtain ⟨h2, hp2, _⟩ := waits_key z
      refine ⟨_, entry_in hr h2 hp2, rfl, fun s q => ?_⟩
      rcases List.mem_cons.mp q with rfl | q
      · exact .inl self
      · exact .inr (List.mem_singleton.mp q)
  · have old : (∀ s ∈ α.src, s ∈ met) → α.tgt ∈ met ++ [r.n] ∨ α.tgt ∈ zs ++ adds r (met ++ [r.n]) ++ wOf ps r.n ∨ α.tgt ∈ B := fun q => by
      rcases h.all α ha q with z | z | z
      · exact .inl (sub z)
      · rcases List.mem_append.mp z with z | z
        · exact .inr (.inl (List.mem_append.mpr (.inl (List.mem_append.mpr (.inl z)))))
        · exact .inl (List.mem_append.mpr (.inr z))
      · exact .inr (.inr z)
    have inA : ∀ {v}, v ∈ adds r (met ++ [r.n]) → v ∈ zs ++ adds r (met ++ [r.n]) ++ wOf ps r.n := fun q => List.mem_append.mpr (.inl (List.mem_append.mpr (.inr q)))
    rcases arc_cases ha with ⟨r', hr', rfl⟩ | ⟨r', hr', h1, p, hp, rfl⟩ | ⟨r', hr', h2, p, hp, rfl⟩
    · exact old fun s q => absurd q List.not_mem_nil
    · rcases List.mem_append.mp (hs r'.n List.mem_cons_self) with z | z
      · exact old fun s q => by
          rw [List.mem_singleton.mp q]
          exact z
      · have er := row_uniq ok.nodup hr' hr (List.mem_singleton.mp z)
        subst er
        refine .inr (.inl (inA ?_))
        unfold adds
        rw [if_pos h1]
        exact List.mem_map.mpr ⟨p, hp, rfl⟩
    · have hk := hs p.1 (List.mem_cons_of_mem _ List.mem_cons_self)
      rcases List.mem_append.mp (hs r'.n List.mem_cons_self) with z | z
      · rcases List.mem_append.mp hk with k | k
        · exact old fun s q => by
            rcases List.mem_cons.mp q with rfl | q
            · exact z
            · rw [List.mem_singleton.mp q]
              exact k
        · have k' := List.mem_singleton.mp k
          have hps := h.wal r' hr' h2 z p hp (by rw [k']; exact hm)
          refine .inr (.inl (List.mem_append.mpr (.inr (wOf_mem.mpr ?_))))
          rw [← k']
          exact hps
      · have er := row_uniq ok.nodup hr' hr (List.mem_singleton.mp z)
        subst er
        refine .inr (.inl (inA ?_))
        unfold adds
        rw [if_neg (by rw [h2]; decide +kernel), if_pos h2]
        exact List.mem_map.mpr ⟨p, List.mem_filter.mpr ⟨hp, decide_eq_true hk⟩, rfl⟩
  · rcases List.mem_append.mp hn with z | z
    · exact List.mem_append.mpr (.inl (h.wal r' hr' hs z p hp fun q => hk (sub q)))
    · have er := row_uniq ok.nodup hr' hr (List.mem_singleton.mp z)
      subst er
      refine List.mem_append.mpr (.inr ?_)
      unfold waits
      rw [if_pos hs]
      exact List.mem_filter.mpr ⟨hp, decide_eq_true hk⟩
  · rw [List.length_append, List.length_singleton]
    omega
  · rw [fw, List.length_append, List.length_append]
    try dsimp only at w2
    omega
  · rw [List.length_append]
    try dsimp only at w2
    omega
/-- when nothing is ahead any more -/
theorem WlInv.done {N : NetM} {B met : List Int} {ps : List (Int × Int)} {m : Nat} (h : WlInv N B met [] ps m) : ∀ n, n ∈ met ↔ Live ((netArcs N).filter fun α => decide (α.tgt ∉ B)) n := by
  intro n
  refine ⟨h.live n, fun l => ?_⟩
  refine Live.sub (S := fun n => n ∈ met) (fun α ha hs => ?_) l
  have ha2 := List.mem_filter.mp ha
  rcases h.all α ha2.1 hs with z | z | z
  · exact z
  · exact absurd z List.not_mem_nil
  · exact absurd z (of_decide_eq_true ha2.2)
end Sn
namespace Gd
open PySem PySem.Spec PyProof.Rows L2 SrtO
/-! sorted of tuples of keys, of any length. -/
/-- where they first differ, both are ints or both are texts -/
def Ali : List Key → List Key → Prop
  | a :: r, b :: s => (a = b → Ali r s) ∧ (a ≠ b → a.isLeft = b.isLeft)
  | _, _ => True
def IsKs (h : Heap) (v : Value) (ks : List Key) : Prop := ∃ a o us n, v = .ref a ∧ h.get? a = some o ∧ o.cls = .type "tuple" ∧ o.data = .seq us n ∧ Vals (ks.map kV) us.toList
theorem IsKs.keeps {h h' : Heap} {v : Value} {ks : List Key} (p : IsKs h v ks) (k : ∀ b o, h.get? b = some o → o.cls = .type "tuple" → h'.get? b = some o) : IsKs h' v ks := by
  obtain ⟨a, o, us, n, e, ho, hc, hd⟩ := p
  exact ⟨a, o, us, n, e, k _ _ ho hc, hc, hd⟩
section
variable {prog : Program} {w : World} {A : Around} {E : Value → Shared → Prop} {s : Shared}
theorem oneLt_strs (c : Bool) {p q : Str} {t u : Tok} {Q : Bool → Shared → Prop} (h : Q (decide (p.cps.toList < q.cps.toList)) s) : wpAny (model prog w) A (oneLt' c (.str p t) (.str q u)) Q E s := by
  cases c with
  | true => exact oneLt_str h
  | false => exact PySem.W.kat_one _ _ (PyProof.Rows.lt_str (Q := PySem.W.BoolBack Q) h)
theorem oneLt_is (c : Bool) {p q : Int} {t u : Tok} {Q : Bool → Shared → Prop} (h : Q (decide (p < q)) s) : wpAny (model prog w) A (oneLt' c (.int p t) (.int q u)) Q E s := by
  cases c with
  | true => exact oneLt_int h
  | false => exact PySem.W.kat_one _ _ (PyProof.Rows.lt_int (Q := PySem.W.BoolBack Q) h)
theorem kat_keys {b : Bool} {Q : Bool → Shared → Prop} : ∀ (ks js : List Key) (us vs : List Value) (i : Nat) (fin : Bool), Vals (ks.map kV) us → Vals (js.map kV) vs → Ali ks js → fin = decide (ks.length < js.length) → Q (ksLt ks js) s →
    PySem.W.KatLex prog w A b fin Q (us.zip vs) i s
  | [], [], _, _, i, fin, h1, h2, _, hf, q => by
    cases h1
    rw [hf]
    exact PySem.W.kat_nil q
  | [], _ :: _, _, _, i, fin, h1, h2, _, hf, q => by
    cases h1
    rw [hf]
    exact PySem.W.kat_nil (by simpa [ksLt] using q)
  | _ :: _, [], _, _, i, fin, h1, h2, _, hf, q => by
    cases h2
    rw [List.zip_nil_right, hf]
    exact PySem.W.kat_nil (by simpa [ksLt] using q)
  | a :: ks, c :: js, _, _, i, fin, h1, h2, al, hf, q => by
    cases h1 with
    | cons r1 h1 =>
      cases h2 with
      | cons r2 h2 =>
        rw [ksLt] at q
        have hf2 : fin = decide (ks.length < js.length) := by
          rw [hf, List.length_cons, List.length_cons]
          exact decide_eq_decide.mpr (by omega)
        rw [List.zip_cons_cons]
        match a, c, r1, r2, al, q with
        | .inl x, .inl y, r1, r2, al, q =>
          obtain ⟨t, rfl⟩ := r1
          obtain ⟨u, rfl⟩ := r2
          refine PySem.W.kat_cons (SeqAt.EqAt.int_int x t y u prog w _ _ ?_)
          refine PySem.W.kat_go (fun e => ?_) (fun e => ?_)
          · have ex : x = y := by simpa using e
            subst ex
            rw [if_pos rfl] at q
            exact PySem.W.kat_yes (kat_keys ks js _ _ (i + 1) fin h1 h2 (al.1 rfl) hf2 q)
          · have ex : ¬ x = y := by simpa using e
            rw [if_neg (fun z => ex (Sum.inl.inj z))] at q
            exact PySem.W.kat_no (oneLt_is _ q)
        | .inr x, .inr y, r1, r2, al, q =>
          obtain ⟨t, rfl⟩ := r1
          obtain ⟨u, rfl⟩ := r2
          refine PySem.W.kat_cons (SeqAt.EqAt.str_str x t y u prog w _ _ ?_)
          refine PySem.W.kat_go (fun e => ?_) (fun e => ?_)
          · have ex : x = y := by simpa using e
            subst ex
            rw [if_pos rfl] at q
            exact PySem.W.kat_yes (kat_keys ks js _ _ (i + 1) fin h1 h2 (al.1 rfl) hf2 q)
          · have ex : ¬ x = y := by simpa using e
            rw [if_neg (fun z => ex (Sum.inr.inj z))] at q
            exact PySem.W.kat_no (oneLt_strs _ q)
        | .inl x, .inr y, _, _, al, _ => exact absurd (al.2 (fun z => nomatch z)) (by simp)
        | .inr x, .inl y, _, _, al, _ => exact absurd (al.2 (fun z => nomatch z)) (by simp)
theorem swo_ks {α : Type} (k : α → List Key) : Swo fun v u => ksLt (k v) (k u) := ⟨fun _ _ h => ksLt_as h, fun _ _ _ h g => ksLt_ntr g h⟩
theorem keys_cmp {vs : List Value} {k : Value → List Key} (hp : ∀ v ∈ vs, IsKs s.heap v (k v)) (al : ∀ v ∈ vs, ∀ u ∈ vs, Ali (k v) (k u)) : Cmp prog w A s (tuples' true) (fun p => p.1 ∈ vs) (lt2 fun v u => ksLt (k v) (k u)) := by
  intro p q hm hm'
  have h1 := hp _ hm
  have h2 := hp _ hm'
  have h3 := al _ hm _ hm'
  show wpAny (model prog w) A (keyLt' (tuples' true) p.1 q.1) (fun r s' => s' = s ∧ r = ksLt (k p.1) (k q.1)) (fun _ _ => False) s
  generalize k p.1 = ks at h1 h3 ⊢
  generalize k q.1 = js at h2 h3 ⊢
  obtain ⟨a, o, us, n, e, ho, hc, hd, r1⟩ := h1
  obtain ⟨a', o', us', n', e', ho', hc', hd', r2⟩ := h2
  rw [e, e']
  refine PySem.W.kat_lt ho hd ho' hd' ?_
  refine kat_keys ks js _ _ 0 _ r1 r2 h3 ?_ ⟨rfl, rfl⟩
  have l1 := r1.length
  have l2 := r2.length
  rw [List.length_map] at l1 l2
  rw [l1, l2, Array.length_toList, Array.length_toList]
theorem firsts_ks {h : Heap} {k : Value → List Key} : ∀ {vs : List Value}, (∀ v ∈ vs, IsKs h v (k v) ∧ ∃ z r, k v = .inr z :: r) → ∃ fs : List Value, PySem.W.KatTups h vs fs ∧ fs.length = vs.length ∧ ∀ f ∈ fs, ∃ x t, f = Value.str x t
  | [], _ => ⟨[], PySem.W.KatTups.nil, rfl, fun _ hm => by simp at hm⟩
  | v :: vs, hp => by
    obtain ⟨fs, h1, h2, h3⟩ := firsts_ks (vs := vs) fun v' hm => hp v' (List.mem_cons_of_mem _ hm)
    obtain ⟨⟨a, o, us, n, e, ho, hc, hd, rel⟩, z, r, ek⟩ := hp v (List.mem_cons_self ..)
    subst e
    rw [ek] at rel
    obtain ⟨u0, e0, t, rfl⟩ := rel.get (i := 0) (x := .str z) rfl
    refine ⟨.str z t :: fs, PySem.W.KatTups.cons ho hc hd (by rw [← Array.getElem?_toList]; exact e0) h1, by rw [List.length_cons, List.length_cons, h2], fun f hm => ?_⟩
    rcases List.mem_cons.mp hm with rfl | hm
    · exact ⟨z, t, rfl⟩
    · exact h3 f hm
theorem keys_sortable {a : Addr} {vs : List Value} {k : Value → List Key} (h0 : 0 < vs.length) (hp : ∀ v ∈ vs, IsKs s.heap v (k v) ∧ ∃ z r, k v = .inr z :: r) (al : ∀ v ∈ vs, ∀ u ∈ vs, Ali (k v) (k u)) (ha : ∀ o, s.heap.get? a = some o → o.cls ≠ .type "tuple") :
    SortableO prog w A s a vs fun v u => ksLt (k v) (k u) := by
  intro h' keep
  have hp' : ∀ v ∈ vs, IsKs h' v (k v) ∧ ∃ z r, k v = .inr z :: r := fun v hm => ⟨(hp v hm).1.keeps fun b o e c => keep b o (fun z => by subst z; exact ha o e c) e, (hp v hm).2⟩
  obtain ⟨fs, h1, h2, h3⟩ := firsts_ks hp'
  refine ⟨tuples' true, fun Q E hq => ?_, keys_cmp (fun v hm => (hp' v hm).1) al⟩
  refine PySem.W.kat_kind (T := .type "str") h1 (by omega) (fun f hm => ?_) (by rfl) ?_
  · obtain ⟨x, t, rfl⟩ := h3 f hm
    exact PySem.W.Looks.now
  · have e : (Value.type "str" != Value.type "tuple") = true := by first | decide +kernel | rfl | decide
    rw [e]
    exact hq
theorem sorted_keys {l : Addr} {vs : List Value} {k : Value → List Key} {Q : Value → Shared → Prop} (hl : s.heap.IsList l vs.toArray) (hz : vs.length ≤ sizeLine) (hp : ∀ v ∈ vs, IsKs s.heap v (k v) ∧ ∃ z r, k v = .inr z :: r) (al : ∀ v ∈ vs, ∀ u ∈ vs, Ali (k v) (k u))
    (h : ∀ (h' : Heap) (d : Addr) (out : List Value), Srtd (fun v u => ksLt (k v) (k u)) out → Stb (fun v u => ksLt (k v) (k u)) out vs → (∀ b o, s.heap.get? b = some o → h'.get? b = some o) → s.heap.objs.size ≤ d → (∃ n, h'.get? d = some (seqObj "list" out.toArray n)) → Q (.ref d) { s with heap := h' }) :
    wpAny (model prog w) A (call (.builtin "sorted") [.ref l]) Q E s := by
  refine sorted_ord (swo_ks k) hl hz (fun h2 h₁ a ha kk => ?_) fun out hs hb => ?_
  · refine keys_sortable (s := { s with heap := h₁ }) (by omega) (fun v hm => ⟨(hp v hm).1.keeps fun b o e _ => (kk b o e).2, (hp v hm).2⟩) al fun o e => ?_
    have e' : some o = some (seqObj "list" vs.toArray 0) := e.symm.trans ha
    cases e'
    intro c
    exact absurd (Value.type.inj c) (by decide)
  · exact h _ _ out hs hb (fun b o e => sortedAll_old e) (Nat.le_succ _) (sortedAll_at s.heap vs out.toArray)
end
abbrev ltK (k : V → List Key) (x y : V) : Bool := ksLt (k x) (k y)
/-- sorted(xs), xs a list of tuples of keys (k says which), each with a text ahead -/
def rSortedK (K : PySem.W.Frag) : List V → Hp → VK → Prop := fun vs H Q => ∃ (a : Addr) (xs : List V) (k : V → List Key), vs = [V.ref a] ∧ SqL K H a xs ∧ (∀ x ∈ xs, ∃ t z r, x = V.ref t ∧ k x = .inr z :: r ∧ H t = some (.tup ((k x).map kV))) ∧
  (∀ x ∈ xs, ∀ y ∈ xs, Ali (k x) (k y)) ∧ ∀ ys p, SrtO.Srtd (ltK k) ys → SrtO.Stb (ltK k) ys xs → H p = none → Q (.ref p) (upd H p (.lst ys))
section
variable {X : Cx}
theorem cr_sortedK : CallR X (.builtin "sorted") (rSortedK X.K) := by
  intro pins s σ H vs us Q I r h
  obtain ⟨a, xs, k, rfl, hs, hx, al, q⟩ := h
  obtain ⟨its, rv, hl, hz⟩ := I.list hs
  obtain ⟨u, rfl, ru⟩ := vals1 r
  obtain rfl : u = Value.ref a := ru
  obtain ⟨e1, e2⟩ := refs_back rv fun x m => by
    obtain ⟨t, _, _, e, _⟩ := hx x m
    exact ⟨t, e⟩
  have inx : ∀ v ∈ its, backV v ∈ xs := fun v hv => by rw [e1]; exact List.mem_map.mpr ⟨_, hv, rfl⟩
  refine sorted_keys (k := fun u => k (backV u)) hl.isList (by rw [← rv.length]; exact hz) (fun v hv => ?_) (fun v hv u hu => al _ (inx v hv) _ (inx u hu)) fun h' d out h1 h2 kp hd hn => ?_
  · obtain ⟨t, rfl⟩ := e2 v hv
    obtain ⟨t', z, r, e, ek, ht⟩ := hx _ (inx _ hv)
    cases e
    obtain ⟨_, its2, r2, o, ho, hc, n, hd⟩ := I.hok _ _ ht
    exact ⟨⟨t, o, its2.toArray, n, rfl, ho, hc, hd, r2⟩, z, r, ek⟩
  · have h3 : ∀ u ∈ out, ∃ a, u = Value.ref a := fun u hu => e2 u (h2.perm.mem_iff.mp hu)
    obtain ⟨n, hn⟩ := hn
    have hb : SrtO.Stb (ltK k) (out.map backV) xs := by
      rw [e1]
      exact SrtO.Stb.map (swo_ks k) backV h2
    refine ⟨.ref d, upd H d (.lst (out.map backV)), I.laid (t' := s.toks) kp hd ⟨?_, out, n, vals_back h3, hn⟩, rfl, q _ d (SrtO.srtd_map h1) hb (I.hok.fresh hd)⟩
    rw [hb.len]
    exact hz
end
end Gd
/-! Promises of defs that run where no repr is under way, the law's end for such a promise, repr of data. -/
namespace Gd
open PySem PySem.Spec PyProof.Rows L2
/-- a promise that is kept wherever no repr is under way -/
structure FnG (P : Program) (w : World) (K : PySem.W.Frag) (mg : Str → Option Value) (base : Heap) (CX : CXT) (k : Nat) (f : Addr) (fd : FuncData) (ps : List Str) (sp : Sp) : Prop where
  arity : ∀ vs H Q E, sp vs H Q E → vs.length = ps.length
  go : ∀ A, Room k A → A.guards = some [] → ∀ outer s H args us vs Q E, Env0 P w K mg base A outer s H →
    BindsTo s fd args (ps.zip us) → Vals vs us → sp vs H Q E →
      codeAny (model P w) A (.call (.ref f) args) (CR CX outer P w H s Q E) s
section
variable {P : Program} {w : World} {K : PySem.W.Frag} {mg : Str → Option Value} {base : Heap} {CX : CXT} {k : Nat} {f : Addr} {fd : FuncData} {ps : List Str} {sp : Sp}
theorem FnG.of (F : FnOk P w K mg base CX k f fd ps sp) : FnG P w K mg base CX k f fd ps sp :=
  ⟨F.len, fun A r _ outer s H args us vs Q E e b v p => F.run A outer s H args us vs Q E r e b v p⟩
theorem FnG.up {j : Nat} (F : FnG P w K mg base CX j f fd ps sp) (h : j ≤ k) : FnG P w K mg base CX k f fd ps sp :=
  ⟨F.arity, fun A r g => F.go A (r.mono h) g⟩
/-- from the body, which may know that no repr is under way -/
theorem fng_of {x qual : Str} {st : Stmt} {N : List Str} (F : Fun K x qual st f fd) (S : FnScope N ps (defScope st)) (ar : ∀ vs H Q E, sp vs H Q E → vs.length = ps.length)
    (body : ∀ (cdv : Value) (A : Around) (outer : List Env) (s : Shared) (H : Hp) (vs : List V) (Q : VK) (E : XK), Room k (A.deeper (envOfC qual (defScope st) s.heap.objs.size f cdv)) → A.guards = some [] → sp vs H Q E →
      ∃ t, PSs (cxOf CX P w K mg base N qual (defScope st) f cdv A outer s H E) (defBody st) t ∧ t { nx := fun _ H' => Q .non H', rt := Q } (start N vs) H) :
    FnG P w K mg base CX (k + 1) f fd ps sp := by
  obtain ⟨⟨oc, od, kV, doc, pm, an, cdv, ct, osl, rfl, look, code⟩, _⟩ := F
  refine ⟨ar, fun A room gd outer s H args us vs Q E env bind rel want => ?_⟩
  have inK : K.In s.heap := env.mod.kin.keeps (fun b o h => (env.bs b o h).1)
  have free : s.heap.NoLimit := env.mod.nolimit.keeps (fun b o h => (env.bs b o h).1)
  have hv := ar vs H Q E want
  refine Att.call_fn inK free look code room.depth bind ?_ (fun s1 inside => ?_) S.co S.gen S.kind
  · refine List.all_eq_true.mpr fun y hy => ?_
    have hp := S.par y.1 (List.of_mem_zip (show (y.1, y.2) ∈ ps.zip us from hy)).1
    rcases hp with q | q
    · rw [q]; rfl
    · rw [q]; rfl
  · obtain ⟨t, derive, reads⟩ := body cdv A outer s H vs Q E (room.deeper _) gd want
    have inv := inv_start (CX := CX) (E := E) S room.hd env hv rel inside
    refine wpAny_mono (derive.run [] s1 (start N vs) H _ inv reads) ?_ (fun _ _ left => left)
    intro flow s2 post
    cases flow with
    | brk => exact (post.choose_spec.choose_spec).2.elim
    | cont => exact (post.choose_spec.choose_spec).2.elim
    | next =>
      obtain ⟨_, H2, J, q⟩ := post
      exact ⟨.non, H2, J.os, J.bare, J.base, J.hok, rfl, q⟩
    | ret u =>
      obtain ⟨v, _, H2, J, rv, q⟩ := post
      exact ⟨v, H2, J.os, J.bare, J.base, J.hok, rv, q⟩
end
end Gd
namespace Gd
open PySem PySem.Spec PyProof.Rows L2
section
variable {X : Cx} {CX : CXT} {k : Nat} {f : Addr} {fd : FuncData} {ps : List Str} {sp : Sp} {dvs : List V} {ds : List Value} {E : XK}
/-- the callee runs, as run_fn says it, where no repr is under way -/
theorem runG {pins : List (Addr × Obj)} {σ : L2.St} {H : Hp} {s : Shared} {Q : VK} {us : List Value} {vs : List V} (F : FnG X.prog X.w X.K X.mg X.base CX k f fd ps sp) (room : Room k X.A) (gd : X.A.guards = some [])
    (bind : Binds X.K fd ps ds) (dflt : Vals dvs ds) (pass : Passes CX X E) (I : Inv X pins σ H s) (rel : Vals vs us) (want : sp (vs ++ dvs) H Q E) :
    wpAny (model X.prog X.w) X.A (call (.ref f) us) (EP X pins σ Q) X.xe s := by
  have rel2 := rel.append dflt
  have many : (us ++ ds).length = ps.length := rel2.length.symm.trans (F.arity _ _ _ _ want)
  have ran := F.go X.A room gd X.stack s H ⟨us, []⟩ _ _ Q E I.env0 (bind s us I.kIn many) rel2 want
  refine wpAny_call (codeAny_mono ran ?_)
  intro r s2 post
  rcases r with err | flow
  · exact pass _ _ _ _ _ _ I post
  · cases flow with
    | ret u => exact I.after post
    | next => exact post.elim
    | brk => exact post.elim
    | cont => exact post.elim
theorem pe_callG {x : Str} {p pos : Pos} {e : Expr} {es : List Expr} {t : TA} (F : FnG X.prog X.w X.K X.mg X.base CX k f fd ps sp) (room : Room k X.A) (gd : X.A.guards = some []) (isGl : Gl X x) (at_ : X.mg x = some (.ref f))
    (kept : PySem.W.keepIn X.K (.ref f) = true) (bind : Binds X.K fd ps ds) (dflt : Vals dvs ds) (pass : Passes CX X E)
    (args : PA X (e :: es) t) (nodbg : (x == ("__debug__" : Str)) = false := by decide) (star : starEach (e :: es) X.env = (false, eval e X.env) :: starEach es X.env := by rfl) (plain : (backTo pos (starEach es X.env)).any (·.1) = false := by rfl) :
    PE X (.Call (.Name x p) (e :: es) [] pos) (tCall sp dvs E t) := by
  constructor
  intro pins s σ H Q I want
  refine wpAny_Call_Name_kw (ld_glob I isGl at_ ?_ nodbg)
  refine PySem.W.callWith_K (h₀ := X.base) I.ok.mod.kin kept ?_ star plain
  refine thn (args.run pos pins s σ H _ I want) ?_
  rintro us s1 ⟨vs, H1, I1, rel, q⟩
  exact ⟨I1.kIn, runG F room gd bind dflt pass I1 rel q⟩
end
/-! ### the law's end -/
/-- the script as the only thing that is tracked -/
def scriptAt (a : Addr) (o : Obj) (xs : List V) : Hp := fun b => if b = a then some (.frz o (.lst xs)) else none
theorem scriptAt_same {a : Addr} {o : Obj} {xs : List V} : scriptAt a o xs a = some (.frz o (.lst xs)) := if_pos rfl
theorem scriptAt_some {a b : Addr} {o : Obj} {xs : List V} {u : HO} (h : scriptAt a o xs b = some u) : b = a ∧ u = .frz o (.lst xs) := by
  unfold scriptAt at h
  by_cases e : b = a
  · rw [if_pos e] at h
    exact ⟨e, (Option.some.inj h).symm⟩
  · rw [if_neg e] at h
    cases h
theorem scriptAt_ne {a b : Addr} {o : Obj} {xs : List V} (h : b ≠ a) : scriptAt a o xs b = none := if_neg h
section
variable {P : Program} {w : World} {K : PySem.W.Frag} {mg mb : Str → Option Value} {CX : CXT} {k : Nat} {fa a : Addr} {fd : FuncData} {x : Str} {sp : Sp} {s1 : Shared} {vs : List Value} {ns : List Int}
/-- the law's call, from an abstract heap that tracks at most the script -/
theorem law_from {H : Hp} {o : Obj} (own : ∀ b u, H b = some u → b = a ∧ u = .frz o (.lst (ns.map V.int))) (offK : H a ≠ none → K.lookup a = none)
    (inK : K.In s1.heap) (glob : s1.heap.Ns mainGlobals mg) (blt : s1.heap.Ns builtinsNs mb) (std : ∀ x : Str, x ≠ "__name__" → mb x = bootBuiltins x) (free : s1.heap.NoLimit) (nogen : s1.gens = #[])
    (here : s1.heap.get? a = some { cls := .type "list", data := .seq vs.toArray }) (ho : o = { cls := .type "list", data := .seq vs.toArray }) (ok : HOk P w H s1.heap) (room : Room k callerA)
    (F : ∀ base : Heap, K.In base → base.Ns mainGlobals mg → FnG P w K mg base CX k fa fd [x] sp) (bind : ∀ (s : Shared) (u : Value), BindsTo s fd ⟨[u], []⟩ [(x, u)])
    (want : sp [.ref a] H (fun v _ => v = .bl true) fun _ _ _ => False) (noX : ∀ e s2, CX [] H s1 (fun _ _ _ => False) e s2 → False) :
    codeAny (model P w) callerA (.call (.ref fa) ⟨[.ref a], []⟩) (fun r s2 => r = .ok (.ret (.bool true)) ∧ OldK s1.heap s2.heap ∧ s2.os = s1.os ∧ AllBare s2.gens) s1 := by
  have dicts : ∀ {b : Addr} {m : Str → Option Value}, s1.heap.Ns b m → (hidT s1.heap H).Ns b m := by
    rintro b m ⟨ob, es, ep, gb, isD, r⟩
    refine ⟨ob, es, ep, hidT_get gb ?_, isD, r⟩
    cases hb : H b with
    | none => rfl
    | some u =>
      obtain ⟨rfl, _⟩ := own b u hb
      rw [here] at gb
      have e := Option.some.inj gb
      rw [← e] at isD
      cases isD
  have inB : K.In (hidT s1.heap H) := by
    intro b ob hb
    refine hidT_get (inK b ob hb) ?_
    cases hh : H b with
    | none => rfl
    | some u =>
      obtain ⟨rfl, _⟩ := own b u hh
      rw [offK (by rw [hh]; exact Option.some_ne_none _)] at hb
      cases hb
  have md : Mod K mg (hidT s1.heap H) := ⟨inB, dicts glob, ⟨mb, dicts blt, std⟩, free.imp fun _ h => ⟨dicts h.1, h.2⟩⟩
  have env : Env0 P w K mg (hidT s1.heap H) callerA [] s1 H := by
    refine ⟨rfl, md, fun b ob hb => of_hidT hb, Nat.le_of_eq (hidT_size _ _), trivial, ?_, ok, .of_eq nogen⟩
    intro b hb
    cases hb
  have ran := (F _ inB (dicts glob)).go callerA room rfl [] s1 H ⟨[.ref a], []⟩ [.ref a] [.ref a] _ _ env (bind s1 (.ref a)) (.cons rfl .nil) want
  refine codeAny_mono ran ?_
  intro r s2 post
  rcases r with err | flow
  · exact (noX _ _ post).elim
  · cases flow with
    | next => exact post.elim
    | brk => exact post.elim
    | cont => exact post.elim
    | ret u =>
      obtain ⟨v, H2, eos, eb, ch, ok2, rv, rfl⟩ := post
      have eu : u = Value.bool true := rv
      refine ⟨by rw [eu], OldK.of_keep (fun b ob hb => ?_), eos, eb⟩
      cases hh : H b with
      | none => exact ch.keep b ob hb hh (fun z => nomatch z) (fun z => nomatch z)
      | some u2 =>
        obtain ⟨rfl, rfl⟩ := own b u2 hh
        have a1 := (ok b _ hh).1
        have a2 := (ok2 b _ (ch.frzs b o _ hh)).1
        rw [hb] at a1
        exact a2.trans a1.symm
theorem law_callG (inK : K.In s1.heap) (glob : s1.heap.Ns mainGlobals mg) (blt : s1.heap.Ns builtinsNs mb) (std : ∀ x : Str, x ≠ "__name__" → mb x = bootBuiltins x) (free : s1.heap.NoLimit) (nogen : s1.gens = #[])
    (here : s1.heap.get? a = some { cls := .type "list", data := .seq vs.toArray }) (isI : IntsAre vs ns) (many : ns.length ≤ sizeLine) (room : Room k callerA)
    (F : ∀ base : Heap, K.In base → base.Ns mainGlobals mg → FnG P w K mg base CX k fa fd [x] sp) (bind : ∀ (s : Shared) (u : Value), BindsTo s fd ⟨[u], []⟩ [(x, u)])
    (want : ∀ H : Hp, Only H → SqL K H a (ns.map V.int) → sp [.ref a] H (fun v _ => v = .bl true) fun _ _ _ => False) (noX : ∀ H e s2, CX [] H s1 (fun _ _ _ => False) e s2 → False) :
    codeAny (model P w) callerA (.call (.ref fa) ⟨[.ref a], []⟩) (fun r s2 => r = .ok (.ret (.bool true)) ∧ OldK s1.heap s2.heap ∧ s2.os = s1.os ∧ AllBare s2.gens) s1 := by
  have rel := vals_ints isI
  cases inMod : K.lookup a with
  | some o =>
    have same : o = { cls := .type "list", data := .seq vs.toArray } := Option.some.inj ((inK a o inMod).symm.trans here)
    subst same
    have sq : SqL K (fun _ => none) a (ns.map V.int) := .inr ⟨_, vs.toArray, _, inMod, rfl, rfl, rfl, by rw [List.size_toArray, isI.length]; exact many, by simpa using rel⟩
    refine law_from (H := fun _ => none) (o := { cls := .type "list", data := .seq vs.toArray }) (ns := ns) (fun _ _ h => nomatch h) (fun h => absurd rfl h) inK glob blt std free nogen here rfl (fun _ _ h => nomatch h) room F bind (want _ (fun _ => .inl rfl) sq) (noX _)
  | none =>
    refine law_from (H := scriptAt a { cls := .type "list", data := .seq vs.toArray } (ns.map V.int)) (fun _ _ h => scriptAt_some h) (fun _ => inMod) inK glob blt std free nogen here rfl ?_ room F bind (want _ (fun b => ?_) (.inl (.inr ⟨_, scriptAt_same⟩))) (noX _)
    · intro b u h
      obtain ⟨rfl, rfl⟩ := scriptAt_some h
      exact ⟨here, by rw [List.length_map]; exact many, vs, _, rel, here⟩
    · cases h : scriptAt a { cls := .type "list", data := .seq vs.toArray } (ns.map V.int) b with
      | none => exact .inl rfl
      | some u => exact .inr ⟨_, _, by rw [(scriptAt_some h).2]⟩
end
/-- what k_head leaves, from a promise that is kept where no repr is under way -/
theorem walkG {l : PySem.W.OpenLaw} {n k : Nat} {q : Program} {loose : List Str} {XP : (Str → Option Value) → Heap → Prop} {YP : World → Heap → Prop} {d : DefRec} {K : Params → PySem.W.Frag} {CX : World → CXT} {sp : World → Sp} {x : Str}
    (most : l.most = some n) (small : n ≤ sizeLine) (nodef : d.params.defaults = []) (room : Room k callerA) (kin : ∀ (w : World) (h : Heap), YP w h → (K w.params).In h)
    (F : ∀ (w : World) (mg : Str → Option Value) (fa : Addr) (h : Heap), (K w.params).In h → h.Ns mainGlobals mg → mg d.name = some (.ref fa) →
      ∃ fd : FuncData, (∀ (s : Shared) (u : Value), BindsTo s fd ⟨[u], []⟩ [(x, u)]) ∧ ∀ base : Heap, (K w.params).In base → base.Ns mainGlobals mg → FnG l.prog w (K w.params) mg base (CX w) k fa fd [x] (sp w))
    (want : ∀ (w : World) (H : Hp) (a : Addr) (ns : List Int), ns.length ≤ n → Only H → SqL (K w.params) H a (ns.map V.int) → sp w [.ref a] H (fun v _ => v = .bl true) fun _ _ _ => False)
    (noX : ∀ (w : World) (H : Hp) (s : Shared) (e : Value) (s2 : Shared), CX w [] H s (fun _ _ _ => False) e s2 → False) :
    PySem.W.WalkO q loose XP YP l.row.toRowW d [] (fun f vs => PySem.call f vs) := by
  apply Att.attach_call most nodef
  intro w s0 s1 mg mb fa o pm cd doc a vs ns G Y go isF code named here isI many nogen
  have inK := kin w _ Y
  obtain ⟨fd, bind, hF⟩ := F w mg fa _ inK G.T.g named
  exact law_callG inK G.T.g G.T.b G.T.builtins G.T.nolimit nogen here isI (Nat.le_trans many small) room hF bind (fun H only sq => want w H a ns many only sq) (fun H e s2 => noX w H s1 e s2)
section
variable {X : Cx}
/-- repr of data without dicts -/
def rReprD (K : PySem.W.Frag) : List V → Hp → VK → Prop := fun xs H Q => ∃ x d, xs = [x] ∧ Dp K H x d ∧ d.showable = true ∧ d.hasDict = false ∧ d.depth ≤ 40 ∧ d.shown.length ≤ sizeLine ∧ Q (.str d.shown) H
theorem call_reprD (gd : X.A.guards = some []) (un : X.A.units + 64 < cLine) : CallR X (.builtin "repr") (rReprD X.K) := by
  rintro pins s σ H xs us Q I rel ⟨x, d, rfl, hd, sh, nod, dep, sz, q⟩
  obtain ⟨u, rfl, rv⟩ := vals1 rel
  obtain ⟨as, reads⟩ := Dp.reads I d x u hd rv
  cases hd with
  | non =>
    cases rv
    refine PySem.P.repr_of_none ?_
    exact ⟨.str "None", H, I.tok _, ⟨_, rfl⟩, q⟩
  | bl b =>
    cases rv
    refine PySem.P.repr_of_bool ?_
    exact ⟨.str (if b then "True" else "False"), H, I.tok _, ⟨_, rfl⟩, q⟩
  | int i =>
    obtain ⟨t, rfl⟩ := rv
    refine PySem.P.repr_of_int ?_ ⟨.str _, H, I.tok _, ⟨_, rfl⟩, q⟩
    simpa [PyData.showable] using sh
  | str z =>
    obtain ⟨t, rfl⟩ := rv
    exact PySem.P.repr_of_str ⟨.str _, H, I.tok _, ⟨_, rfl⟩, q⟩ sz
  | lst h1 h2 =>
    cases rv
    exact repr_of_reads' reads sh (PyData.noDict_hsm nod) gd (by omega) (fun _ _ e => e) (fun h2 u2 tk keep => ⟨.str _, H, I.kept keep, ⟨u2, rfl⟩, q⟩) sz
  | tup h1 h2 =>
    cases rv
    exact repr_of_reads' reads sh (PyData.noDict_hsm nod) gd (by omega) (fun _ _ e => e) (fun h2 u2 tk keep => ⟨.str _, H, I.kept keep, ⟨u2, rfl⟩, q⟩) sz
end
end Gd
namespace Gd
open PySem PySem.Spec PyProof.Rows L2
/-- f(k = v, ..), keywords alone -/
theorem pe_kwOnly {X : Cx} {CX : CXT} {k : Nat} {f : Addr} {fd : FuncData} {ps ks : List Str} {sp : Sp} {E : XK} {x : Str} {p pos : Pos} {kws : List Keyword} {tk : TA} {g : List Value → List Value → List Value} {gV : List V → List V → List V}
    (F : FnOk X.prog X.w X.K X.mg X.base CX k f fd ps sp) (room : Room k X.A) (isGl : Gl X x) (at_ : X.mg x = some (.ref f)) (kept : PySem.W.keepIn X.K (.ref f) = true) (bind : KBinds X.K fd ps ks g gV) (pass : Passes CX X E)
    (words : PK X kws tk) (every : (backToKw pos (keywordEach kws X.env)).all (·.1.isSome) = true := by rfl) (names : (backToKw pos (keywordEach kws X.env)).filterMap (·.1) = ks := by rfl) (nodbg : (x == ("__debug__" : Str)) = false := by decide)
    (plain : ((backTo pos (starEach [] X.env)).any (·.1) || (backToKw pos (keywordEach kws X.env)).any (·.1.isNone)) = false := by rfl) :
    PE X (.Call (.Name x p) [] kws pos) (tCallK sp gV E tNil tk) := by
  constructor
  intro pins s σ H Q I want
  refine wpAny_Call_Name_kw (ld_glob I isGl at_ ?_ nodbg)
  refine PySem.W.callWith_KW0 (h₀ := X.base) I.ok.mod.kin kept every ?_ plain
  refine thn (words.run pos pins s σ H _ I want) ?_
  rintro ws s2 ⟨zs, H2, I2, rel, q⟩
  refine ⟨I2.kIn, ?_⟩
  rw [names]
  exact run_fnk (us := []) (vs := []) F room bind pass I2 .nil rel q
end Gd
namespace Gd
open PySem PySem.Spec PyProof.Rows L2
/-- as fng_of, where nothing leaves the body -/
theorem fng0_of {P : Program} {w : World} {K : PySem.W.Frag} {mg : Str → Option Value} {base : Heap} {k : Nat} {f : Addr} {fd : FuncData} {ps : List Str} {sp : Sp} {x qual : Str} {st : Stmt} {N : List Str} (F : Fun K x qual st f fd) (S : FnScope N ps (defScope st)) (ar : ∀ vs H Q E, sp vs H Q E → vs.length = ps.length)
    (body : ∀ (cdv : Value) (A : Around) (outer : List Env) (s : Shared) (H : Hp) (vs : List V) (Q : VK) (E : XK), Room k (A.deeper (envOfC qual (defScope st) s.heap.objs.size f cdv)) → A.guards = some [] → sp vs H Q E →
      ∃ t, PSs (cxOf CX0 P w K mg base N qual (defScope st) f cdv A outer s H E).nox (defBody st) t ∧ t { nx := fun _ H' => Q .non H', rt := Q } (start N vs) H) :
    FnG P w K mg base CX0 (k + 1) f fd ps sp :=
  fng_of F S ar fun cdv A outer s H vs Q E room gd want => by
    obtain ⟨t, d, r⟩ := body cdv A outer s H vs Q E room gd want
    exact ⟨t, d.nox, r⟩
end Gd
namespace Gd
open PySem PySem.Spec PyProof.Rows L2
/-! Facts of the data of a tuple of small ints. -/
theorem ints_show : ∀ ns : List Int, (∀ n ∈ ns, n.natAbs < 10 ^ 9) → PyData.showableAll (ns.map .int) = true
  | [], _ => rfl
  | n :: r, h => by
    rw [List.map_cons, PyData.showableAll, ints_show r fun m hm => h m (List.mem_cons_of_mem _ hm), Bool.and_true]
    rw [PyData.showable]
    refine decide_eq_true ?_
    have h1 := h n List.mem_cons_self
    by_cases z : n.natAbs = 0
    · rw [z]
      decide
    · exact Nat.lt_of_lt_of_le ((Nat.log2_lt z).mpr (Nat.lt_of_lt_of_le h1 (by decide : (10 : Nat) ^ 9 ≤ 2 ^ 30))) (by decide)
theorem ints_noDict : ∀ ns : List Int, PyData.hasDictAll (ns.map .int) = false
  | [] => rfl
  | n :: r => by
    rw [List.map_cons, PyData.hasDictAll, ints_noDict r, PyData.hasDict]
    rfl
theorem ints_depth : ∀ ns : List Int, PyData.depthAll (ns.map .int) = 0
  | [] => rfl
  | n :: r => by
    rw [List.map_cons, PyData.depthAll, ints_depth r, PyData.depth]
    rfl
theorem ints_lay : ∀ ns : List Int, PyData.canLayAll0 (ns.map .int) = true
  | [] => rfl
  | n :: r => by
    rw [List.map_cons, PyData.canLayAll0, ints_lay r, PyData.canLay0]
    rfl
theorem int_len {n : Int} (h : n.natAbs < 10 ^ 9) : ((toString n : String) : Str).length ≤ 10 := by
  have e := int_text_length_le10 (a := n) (k := 9) (by decide) h
  rw [PySem.ofString_length]
  exact e
theorem ints_piled : ∀ ns : List Int, (∀ n ∈ ns, n.natAbs < 10 ^ 9) → piled (PyData.shownAll (ns.map .int)) ≤ 12 * ns.length
  | [], _ => Nat.le_refl _
  | n :: r, h => by
    have ih := ints_piled r fun m hm => h m (List.mem_cons_of_mem _ hm)
    have h1 := int_len (h n List.mem_cons_self)
    rw [List.map_cons, PyData.shownAll, piled_cons, PyData.shown, List.length_cons]
    omega
theorem tupI_facts {ns : List Int} (h : ∀ n ∈ ns, n.natAbs < 10 ^ 9) (hl : ns.length ≤ 1000000) : (PyData.tuple (ns.map .int)).showable = true ∧ (PyData.tuple (ns.map .int)).hasDict = false ∧ (PyData.tuple (ns.map .int)).depth ≤ 40 ∧ (PyData.tuple (ns.map .int)).shown.length ≤ sizeLine := by
  refine ⟨?_, ?_, ?_, ?_⟩
  · rw [PyData.showable]
    exact ints_show ns h
  · rw [PyData.hasDict]
    exact ints_noDict ns
  · rw [PyData.depth, ints_depth]
    decide
  · rw [PyData.shown]
    have h1 := fmt_text (PyData.shownAll (ns.map .int))
    have h2 := ints_piled ns h
    have h3 : sizeLine = 2 ^ 24 := rfl
    omega
theorem tupI_shaped (ns : List Int) : SeqAt.shaped (PyData.tuple (ns.map .int)) = true := by
  unfold SeqAt.shaped
  rw [PyData.canLay0, ints_lay, PyData.depth, ints_depth]
  rfl
theorem tupI_eqv (ns : List Int) : PyData.eqv (PyData.tuple (ns.map .int)) (PyData.tuple (ns.map .int)) = true := PySem.SeqAt.eqv_refl _ (by rw [PyData.canLay0]; exact ints_lay ns)
theorem dp_ints {K : PySem.W.Frag} {H : Hp} : ∀ ns : List Int, DpAll K H (ns.map V.int) (ns.map .int)
  | [] => .nil
  | n :: r => .cons (.int n) (dp_ints r)
theorem dp_tupI {K : PySem.W.Frag} {H : Hp} {p : Addr} {ns : List Int} (h : SqT K H p (ns.map V.int)) : Dp K H (.ref p) (.tuple (ns.map .int)) := .tup h (dp_ints ns)
end Gd
namespace L2
open PySem PySem.Spec PyProof.Rows
/-! d.items() of a dict whose keys are tuples -/
def Itit (d : Addr) (o : Obj) (kvs : List (List Key × V)) : It :=
  ⟨fun i H => H d = some (.frz o (.dT kvs)) ∧ i < kvs.length, fun i H x H' => ∃ T k v q, kvs[i]? = some (k, v) ∧ H q = some (.tup (k.map kV)) ∧ x = .ref T ∧ H T = none ∧ H' = upd H T (.tup [.ref q, v]), fun i H => H d = some (.frz o (.dT kvs)) ∧ kvs.length ≤ i⟩
section
variable {X : Cx} {pins : List (Addr × Obj)} {σ : St} {H : Hp} {s : Shared} {d : Addr} {o : Obj}
theorem Inv.frzTv {kvs : List (List Key × V)} (I : Inv X pins σ H s) (h : H d = some (.frz o (.dT kvs))) :
    (d == sysModules) = false ∧ s.heap.get? d = some o ∧ o.ExactDict ∧ ∃ (es : Array DictEntry) (ep : Nat), o.data = .dict es ep ∧ es.size = kvs.length ∧
      ∀ (i : Nat) (k : List Key) (v : V), kvs[i]? = some (k, v) → ∃ (en : DictEntry) (q : Addr), es[i]? = some en ∧ en.key = .ref q ∧ H q = some (.tup (k.map kV)) ∧ RelV v en.val := by
  obtain ⟨hd, z, hs, xs, pr, o', es, ep, ho, hx, hdt, he, _⟩ := I.hok d _ h
  rw [hd] at ho
  cases ho
  refine ⟨hs, hd, hx, es, ep, hdt, ?_, fun i k v e => ?_⟩
  · have l1 : es.size = xs.length := size_of_entries he
    have l2 : kvs.length = xs.length := Paired.length pr
    omega
  · obtain ⟨b, hb, e1, e2, e3⟩ := paired_get pr e
    have q := entry_at he i
    rw [hb] at q
    exact ⟨_, b.2.1, q, rfl, e2, e3⟩
end
section
variable {P : Program} {w : World} {K : PySem.W.Frag} {d : Addr} {o : Obj} {es : Array DictEntry} {ep : Nat}
theorem turn_itemsT {kvs : List (List Key × V)} {elts : List Expr} {kk : Nat} {tpos : Pos} (it : Addr) (hod : o.data = .dict es ep) :
    Turn P w K (.Tuple elts kk tpos) (Itit d o kvs) [it] it (fun i h => ∃ ok ov, IsItemIter h it d i kvs.length ep ok ov) where
  mem := by simp
  obj := fun i h st b hb => by
    have e : b = it := by simpa using hb
    subst e
    obtain ⟨ok, ov, e⟩ := st
    exact ⟨_, e, fun v z => nomatch z⟩
  keep := fun i h h' st k => let ⟨ok, ov, e⟩ := st; ⟨ok, ov, k it (by simp) _ e⟩
  item := by
    intro X hP hw hK hc i pins s σ H E I hf st hg
    subst hP hw hK
    obtain ⟨hd, hi⟩ := hg
    obtain ⟨hs, hgd, hx, es', ep', hdt, hsz, ent⟩ := I.frzTv hd
    obtain ⟨rfl, rfl⟩ := dict_ep hod hdt
    obtain ⟨⟨k, v⟩, hkv⟩ : ∃ p, kvs[i]? = some p := ⟨kvs[i], List.getElem?_eq_getElem hi⟩
    obtain ⟨en, q, hen, hkey, hq, rv⟩ := ent i k v hkv
    obtain ⟨ok, ov, he⟩ := st
    rw [← hsz] at he
    have hlt : it < s.heap.objs.size := Heap.lt_size he
    have hi2 : i < es'.size := by omega
    have een : es'[i] = en := by
      rw [Array.getElem?_eq_getElem hi2] at hen
      exact Option.some.inj hen
    refine PySem.wpAny_pyNext_items_item_raw he ⟨o, hgd, hx, hdt⟩ hi2 fun h' ho hT hz hk => ?_
    rw [een] at ho hT
    refine ⟨_, rfl, wpAny_letOwnedTupleGo_items (s := { s with heap := h' }) ho fun h'' he' sb => ?_⟩
    have hT2 : h''.get? s.heap.objs.size = some { cls := .type "tuple", data := .seq #[en.key, en.val] } := (sb.2 _ (Nat.ne_of_gt hlt)).trans hT
    have new : ObjOk X.prog X.w (upd H s.heap.objs.size (.tup [.ref q, v])) h'' s.heap.objs.size (.tup [.ref q, v]) :=
      ⟨by show 2 ≤ sizeLine; decide, [en.key, en.val], .cons hkey (.cons rv .nil), ⟨_, hT2, rfl, _, rfl⟩⟩
    have I1 : Inv X pins σ (upd H s.heap.objs.size (.tup [.ref q, v])) { s with heap := h'' } :=
      I.turnedNew (t' := s.toks) (ch := [it]) (fun b ob hb e => (sb.2 b (by simpa using hb)).trans (hk b ob (by simpa using hb) e)) hf (Nat.le_refl _) new
    refine ⟨.ref s.heap.objs.size, _, I1, rfl, ⟨_, k, v, q, hkv, hq, rfl, I.hok.fresh (Nat.le_refl _), rfl⟩, ⟨en.key, en.val, ?_⟩, fun b hb => ?_⟩
    · rw [← hsz]; exact he'
    · have e : b = it := by simpa using hb
      rw [e, upd_ne (Nat.ne_of_lt hlt)]
      exact (hf it (by simp)).1
  done := by
    intro X hP hw hK hc i pins s σ H E I hf st hg
    subst hP hw hK
    obtain ⟨hd, hi⟩ := hg
    obtain ⟨f0, f1, f2, f3, f4, f5⟩ := hf it (by simp)
    obtain ⟨hs, hgd, hx, es', ep', hdt, hsz, ent⟩ := I.frzTv hd
    obtain ⟨rfl, rfl⟩ := dict_ep hod hdt
    obtain ⟨ok, ov, he⟩ := st
    rw [← hsz] at he
    exact PySem.wpAny_pyNext_items_end_raw (I.ok.hd hc) he ⟨o, hgd, hx, hdt⟩ (by omega) fun h' eb => ⟨rfl, I.turned (t' := s.toks) (fun b ob hb e => eb b ob hb e) f0 f1 f3 f4 f5⟩
  self := fun A i s Q E st h => let ⟨_, _, e⟩ := st; PySem.W.kcp_self e h
end
def iItemsT (td : TE) : TI := fun σ H R => td σ H fun x H1 => ∃ d o kvs, x = .ref d ∧ H1 d = some (.frz o (.dT kvs)) ∧ R (Itit d o kvs) H1
section
variable {X : Cx} {e : Expr} {td : TE} {apos cpos : Pos}
theorem pi_itemsT {elts : List Expr} {kk : Nat} {tpos : Pos} (he : PE X e td) (hbase : attributeBase e "items" X.env (eval e X.env) = eval e X.env := by rfl) (hline : (apos.endLine == cpos.line) = true := by rfl) :
    PI X (.Tuple elts kk tpos) (.Call (.Attribute e "items" apos) [] [] cpos) (iItemsT td) := by
  refine ⟨fun pins s σ H R I h => ?_⟩
  refine wpAny_Call_method (T := "dict") (id := "dict.items") hbase rfl hline F.plainAttrs_dict F.slot_dict_items F.type_dict_items (thn (he.run pins s σ H _ I h) fun u s1 ⟨x, H1, I1, rx, d, o, kvs, ex, hd, q⟩ => ?_)
  subst ex
  obtain rfl : u = Value.ref d := rx
  obtain ⟨hs, hgd, hx, es, ep, hdt, hsz, ent⟩ := I1.frzTv hd
  have hm : s1.heap.DictRaw d es ep := ⟨o, hgd, hx, hdt⟩
  refine ⟨hm.typeIs, ?_, ?_⟩
  · exact fun a ea => by
      cases ea
      exact ⟨o, hgd, hx.2.1⟩
  have I2 : Inv X pins σ H1 { s1 with heap := s1.heap.push { cls := .type "dict_items", data := .fields #[.ref d] } } := I1.kept (t' := s1.toks) fun b ob q => Heap.get?_push_of_some _ q
  have fin : wpAny (model X.prog X.w) X.A (pyIter (.ref s1.heap.objs.size)) (PIE X pins σ (.Tuple elts kk tpos) R) X.xe { s1 with heap := s1.heap.push { cls := .type "dict_items", data := .fields #[.ref d] } } := by
    refine PySem.wpAny_pyIter_items_raw (d := d) ⟨_, Heap.get?_push_size _ rfl, rfl, rfl⟩ (hm.at fun o e => Heap.get?_push_of_some _ e) (pi_one (tk := s1.toks) I2 _ (turn_itemsT _ hdt) ⟨.none, .none, ?_⟩ q)
    rw [← hsz]
    exact Heap.get?_push_size _ rfl
  show wpAny _ _ (callWith cpos (.builtin "dict.items") [.ref d] [] []) _ X.xe s1
  exact method_meetsIn F.slot_dict_items F.entry_dict_items rfl (PySem.evalArgs_none ⟨rfl, hm.typeIs, F.args_dict_items_1 _, _, PySem.meets_dict_items_raw d hs, ⟨⟨es, ep, hm⟩, fin⟩⟩)
end
theorem walk_itemsT {d : Addr} {o : Obj} {kvs : List (List Key × V)} : Walk (Itit d o kvs) kvs.length (fun H => H d = some (.frz o (.dT kvs)))
    (fun i H x H' => ∃ T k v q, kvs[i]? = some (k, v) ∧ H q = some (.tup (k.map kV)) ∧ x = .ref T ∧ H T = none ∧ H' = upd H T (.tup [.ref q, v])) :=
  ⟨fun _ _ hi q => ⟨q, hi⟩, fun _ q => ⟨q, Nat.le_refl _⟩, fun _ _ _ _ _ _ y => y⟩
end L2
namespace L2
open PySem PySem.Spec PyProof.Rows
/-- over a list or a tuple -/
def iSeq (K : PySem.W.Frag) (tl : TE) : TI := fun σ H R => tl σ H fun x H1 => ∃ a, x = .ref a ∧ (((∃ xs, SqL K H1 a xs) ∧ R (Itl K a) H1) ∨ ((∃ xs, SqT K H1 a xs) ∧ R (Itt K a) H1))
theorem pi_seq {X : Cx} {tg l : Expr} {tl : TE} (hl : PE X l tl) : PI X tg l (iSeq X.K tl) := by
  refine ⟨fun pins s σ H R I h => ?_⟩
  refine thn (hl.run pins s σ H _ I h) fun v s1 ⟨x, H1, I1, r1, q1⟩ => ?_
  obtain ⟨a, e, q⟩ := q1
  subst e
  cases r1
  rcases q with ⟨⟨xs, hq⟩, q⟩ | ⟨⟨xs, hq⟩, q⟩
  · obtain ⟨its, rv, p, hz⟩ := I1.list hq
    refine wpAny_pyIter_list p.isList ?_
    refine ⟨s1.heap.objs.size, [s1.heap.objs.size], _, _, H1, rfl, I1.kept (t' := s1.toks) fun b o e => Heap.get?_push_of_some _ e, turn_list a _, ⟨_, Heap.get?_push_size _ rfl, rfl, rfl⟩, fun b hb => ?_, q⟩
    have e : b = s1.heap.objs.size := by simpa using hb
    subst e
    exact I1.fpOk (Nat.le_refl _) (I1.hok.fresh (Nat.le_refl _))
  · obtain ⟨its, rv, p, hz⟩ := I1.tuple hq
    refine wpAny_pyIter_tuple (show s1.heap.IsTuple a its.toArray from p) ?_
    refine ⟨s1.heap.objs.size, [s1.heap.objs.size], _, _, H1, rfl, I1.kept (t' := s1.toks) fun b o e => Heap.get?_push_of_some _ e, turn_tuple a _, ⟨_, Heap.get?_push_size _ rfl, rfl, rfl⟩, fun b hb => ?_, q⟩
    have e : b = s1.heap.objs.size := by simpa using hb
    subst e
    exact I1.fpOk (Nat.le_refl _) (I1.hok.fresh (Nat.le_refl _))
/-- f(a, ..) of a def that takes any number of arguments -/
def tCallR (sp : Sp) (E : XK) (t : TA) : TE := fun σ H Q => t σ H fun vs H1 => sp vs H1 Q E
theorem pe_callR {X : Cx} {CX : CXT} {k : Nat} {f : Addr} {sp : Sp} {E : XK} {x : Str} {e : Expr} {es : List Expr} {t : TA} {p pos : Pos} (F : FnR X.prog X.w X.K X.mg X.base CX k f sp) (hr : Room k X.A) (hg : Gl X x) (hm : X.mg x = some (.ref f)) (hk : PySem.W.keepIn X.K (.ref f) = true) (hx : Passes CX X E)
    (ha : PA X (e :: es) t) (hdb : (x == ("__debug__" : Str)) = false := by decide) (he : starEach (e :: es) X.env = (false, eval e X.env) :: starEach es X.env := by rfl) (hpl : (backTo pos (starEach es X.env)).any (·.1) = false := by rfl) :
    PE X (.Call (.Name x p) (e :: es) [] pos) (tCallR sp E t) := by
  refine ⟨fun pins s σ H Q I h => ?_⟩
  refine wpAny_Call_Name_kw (ld_glob I hg hm ?_ hdb)
  refine PySem.W.callWith_K (h₀ := X.base) I.ok.mod.kin hk (thn (ha.run pos pins s σ H _ I h) fun us s1 ⟨vs, H1, I1, r, q⟩ => ⟨I1.kIn, ?_⟩) he hpl
  exact wpAny_call (run_fnR F hr hx I1 r q)
/-- over a dict that was just made: it is locked from here on -/
def iKeysL (td : TE) : TI := fun σ H R => td σ H fun x H1 => ∃ d kvs, x = .ref d ∧ H1 d = some (.dK kvs) ∧ ∀ od, R (Itk d od kvs) (upd H1 d (.frz od (.dK kvs)))
theorem pi_keysL {X : Cx} {tg e : Expr} {td : TE} (he : PE X e td) : PI X tg e (iKeysL td) := by
  refine ⟨fun pins s σ H R I h => ?_⟩
  refine thn (he.run pins s σ H _ I h) fun u s1 ⟨x, H1, I1, rx, d, kvs, ex, hd, q⟩ => ?_
  subst ex
  obtain rfl : u = Value.ref d := rx
  obtain ⟨od, I2⟩ := I1.lock hd trivial
  obtain ⟨hs, hgd, hx, es, ep, vs, hdt, hsz, kv, hm⟩ := I2.frzK upd_same
  refine iter_keys hs hgd hx hdt (pi_one (tk := s1.toks) I2 _ (turn_keys _ hdt) ⟨_, Heap.get?_push_size _ rfl, rfl, ?_⟩ (q od))
  rw [hsz] <;> rfl
/-- name = {..} on one line, the name a local -/
theorem ps_setDc {X : Cx} {i : Nat} {y : Str} {py : Pos} {kx vx tg iter : Expr} {ifs : List Expr} {scope : Scope} {own : List (Str × Nat)} {pos spos : Pos} {wi : TI} {g : TG} {tt : TT} {tk tv : TE} (hc : X.calm = true) (hN : X.N.Nodup) (hy : X.N[i]? = some y) (hyl : X.env.scope.names.lookup y = some .local)
    (hsw : swapsWith (.DictComp kx vx [⟨tg, iter, ifs, 0⟩] scope pos) (some (.Name y py)) spos.line X.env = pure true) (hi : PI X tg iter wi) (ok : BlkOk X.N X.env.scope scope own)
    (hg : ∀ (s : Shared) (H : Hp) (C : Addr) (cl : List (Str × Addr)) (fp : List Addr), PG (X.blk s H scope (compEnvC scope cl C X.env) fp) tg g) (ht : ∀ (s : Shared) (H : Hp) (C : Addr) (cl : List (Str × Addr)) (fp : List Addr), PTs (X.blk s H scope (compEnvC scope cl C X.env) fp) ifs tt)
    (hk : ∀ (s : Shared) (H : Hp) (C : Addr) (cl : List (Str × Addr)) (fp : List Addr), PE (X.blk s H scope (compEnvC scope cl C X.env) fp) kx tk)
    (he : ∀ (s : Shared) (H : Hp) (C : Addr) (cl : List (Str × Addr)) (fp : List Addr), PE (X.blk s H scope (compEnvC scope cl C X.env) fp) vx tv) (hs : ∀ x, foldedSetIterable iter X.env x = pure x := by intro _; rfl) :
    PS X (.Assign [.Name y py] (.DictComp kx vx [⟨tg, iter, ifs, 0⟩] scope pos) spos) (tAsg (tDc wi g tt tk tv (own.map (·.2))) (gName i)) := by
  refine ⟨fun pins s σ H D I h => ?_⟩
  rw [exec_Assign_Name_used _ _ _ _ hsw]
  refine wpAny_bind (wpAny_standAt (wpAny_bind ?_))
  show wpAny _ X.A (do let _ ← comprehension (.DictComp kx vx [⟨tg, iter, ifs, 0⟩] scope pos) scope X.env (firstIterPos [⟨tg, iter, ifs, 0⟩] pos) newDict false (eval iter X.env) (some (assign (.Name y py) X.env))) _ _ s
  have h : tDc wi g tt tk tv (own.map (·.2)) σ H (fun x H1 => gName i x σ H1 D.nx) := h
  refine wpAny_bind (thn (dc_core (Qf := fun _ s' => SP X pins D .next s') hc hN I hi ok hg ht hk he hs h fun L C s' m H' I' q hn f => ?_) fun _ s' hq => wpAny_pure (wpAny_pure hq))
  show wpAny _ _ (assign (.Name y py) X.env (.ref L)) _ _ _
  refine wpAny_assign_Name (store_ok2 (v := V.ref L) I' hN hy (.inl hyl) rfl (fun s2 I2 ⟨a, sb, ha⟩ => ?_) (.inr hyl))
  obtain ⟨f0, f1, f2, f3, f4, f5⟩ := f
  have haC : C ≠ a := by
    rcases ha with z | z
    · rw [z]; exact f1
    · exact fun e => f4 y a z e.symm
  refine ⟨m, hn.sameBut sb haC, fun h3 sb3 => ?_⟩
  exact ⟨_, H', I2.turned (t' := s2.toks) (fun b o hb e => (sb3.2 b hb).trans e) f0 f1 f3 f4 f5, q⟩
theorem sw_trueD {kx vx : Expr} {gs : List Comprehension} {scope : Scope} {pos py : Pos} {y : Str} {l : Nat} {env : Env} (hk : env.scope.kind = .function) (hy : env.scope.names.lookup y = some .local) (hl : (py.line == pos.line) = true)
    (ha : (scope.names.any fun (n, k) => n == y && (k == .local || k == .cell)) = false) : swapsWith (.DictComp kx vx gs scope pos) (some (.Name y py)) l env = pure true := by
  have ky : env.kindOf y = some .local := hy
  have hb : env.blockKind = .function := by unfold Env.blockKind; rw [hk]; rfl
  unfold swapsWith
  simp only [hb, ky, ha, Expr.pos, hl]
  rfl
end L2
namespace Sn
open PySem PySem.Spec PyProof.Rows L2 Evl Gd
/-! one word of a reading at a time -/
section
variable {ta tr te tb tc td ty tv : TE} {tt : TA} {ts tz : TS} {D : Ends} {g : TG} {σ : L2.St} {H : Hp} {Q : VK} {K : PySem.W.Frag}
theorem c_of {Q : List V → Hp → Prop} (h : ta σ H fun x H1 => tt σ H1 fun xs H2 => Q (x :: xs) H2) : tCons ta tt σ H Q := h
theorem tup_of (h : tt σ H fun xs H1 => xs.length ≤ sizeLine ∧ ∀ p, H1 p = none → Q (.ref p) (upd H1 p (.tup xs))) : tTup tt σ H Q := h
theorem lst_of (h : tt σ H fun xs H1 => xs.length ≤ sizeLine ∧ ∀ p, H1 p = none → Q (.ref p) (upd H1 p (.lst xs))) : tLst tt σ H Q := h
theorem n_of {Q : List V → Hp → Prop} (h : Q [] H) : tNil σ H Q := h
theorem v_of {i : Nat} {v : V} (e : σ[i]? = some (some v)) (h : Q v H) : tVar i σ H Q := ⟨v, e, h⟩
theorem k_of {v : V} (h : Q v H) : tC v σ H Q := h
theorem seq_of (h : ts { D with nx := tz D } σ H) : tSeq ts tz D σ H := h
theorem asg_of {i : Nat} (h : te σ H fun x H1 => D.nx (σ.set i (some x)) H1) : tAsg te (gName i) D σ H := h
theorem asgG_of (h : te σ H fun x H1 => g x σ H1 D.nx) : tAsg te g D σ H := h
theorem par_of {i j : Nat} (h : tt σ H fun vs H1 => ∃ v w, vs = [v, w] ∧ D.nx ((σ.set i (some v)).set j (some w)) H1) : tPar i j tt D σ H := h
theorem ret_of (h : te σ H D.rt) : tRet te D σ H := h
theorem op_of {r : R2} (h : ta σ H fun x H1 => tb σ H1 fun y H2 => r x y H2 Q) : tOp r ta tb σ H Q := h
theorem call_of {sp : Sp} {dvs : List V} {E : XK} (h : tt σ H fun vs H1 => sp (vs ++ dvs) H1 Q E) : tCall sp dvs E tt σ H Q := h
theorem callK_of {sp : Sp} {gV : List V → List V → List V} {E : XK} {tk : TA} (h : tt σ H fun vs H1 => tk σ H1 fun zs H2 => sp (gV vs zs) H2 Q E) : tCallK sp gV E tt tk σ H Q := h
theorem callR_of {sp : Sp} {E : XK} (h : tt σ H fun vs H1 => sp vs H1 Q E) : tCallR sp E tt σ H Q := h
theorem cb_of {r : List V → Hp → VK → Prop} (h : tt σ H fun vs H1 => r vs H1 Q) : tCB r tt σ H Q := h
theorem test_of {Q : Bool → Hp → Prop} (h : te σ H fun x H1 => ∃ c, x = .bl c ∧ Q c H1) : tTest te σ H Q := h
theorem if_of {b : TT} (h : b σ H fun c H1 => if c = true then ta σ H1 Q else tb σ H1 Q) : tIf b ta tb σ H Q := h
theorem ifS_of {t : TT} {ta tb : TS} (h : t σ H fun c H1 => if c = true then ta D σ H1 else tb D σ H1) : tIfS t ta tb D σ H := h
theorem and_of {t u : TT} {Q : Bool → Hp → Prop} (h : t σ H fun c H1 => if c = true then u σ H1 Q else Q false H1) : tAnd t u σ H Q := h
theorem or_of {t u : TT} {Q : Bool → Hp → Prop} (h : t σ H fun c H1 => if c = true then Q true H1 else u σ H1 Q) : tOr t u σ H Q := h
theorem not_of {te : TT} {Q : Bool → Hp → Prop} (h : te σ H fun c H1 => Q (!c) H1) : tNot te σ H Q := h
theorem andv_of (h : ta σ H fun x H1 => ∃ c, x = .bl c ∧ if c = true then tb σ H1 Q else Q (.bl false) H1) : tAndV ta tb σ H Q := h
theorem notv_of (h : ta σ H fun x H1 => ∃ c, x = .bl c ∧ Q (.bl (!c)) H1) : tNotV ta σ H Q := h
theorem put_of (h : tv σ H fun v H1 => td σ H1 fun x H2 => ty σ H2 fun y H3 => ∃ a H4, x = .ref a ∧ DPut H3 a y v H4 ∧ D.nx σ H4) : sDPut td ty tv D σ H := h
theorem newK_of (h : ∀ p, H p = none → Q (.ref p) (upd H p (.dK []))) : tDNewK σ H Q := h
theorem dget_of (h : td σ H fun x H1 => ty σ H1 fun y H2 => ∃ a v, x = .ref a ∧ DGet H2 a y (some v) ∧ Q v H2) : tDGet td ty σ H Q := h
theorem din_of (h : ty σ H fun y H1 => td σ H1 fun x H2 => ∃ a o, x = .ref a ∧ DGet H2 a y o ∧ Q (.bl o.isSome) H2) : tDIn ty td σ H Q := h
theorem notin_of (h : ty σ H fun y H1 => td σ H1 fun x H2 => ∃ a o, x = .ref a ∧ DGet H2 a y o ∧ Q (.bl (!o.isSome)) H2) : tDNotIn ty td σ H Q := h
theorem drop_of (h : te σ H fun _ H1 => D.nx σ H1) : tDrop te D σ H := h
theorem make_of {C : Addr} {sp : Sp} {dvs : List V} {E : XK} (h : tt σ H fun vs H1 => ∀ x dx, H1 x = none → H1 dx = none → dx ≠ x → sp (.ref x :: (vs ++ dvs)) (upd (upd H1 dx (.own x)) x (.ins C dx [])) (fun v H2 => v = .non ∧ Q (.ref x) H2) E) : tMake C sp dvs E tt σ H Q := h
theorem meth_of {C : Addr} {m : Str} {sp : Sp} {dvs : List V} {E : XK} (h : ta σ H fun x H1 => ∃ a dx fs, x = .ref a ∧ H1 a = some (.ins C dx fs) ∧ fs.lookup m = none ∧ tt σ H1 fun vs H2 => sp (x :: (vs ++ dvs)) H2 Q E) : tMeth C m sp dvs E ta tt σ H Q := h
theorem lc_of {wi : TI} {tt : TT} {vs : List Nat} (h : wi σ H fun J H1 => ∀ D, H1 D = none → ∃ W : Nat → Nat → Hp → Prop, (∃ m, W 0 m (upd H1 D (.lst []))) ∧ ∀ i m H, W i m H →
  (J.stop i H ∧ Q (.ref D) H) ∨ (J.go i H ∧ ∃ Nx : Hp → Prop, (∀ H', Nx H' → ∃ m', m' < m ∧ W (i + 1) m' H') ∧ ∀ x H', J.yld i H x H' → g x (wipe σ vs) H' fun σ2 H2 => wipe σ2 vs = wipe σ vs ∧ tt σ2 H2 fun b H3 =>
    if b = true then te σ2 H3 fun y H4 => ∃ acc, H4 D = some (.lst acc) ∧ acc.length < sizeLine ∧ Nx (upd H4 D (.lst (acc ++ [y]))) else Nx H3)) : tLc wi g tt te vs σ H Q := h
theorem for_of {wi : TI} (h : wi σ H fun J H1 => ∃ W : Nat → Nat → L2.St → Hp → Prop, (∃ m, W 0 m σ H1) ∧ ∀ i m σ H, W i m σ H →
      (J.stop i H ∧ D.nx σ H) ∨ (J.go i H ∧ ∃ N : L2.St → Hp → Prop, (∀ σ' H', N σ' H' → ∃ m', m' < m ∧ W (i + 1) m' σ' H') ∧ ∀ x H', J.yld i H x H' → g x σ H' fun σ2 H2 => ts { D with nx := N, ct := N, bk := D.nx } σ2 H2)) : tFor wi g ts D σ H := h
theorem iL_of {R : It → Hp → Prop} (h : ta σ H fun x H1 => ∃ a, x = .ref a ∧ (∃ xs, SqL K H1 a xs) ∧ R (Itl K a) H1) : iList K ta σ H R := h
theorem iT_of {R : It → Hp → Prop} (h : ta σ H fun x H1 => ∃ a, x = .ref a ∧ (∃ xs, SqT K H1 a xs) ∧ R (Itt K a) H1) : iTup K ta σ H R := h
theorem kL_of {R : It → Hp → Prop} (h : td σ H fun x H1 => ∃ d kvs, x = .ref d ∧ H1 d = some (.dK kvs) ∧ ∀ od, R (Itk d od kvs) (upd H1 d (.frz od (.dK kvs)))) : iKeysL td σ H R := h
theorem r1_of {R : It → Hp → Prop} (h : tt σ H fun vs H1 => ∃ j : Int, vs = [.int j] ∧ -(2 ^ 62) ≤ j ∧ j < 2 ^ 62 ∧ R (Itr 0 j.toNat) H1) : iRng1 tt σ H R := h
theorem rev_of (h : te σ H fun x H1 => ∃ a xs, x = .ref a ∧ SqL K H1 a xs ∧ ∀ p, H1 p = none → Q (.ref p) (upd H1 p (.lst xs.reverse))) : tRevL K te σ H Q := h
theorem for1_of (h : tt σ H fun vs H1 => ∃ j : Int, vs = [.int j] ∧ -(2 ^ 62) ≤ j ∧ j < 2 ^ 62 ∧ ∃ W : Nat → Nat → L2.St → Hp → Prop, (∃ m, W 0 m σ H1) ∧ ∀ i m σ H, W i m σ H →
      ((Itr 0 j.toNat).stop i H ∧ D.nx σ H) ∨ ((Itr 0 j.toNat).go i H ∧ ∃ N : L2.St → Hp → Prop, (∀ σ' H', N σ' H' → ∃ m', m' < m ∧ W (i + 1) m' σ' H') ∧ ∀ x H', (Itr 0 j.toNat).yld i H x H' → g x σ H' fun σ2 H2 => ts { D with nx := N, ct := N, bk := D.nx } σ2 H2)) : tFor (iRng1 tt) g ts D σ H := h
theorem forS_of (h : ta σ H fun x H1 => ∃ a, x = .ref a ∧ (((∃ xs, SqL K H1 a xs) ∧ ∃ W : Nat → Nat → L2.St → Hp → Prop, (∃ m, W 0 m σ H1) ∧ ∀ i m σ H, W i m σ H →
      ((Itl K a).stop i H ∧ D.nx σ H) ∨ ((Itl K a).go i H ∧ ∃ N : L2.St → Hp → Prop, (∀ σ' H', N σ' H' → ∃ m', m' < m ∧ W (i + 1) m' σ' H') ∧ ∀ x H', (Itl K a).yld i H x H' → g x σ H' fun σ2 H2 => ts { D with nx := N, ct := N, bk := D.nx } σ2 H2)) ∨
    ((∃ xs, SqT K H1 a xs) ∧ ∃ W : Nat → Nat → L2.St → Hp → Prop, (∃ m, W 0 m σ H1) ∧ ∀ i m σ H, W i m σ H →
      ((Itt K a).stop i H ∧ D.nx σ H) ∨ ((Itt K a).go i H ∧ ∃ N : L2.St → Hp → Prop, (∀ σ' H', N σ' H' → ∃ m', m' < m ∧ W (i + 1) m' σ' H') ∧ ∀ x H', (Itt K a).yld i H x H' → g x σ H' fun σ2 H2 => ts { D with nx := N, ct := N, bk := D.nx } σ2 H2)))) : tFor (iSeq K ta) g ts D σ H := h
theorem ifE_yes {t : TT} (h : ∀ k : Bool → Hp → Prop, k true H → t σ H k) (q : ta σ H Q) : tIf t ta tb σ H Q := h _ (by
  show if true = true then ta σ H Q else tb σ H Q
  rw [if_pos rfl]
  exact q)
theorem ifE_no {t : TT} (h : ∀ k : Bool → Hp → Prop, k false H → t σ H k) (q : tb σ H Q) : tIf t ta tb σ H Q := h _ (by
  show if false = true then ta σ H Q else tb σ H Q
  rw [if_neg Bool.false_ne_true]
  exact q)
theorem seq_join (I : L2.St → Hp → Prop) (h1 : (∀ σ' H', I σ' H' → tz D σ' H') → tSeq ts tz D σ H) (h2 : ∀ σ' H', I σ' H' → tz D σ' H') : tSeq ts tz D σ H := h1 h2
end
/-! small facts of lists -/
theorem take_one {α : Type} {l : List α} {i : Nat} {x : α} (h : l[i]? = some x) : l.take (i + 1) = l.take i ++ [x] := by
  rw [List.take_add_one, h]
  rfl
theorem take_snoc {α β : Type} {l : List α} {i : Nat} {x : α} (f : α → β) (h : l[i]? = some x) : (l.take (i + 1)).map f = (l.take i).map f ++ [f x] := by
  rw [List.take_add_one, h, List.map_append]
  rfl
theorem map_at {α β : Type} {f : α → β} {l : List α} {i : Nat} {y : β} (h : (l.map f)[i]? = some y) : ∃ x, l[i]? = some x ∧ y = f x := by
  rw [List.getElem?_map] at h
  cases e : l[i]? with
  | none =>
    rw [e] at h
    cases h
  | some x =>
    rw [e] at h
    exact ⟨x, rfl, (Option.some.inj h).symm⟩
theorem at_map {l : List Int} {i : Nat} {x : V} (h : (l.map V.int)[i]? = some x) : ∃ k, l[i]? = some k ∧ x = .int k := map_at h
theorem filterMap_snoc {α β : Type} {l : List α} {i : Nat} {x : α} (f : α → Option β) (h : l[i]? = some x) : (l.take (i + 1)).filterMap f = (l.take i).filterMap f ++ (f x).toList := by
  rw [List.take_add_one, h, List.filterMap_append]
  show _ ++ List.filterMap f [x] = _
  cases e : f x with
  | none => rw [List.filterMap_cons_none e] <;> rfl
  | some y => rw [List.filterMap_cons_some e] <;> rfl
theorem flatMap_snoc {α β : Type} {l : List α} {i : Nat} {x : α} (f : α → List β) (h : l[i]? = some x) : (l.take (i + 1)).flatMap f = (l.take i).flatMap f ++ f x := by
  rw [List.take_add_one, h, List.flatMap_append]
  show _ ++ List.flatMap f [x] = _
  rw [List.flatMap_cons, List.flatMap_nil, List.append_nil]
theorem TdAll.last {K : PySem.W.Frag} {H : Hp} : ∀ {ys : List V} {ds : List PyData} {d : PyData}, TdAll K H ys (ds ++ [d]) → ∃ zs y, ys = zs ++ [y] ∧ TdAll K H zs ds ∧ Td K H y d
  | _, [], _, h => by
    obtain ⟨y, ys, rfl, h1, h2⟩ := TdAll.inv_cons h
    rw [h2.inv_nil]
    exact ⟨[], y, rfl, .nil, h1⟩
  | _, e :: ds, d, h => by
    obtain ⟨y, ys, rfl, h1, h2⟩ := TdAll.inv_cons h
    obtain ⟨zs, z, rfl, h3, h4⟩ := TdAll.last h2
    exact ⟨y :: zs, z, rfl, .cons h1 h3, h4⟩
theorem snoc_of {α : Type} : ∀ {l : List α}, l ≠ [] → ∃ m x, l = m ++ [x]
  | [], h => absurd rfl h
  | [x], _ => ⟨[], x, rfl⟩
  | x :: y :: l, _ => by
    obtain ⟨m, z, e⟩ := snoc_of (l := y :: l) (by simp)
    exact ⟨x :: m, z, by rw [e]; rfl⟩
theorem flat_congr {α β : Type} {f g : α → List β} : ∀ {l : List α}, (∀ x ∈ l, f x = g x) → l.flatMap f = l.flatMap g
  | [], _ => rfl
  | x :: l, h => by rw [List.flatMap_cons, List.flatMap_cons, h x List.mem_cons_self, flat_congr fun y hy => h y (List.mem_cons_of_mem _ hy)]
theorem strict_of {ns : List Int} (h : ns.Pairwise (· ≤ ·)) (nd : ns.Nodup) : ns.Pairwise (· < ·) := by
  refine List.Pairwise.imp₂ (fun a b h1 h2 => ?_) h nd
  have h3 : a ≠ b := h2
  omega
/-- strictly ascending lists of the same ints are the same -/
theorem asc_uniq : ∀ {a b : List Int}, a.Pairwise (· < ·) → b.Pairwise (· < ·) → (∀ n, n ∈ a ↔ n ∈ b) → a = b
  | [], [], _, _, _ => rfl
  | [], y :: b, _, _, h => absurd ((h y).mpr List.mem_cons_self) List.not_mem_nil
  | x :: a, [], _, _, h => absurd ((h x).mp List.mem_cons_self) List.not_mem_nil
  | x :: a, y :: b, ha, hb, h => by
    have h1 := List.pairwise_cons.mp ha
    have h2 := List.pairwise_cons.mp hb
    have e : x = y := by
      rcases List.mem_cons.mp ((h x).mp List.mem_cons_self) with e | m
      · exact e
      · rcases List.mem_cons.mp ((h y).mpr List.mem_cons_self) with e | m2
        · exact e.symm
        · have := h2.1 x m
          have := h1.1 y m2
          omega
    subst e
    rw [asc_uniq h1.2 h2.2 fun n => ?_]
    constructor
    · intro m
      rcases List.mem_cons.mp ((h n).mp (List.mem_cons_of_mem _ m)) with e | m2
      · have := h1.1 n m
        omega
      · exact m2
    · intro m
      rcases List.mem_cons.mp ((h n).mpr (List.mem_cons_of_mem _ m)) with e | m2
      · have := h2.1 n m
        omega
      · exact m2
theorem same_of {A : Int → Prop} {a b : List Int} (ha : a.Pairwise (· < ·)) (hb : b.Pairwise (· < ·)) (ia : ∀ n, n ∈ a ↔ A n) (ib : ∀ n, n ∈ b ↔ A n) : a = b := asc_uniq ha hb fun n => (ia n).trans (ib n).symm
theorem thing_src {t : Thing} {α : Arc} (h : α ∈ thingArcs t) : α.src.length ≤ 2 := by
  unfold thingArcs at h
  split at h
  · obtain ⟨p, _, e⟩ := List.mem_filterMap.mp h
    unfold slotArc at e
    split at e
    · cases e
      exact (show 1 ≤ 2 by decide)
    · cases e
  · split at h
    · obtain ⟨p, _, e⟩ := List.mem_filterMap.mp h
      unfold entryArc at e
      split at e
      · cases e
        exact Nat.le_refl 2
      · cases e
    · cases h
theorem arcs_src {s : Shot} {α : Arc} (h : α ∈ arcsOf s) : α.src.length ≤ 2 := by
  rcases List.mem_append.mp h with h | h
  · obtain ⟨r, _, rfl⟩ := List.mem_map.mp h
    exact (show 0 ≤ 2 by decide)
  · obtain ⟨t, _, ht⟩ := List.mem_flatMap.mp h
    exact thing_src ht
theorem filter_none (as : List Arc) : (as.filter fun α => decide (α.tgt ∉ ([] : List Int))) = as := List.filter_eq_self.mpr fun _ _ => by simp
/-! dicts of True -/
abbrev kTrue (met : List Int) : List (Key × V) := met.map fun n => (Sum.inl n, V.bl true)
theorem val_kTrue (n : Int) : ∀ met : List Int, (valV (kTrue met) (.inl n)).isSome = decide (n ∈ met)
  | [] => by simp [valV]
  | m :: met => by
    by_cases e : m = n
    · subst e
      show (valV ((Sum.inl m, V.bl true) :: kTrue met) (.inl m)).isSome = _
      rw [valV_pos rfl]
      simp
    · show (valV ((Sum.inl m, V.bl true) :: kTrue met) (.inl n)).isSome = _
      rw [valV_neg (fun q => e (Sum.inl.inj q)), val_kTrue n met]
      have : ¬ n = m := fun q => e q.symm
      simp [this]
theorem put_kTrue {n : Int} {met : List Int} (h : n ∉ met) : putK (kTrue met) (.inl n) (.bl true) = kTrue (met ++ [n]) := by
  have e : valV (kTrue met) (.inl n) = none := by
    have := val_kTrue n met
    rw [decide_eq_false h] at this
    cases q : valV (kTrue met) (.inl n) with
    | none => rfl
    | some v =>
      rw [q] at this
      cases this
  rw [putK_new _ e]
  show _ = (met ++ [n]).map _
  rw [List.map_append]
  rfl
def insT (met : List Int) (n : Int) : List Int := if n ∈ met then met else met ++ [n]
theorem put_ins (met : List Int) (n : Int) : putK (kTrue met) (.inl n) (.bl true) = kTrue (insT met n) := by
  unfold insT
  by_cases h : n ∈ met
  · rw [if_pos h]
    have e : (valV (kTrue met) (.inl n)).isSome = true := by
      rw [val_kTrue]
      exact decide_eq_true h
    unfold putK
    rw [valV_any, if_pos e]
    show (met.map fun n => ((Sum.inl n : Key), V.bl true)).map _ = _
    rw [List.map_map]
    refine List.map_congr_left fun m _ => ?_
    show (if (Sum.inl m : Key) = Sum.inl n then ((Sum.inl m : Key), V.bl true) else (Sum.inl m, V.bl true)) = _
    split <;> rfl
  · rw [if_neg h]
    exact put_kTrue h
theorem insT_mem {met : List Int} {n m : Int} : m ∈ insT met n ↔ m ∈ met ∨ m = n := by
  unfold insT
  by_cases h : n ∈ met
  · rw [if_pos h]
    constructor
    · exact .inl
    · rintro (q | q)
      · exact q
      · rw [q]
        exact h
  · rw [if_neg h, List.mem_append, List.mem_singleton]
theorem insT_nodup {met : List Int} {n : Int} (nd : met.Nodup) : (insT met n).Nodup := by
  unfold insT
  by_cases h : n ∈ met
  · rw [if_pos h]
    exact nd
  · rw [if_neg h, List.nodup_append]
    refine ⟨nd, by simp, fun a ha b hb e => ?_⟩
    rw [List.mem_singleton.mp hb] at e
    rw [e] at ha
    exact h ha
theorem insT_pre (met : List Int) (n : Int) : met <+: insT met n := by
  unfold insT
  split
  · exact List.prefix_refl _
  · exact List.prefix_append _ _
theorem insT_len (met : List Int) (n : Int) : (insT met n).length ≤ met.length + 1 := by
  unfold insT
  split
  · omega
  · rw [List.length_append, List.length_singleton]
    omega
/-! a list or a tuple -/
def SqA (K : PySem.W.Frag) (H : Hp) (a : Addr) (xs : List V) : Prop := SqL K H a xs ∨ SqT K H a xs
theorem SqA.ex {K : PySem.W.Frag} {H H' : Hp} {a : Addr} {xs : List V} (h : SqA K H a xs) (e : Ex H H') : SqA K H' a xs := h.imp (ex_l e) (ex_t e)
/-- over what is there from the beginning and stays -/
theorem for_seqA {K : PySem.W.Frag} {ta : TE} {g : TG} {tb : TS} {D : Ends} {σ : L2.St} {H0 H : Hp} {a : Addr} {xs : List V} (hq : SqA K H0 a xs) (Pv : Nat → L2.St → Hp → Prop) (hv : ∀ Q : VK, Q (.ref a) H → ta σ H Q) (h0 : Pv 0 σ H) (hl : ∀ i σ H, Pv i σ H → Ex H0 H)
    (hs : ∀ i x σ H, xs[i]? = some x → Pv i σ H → g x σ H fun σ2 H2 => tb { D with nx := Pv (i + 1), ct := Pv (i + 1), bk := D.nx } σ2 H2) (hd : ∀ σ H, Pv xs.length σ H → D.nx σ H) : tFor (iSeq K ta) g tb D σ H := by
  refine forS_of (hv _ ⟨a, rfl, ?_⟩)
  rcases hq with hq | hq
  · exact .inl ⟨⟨xs, ex_l (hl _ _ _ h0) hq⟩, for_list (K := K) (a := a) (xs := xs) Pv h0 (fun i σ H _ p => ex_l (hl _ _ _ p) hq) hs hd⟩
  · exact .inr ⟨⟨xs, ex_t (hl _ _ _ h0) hq⟩, for_tup (K := K) (a := a) (xs := xs) Pv h0 (fun i σ H _ p => ex_t (hl _ _ _ p) hq) hs hd⟩
theorem lc_seqA {K : PySem.W.Frag} {ta te : TE} {g : TG} {tt : TT} {vs : List Nat} {σ : L2.St} {H0 H : Hp} {a : Addr} {xs : List V} {Q : VK} (hq : SqA K H0 a xs) (e0 : Ex H0 H) (hv : ∀ Q : VK, Q (.ref a) H → ta σ H Q)
    (k : ∀ D, H D = none → ∃ Pv : Nat → Hp → Prop, Pv 0 (upd H D (.lst [])) ∧ (∀ i H, Pv i H → Ex H0 H) ∧
      (∀ i x H, xs[i]? = some x → Pv i H → g x (wipe σ vs) H fun σ2 H2 => wipe σ2 vs = wipe σ vs ∧ tt σ2 H2 fun b H3 => if b = true then te σ2 H3 fun y H4 => ∃ acc, H4 D = some (.lst acc) ∧ acc.length < sizeLine ∧ Pv (i + 1) (upd H4 D (.lst (acc ++ [y]))) else Pv (i + 1) H3) ∧
      ∀ H, Pv xs.length H → Q (.ref D) H) : tLc (iSeq K ta) g tt te vs σ H Q := by
  refine lc_of (hv _ ⟨a, rfl, ?_⟩)
  rcases hq with hq | hq
  · refine .inl ⟨⟨xs, ex_l e0 hq⟩, fun D hD => ?_⟩
    obtain ⟨Pv, h0, hl, hs, hd⟩ := k D hD
    exact lc_list (K := K) (a := a) (xs := xs) Pv h0 (fun i H _ p => ex_l (hl _ _ p) hq) hs hd
  · refine .inr ⟨⟨xs, ex_t e0 hq⟩, fun D hD => ?_⟩
    obtain ⟨Pv, h0, hl, hs, hd⟩ := k D hD
    exact lc_tup (K := K) (a := a) (xs := xs) Pv h0 (fun i H _ p => ex_t (hl _ _ p) hq) hs hd
end Sn
/-! tuples of which it is known that they have no dict of their own; dict(xs) of such a tuple of pairs -/
namespace Sn
open PySem PySem.Spec PyProof.Rows L2 Evl Gd
def PlT (H : Hp) (p : Addr) (xs : List V) : Prop := ∃ o : Obj, o.dict = none ∧ H p = some (.frz o (.tup xs))
theorem PlT.sq {K : PySem.W.Frag} {H : Hp} {p : Addr} {xs : List V} (h : PlT H p xs) : SqT K H p xs := by
  obtain ⟨o, _, e⟩ := h
  exact .inl (.inr ⟨o, e⟩)
theorem PlT.ex {H H' : Hp} {p : Addr} {xs : List V} (e : Ex H H') (h : PlT H p xs) : PlT H' p xs := by
  obtain ⟨o, h0, h1⟩ := h
  exact ⟨o, h0, e _ _ h1⟩
theorem PlT.keep {H H' : Hp} {p : Addr} {xs : List V} (e : ∀ o, H p = some (.frz o (.tup xs)) → H' p = some (.frz o (.tup xs))) (h : PlT H p xs) : PlT H' p xs := by
  obtain ⟨o, h0, h1⟩ := h
  exact ⟨o, h0, e _ h1⟩
theorem PlT.off {H H' : Hp} {d p : Addr} {xs : List V} {u : HO} (hd : H d = some u) (nu : ∀ o v, u ≠ .frz o v) (e : ∀ a o, a ≠ d → H a = some o → H' a = some o) (h : PlT H p xs) : PlT H' p xs :=
  h.keep fun o q => e _ _ (fun z => by
    rw [z, hd] at q
    exact nu _ _ (Option.some.inj q)) q
section
variable {X : Cx}
/-- tuple(xs), xs a list: a tuple without a dict -/
def rTupP (K : PySem.W.Frag) : List V → Hp → VK → Prop := fun xs H Q => ∃ p ys, xs = [.ref p] ∧ SqL K H p ys ∧ ∀ (l : Addr) (o : Obj), o.dict = none → H l = none → Q (.ref l) (upd H l (.frz o (.tup ys)))
theorem cr_tupP : CallR X (.type "tuple") (rTupP X.K) := by
  intro pins s σ H xs us Q I r h
  obtain ⟨p, ys, rfl, hq, q⟩ := h
  obtain ⟨u, rfl, rx⟩ := vals1 r
  cases rx
  obtain ⟨its, r2, pl, hz⟩ := I.list hq
  have hlen := r2.length
  refine call_tuple_list pl.isList (fun h2 kp => ?_) (by simp only [List.size_toArray] <;> omega)
  have I1 : Inv X pins σ H { s with heap := h2 } := I.kept (t' := s.toks) kp
  have new : (h2.push { cls := .type "tuple", data := .seq its.toArray }).get? h2.objs.size = some { cls := .type "tuple", data := .seq its.toArray } := Heap.get?_push_size _ rfl
  have I2 : Inv X pins σ (upd H h2.objs.size (.frz { cls := .type "tuple", data := .seq its.toArray } (.tup ys))) { s with heap := h2.push { cls := .type "tuple", data := .seq its.toArray } } :=
    I1.laid (t' := s.toks) (fun b o e => Heap.get?_push_of_some _ e) (Nat.le_refl _) (show ObjOk X.prog X.w _ _ _ (.frz _ (.tup ys)) from ⟨new, hz, its, r2, IsTup.new _ _⟩)
  exact ⟨.ref h2.objs.size, _, I2, rfl, q _ _ rfl (I1.hok.fresh (Nat.le_refl _))⟩
theorem pairs_two {pins : List (Addr × Obj)} {σ : L2.St} {H : Hp} {s : Shared} (I : Inv X pins σ H s) : ∀ {ps : List Addr} {kvs : List (Key × V)}, Paired (fun p kv => SqT X.K H p [kV kv.1, kv.2]) ps kvs →
    ∃ (prs : List (Key × Value)) (vv : List (Value × Value)), KV kvs prs ∧ prs.length = ps.length ∧ vv.length = ps.length ∧ ∀ (j : Nat) (k v : Value), vv[j]? = some (k, v) → ∃ (b : Addr) (q : Key), ps[j]? = some b ∧ s.heap.IsTuple b #[k, v] ∧ prs[j]? = some (q, v) ∧ keyIs q k = true
  | _, _, .nil => ⟨[], [], .nil, rfl, rfl, fun j k v e => by simp at e⟩
  | _, _, .cons (a := p) (b := kv) h t => by
    obtain ⟨prs, vv, r, hl, hv, hp⟩ := pairs_two I t
    obtain ⟨its, rv, ht, _⟩ := I.tuple h
    obtain ⟨u, y, ei, ru, ry⟩ := vals2 rv
    subst ei
    refine ⟨(kv.1, y) :: prs, (u, y) :: vv, .cons ⟨rfl, ry⟩ r, by rw [List.length_cons, List.length_cons, hl], by rw [List.length_cons, List.length_cons, hv], fun j k v e => ?_⟩
    cases j with
    | zero =>
      have e' : (u, y) = (k, v) := Option.some.inj e
      obtain ⟨rfl, rfl⟩ := Prod.mk.inj e'
      exact ⟨p, kv.1, rfl, ht, rfl, kV_is (P := X.prog) (w := X.w) ru⟩
    | succ j =>
      obtain ⟨b, q, e1, e2, e3, e4⟩ := hp j k v (by simpa using e)
      exact ⟨b, q, by simpa using e1, e2, by simpa using e3, e4⟩
/-- dict(xs), xs a plain tuple of pairs -/
def rDictP (K : PySem.W.Frag) : List V → Hp → VK → Prop := fun xs H Q => ∃ (a : Addr) (ps : List Addr) (kvs : List (Key × V)), xs = [.ref a] ∧ (SqL K H a (ps.map V.ref) ∨ PlT H a (ps.map V.ref)) ∧ Paired (fun p kv => SqT K H p [kV kv.1, kv.2]) ps kvs ∧
    ∀ p, H p = none → Q (.ref p) (upd H p (.dK (mergeK [] kvs)))
theorem cr_dictP (hcalm : X.calm = true) : CallR X (.type "dict") (rDictP X.K) := by
  intro pins s σ H xs us Q I r q
  obtain ⟨a, ps, kvs, ex, hq, hp, q⟩ := q
  rcases hq with hq | hq
  · exact call_dictP hcalm pins s σ H xs us Q I r ⟨a, ps, kvs, ex, hq, hp, q⟩
  subst ex
  obtain ⟨u, eu, rx⟩ := vals1 r
  subst eu
  cases rx
  obtain ⟨ob, od, e0⟩ := hq
  obtain ⟨hob, hz, its, rv, ht⟩ := I.hok _ _ e0
  have ei := refs_at rv
  subst ei
  rw [List.length_map] at hz
  obtain ⟨prs, vv, rel, hl, hvl, hpr⟩ := pairs_two I hp
  obtain ⟨o2, ho2, hc, n, hdat⟩ := ht
  rw [hob] at ho2
  cases ho2
  have items : PySem.PairItems s.heap (ps.map Value.ref).toArray (fun j => ps.getD j 0) vv := by
    refine ⟨by simp [hvl], fun j k v hj => ?_⟩
    obtain ⟨b, qk, e1, e2, e3, e4⟩ := hpr j k v hj
    have eg : ps.getD j 0 = b := by
      rw [List.getD_eq_getElem?_getD, e1]
      rfl
    refine ⟨by simp [e1], .inl ?_⟩
    show s.heap.IsTuple (ps.getD j 0) #[k, v]
    rw [eg]
    exact e2
  have hm : (s.heap.objs.size == sysModules) = false := beq_eq_false_iff_ne.mpr (Nat.ne_of_gt I.big)
  refine PySem.call_dict_pairs (knd := mixKind X.prog X.w) (kvs := prs) (PySem.PairArg.tuple a _ _ vv) (I.ok.hd hcalm) ⟨⟨_, n, hob, hc, od, hdat⟩, items⟩ ⟨by omega, fun i key v e => ?_⟩ (by omega) fun h2 tk hd2 k => ?_
  · obtain ⟨b, qk, e1, e2, e3, e4⟩ := hpr i key v e
    exact ⟨qk, e3, e4⟩
  · have hlen : (mergeK [] kvs).length ≤ sizeLine := by
      refine Nat.le_trans (length_mergeK kvs []) ?_
      rw [List.length_nil, Nat.zero_add, rel.length, hl]
      exact hz
    exact ⟨.ref s.heap.objs.size, upd H s.heap.objs.size (.dK (mergeK [] kvs)), I.laid (t' := tk) (fun b o e => k b o (fun z => nomatch z) e) (Nat.le_refl _) (show ObjOk X.prog X.w _ _ _ (.dK (mergeK [] kvs)) from ⟨hlen, hm, merged [] prs, KV.merge rel .nil, hd2⟩), rfl, q _ (I.hok.fresh (Nat.le_refl _))⟩
end
/-- tuples stay, plain ones too -/
def KeepP (K : PySem.W.Frag) (H H' : Hp) : Prop := KeepT K H H' ∧ ∀ p o xs, H p = some (.frz o (.tup xs)) → H' p = some (.frz o (.tup xs))
theorem KeepP.ex {K : PySem.W.Frag} {H H' : Hp} (e : Ex H H') : KeepP K H H' := ⟨.of e, fun p o xs h => e _ _ h⟩
theorem KeepP.off {K : PySem.W.Frag} {H H' : Hp} {p : Addr} {u : HO} (hp : H p = some u) (hu : (∀ xs, u ≠ .tup xs) ∧ ∀ o v, u ≠ .frz o v) (e : ∀ a o, a ≠ p → H a = some o → H' a = some o) : KeepP K H H' := ⟨.off hp hu e, fun a o xs h => e _ _ (fun z => by
  rw [z, hp] at h
  exact hu.2 _ _ (Option.some.inj h)) h⟩
theorem KeepP.lst {K : PySem.W.Frag} {H H' : Hp} {p : Addr} {zs : List V} (hp : H p = some (.lst zs)) (e : ∀ a o, a ≠ p → H a = some o → H' a = some o) : KeepP K H H' := .off hp ⟨(fun _ z => nomatch z), (fun _ _ z => nomatch z)⟩ e
theorem PlT.kp {K : PySem.W.Frag} {H H' : Hp} {p : Addr} {xs : List V} (k : KeepP K H H') (h : PlT H p xs) : PlT H' p xs := h.keep fun o e => k.2 _ _ _ e
/-- a thing as it lies there, its parts a plain tuple -/
def ThS (K : PySem.W.Frag) (H : Hp) (y : V) (t : Thing) : Prop := ∃ (a pp : Addr) (ps : List V), y = .ref a ∧ SqT K H a [.int t.n, .str t.home, .str t.sort, .ref pp] ∧ SqT K H pp ps ∧ TdAll K H ps (t.parts.map dPart) ∧ (t.sort ≠ "weak" → PlT H pp ps)
/-- a snapshot whose roots and parts are plain tuples -/
def TdS (K : PySem.W.Frag) (H : Hp) (x : V) (s : Shot) : Prop := ∃ (p pr po : Addr) (rs os : List V), x = .ref p ∧ SqT K H p [.ref pr, .ref po] ∧ PlT H pr rs ∧ TdAll K H rs (s.roots.map dRoot) ∧ SqT K H po os ∧ Paired (ThS K H) os s.things
theorem ThS.kp {K : PySem.W.Frag} {H H' : Hp} {y : V} {t : Thing} (k : KeepP K H H') (h : ThS K H y t) : ThS K H' y t := by
  obtain ⟨a, pp, ps, e, s1, s2, tp, w⟩ := h
  exact ⟨a, pp, ps, e, k.1 _ _ s1, k.1 _ _ s2, tp.keep k.1, fun z => (w z).kp k⟩
theorem TdS.kp {K : PySem.W.Frag} {H H' : Hp} {y : V} {s : Shot} (k : KeepP K H H') (h : TdS K H y s) : TdS K H' y s := by
  obtain ⟨p, pr, po, rs, os, e, s, r, tr, so, w⟩ := h
  exact ⟨p, pr, po, rs, os, e, k.1 _ _ s, r.kp k, tr.keep k.1, k.1 _ _ so, L2.Paired.mapP w fun _ _ z => z.kp k⟩
theorem TdS.ex {K : PySem.W.Frag} {H H' : Hp} {y : V} {s : Shot} (e : Ex H H') (h : TdS K H y s) : TdS K H' y s := h.kp (.ex e)
theorem paired_snoc {α β : Type} {F : α → β → Prop} {x : α} {y : β} (h : F x y) : ∀ {l₁ : List α} {l₂ : List β}, Paired F l₁ l₂ → Paired F (l₁ ++ [x]) (l₂ ++ [y])
  | _, _, .nil => .cons h .nil
  | _, _, .cons a t => .cons a (paired_snoc h t)
theorem ThS.td {K : PySem.W.Frag} {H : Hp} {y : V} {t : Thing} (h : ThS K H y t) : Td K H y (dThing t) := by
  obtain ⟨a, pp, ps, rfl, s1, s2, tp, w⟩ := h
  exact .tup s1 (.cons (.int _) (.cons (.str _) (.cons (.str _) (.cons (.tup s2 tp) .nil))))
theorem things_td {K : PySem.W.Frag} {H : Hp} : ∀ {os : List V} {ts : List Thing}, Paired (ThS K H) os ts → TdAll K H os (ts.map dThing)
  | _, _, .nil => .nil
  | _, _, .cons a t => .cons a.td (things_td t)
theorem TdS.td {K : PySem.W.Frag} {H : Hp} {x : V} {s : Shot} (h : TdS K H x s) : Td K H x (dShot s) := by
  obtain ⟨p, pr, po, rs, os, rfl, sp, r, tr, so, w⟩ := h
  exact .tup sp (.cons (.tup r.sq tr) (.cons (.tup so (things_td w)) .nil))
theorem paired_at {α β : Type} {F : α → β → Prop} : ∀ {l₁ : List α} {l₂ : List β} {i : Nat} {x : α}, Paired F l₁ l₂ → l₁[i]? = some x → ∃ y, l₂[i]? = some y ∧ F x y
  | _, _, _, _, .nil, h => by simp at h
  | _, _, 0, _, .cons a _, h => ⟨_, rfl, by
    have e := Option.some.inj h
    rw [← e]
    exact a⟩
  | _, _, i + 1, _, .cons _ t, h => by
    obtain ⟨y, h1, h2⟩ := paired_at (i := i) t (by simpa using h)
    exact ⟨y, by simpa using h1, h2⟩
end Sn
namespace Sn
open PySem PySem.Spec PyProof.Rows L2 Evl Gd
def topS (i : Nat) : Stmt := PySem.Challenge.pw_crossheaps_k54_what_dies_without_links.main.body.getD i (.Pass ⟨0, 0, 0, 0⟩)
/-- a def of the top: where it stands, how it is called -/
structure Df (K : PySem.W.Frag) (mg : Str → Option Value) (x : Str) (st : Stmt) (ps : List Str) (f : Addr) (fd : FuncData) : Prop where
  F : Fun K x x st f fd
  b : Binds K fd ps []
  g : mg x = some (.ref f)
/-- a method -/
structure Mf (K : PySem.W.Frag) (C : Addr) (m q : Str) (st : Stmt) (ps : List Str) (f : Addr) (fd : FuncData) : Prop where
  F : Fun K m q st f fd
  b : Binds K fd ps []
  m : Meth K C m f
abbrev sNInit : Stmt := inClass (topS 11) 0
abbrev sNetOf : Stmt := topS 12
abbrev nNInit : List Str := ["self", "roots", "rows"]
abbrev nNetOf : List Str := ["snapshot", "roots", "objects", "rows", "number", "_", "sort", "parts", "part"]
theorem scNInit : FnScope nNInit ["self", "roots", "rows"] (defScope sNInit) := ⟨rfl, rfl, rfl, by decide +kernel, rfl, by decide +kernel, by decide +kernel⟩
theorem scNetOf : FnScope nNetOf ["snapshot"] (defScope sNetOf) := ⟨rfl, rfl, rfl, by decide +kernel, rfl, by decide +kernel, by decide +kernel⟩
theorem rows_nr : ¬ (("rows" : Str) = "roots") := by decide +kernel
theorem roots_nr : ¬ (("roots" : Str) = "rows") := by decide +kernel
def nf (r d : V) : List (Str × V) := putF "rows" d (putF "roots" r [])
theorem nf_rows (r d : V) : (nf r d).lookup ("rows" : Str) = some d := by
  unfold nf
  rw [lookup_putF, if_pos rfl]
theorem nf_roots (r d : V) : (nf r d).lookup ("roots" : Str) = some r := by
  unfold nf
  rw [lookup_putF, if_neg roots_nr, lookup_putF, if_pos rfl]
theorem nf_no (r d : V) {x : Str} (h1 : ¬ x = "rows") (h2 : ¬ x = "roots") : (nf r d).lookup x = none := by
  unfold nf
  rw [lookup_putF, if_neg h1, lookup_putF, if_neg h2]
  rfl
structure Txt (K : PySem.W.Frag) (mg : Str → Option Value) (C : Addr) : Prop where
  cl : Cls K C
  nR : NoAttr K C "roots"
  nW : NoAttr K C "rows"
  mgC : mg "Net" = some (.ref C)
/-- (sort, parts) of a row -/
def RowAt (K : PySem.W.Frag) (H : Hp) (v : V) (r : Row) : Prop := ∃ t pa ps, v = .ref t ∧ SqT K H t [.str r.sort, .ref pa] ∧ SqA K H pa ps ∧ TdAll K H ps (r.parts.map dPart)
/-- the dict of rows -/
def RowsAt (K : PySem.W.Frag) (H : Hp) (kvs : List (Key × V)) (rs : List Row) : Prop := kvs.map (·.1) = rs.map (fun r => (Sum.inl r.n : Key)) ∧ ∀ r ∈ rs, ∃ v, valV kvs (.inl r.n) = some v ∧ RowAt K H v r
/-- a Net as it lies there -/
def NetAt (K : PySem.W.Frag) (C : Addr) (H : Hp) (p : Addr) (N : NetM) : Prop := ∃ dx ra rs d kvs, H p = some (.ins C dx (nf (.ref ra) (.ref d))) ∧ SqA K H ra rs ∧ TdAll K H rs (N.roots.map dRoot) ∧ H d = some (.dK kvs) ∧ RowsAt K H kvs N.rows
theorem RowAt.keep {K : PySem.W.Frag} {H H' : Hp} {v : V} {r : Row} {d : Addr} {kvs : List (Key × V)} (hd : H d = some (.dK kvs)) (e : ∀ a o, a ≠ d → H a = some o → H' a = some o) (h : RowAt K H v r) : RowAt K H' v r := by
  obtain ⟨t, pa, ps, rfl, h1, h2, h3⟩ := h
  have kt : KeepT K H H' := .off hd ⟨(fun _ z => nomatch z), (fun _ _ z => nomatch z)⟩ e
  refine ⟨t, pa, ps, rfl, kt _ _ h1, ?_, h3.keep kt⟩
  rcases h2 with h | h
  · refine .inl ?_
    rcases h with (h | ⟨o, h⟩) | h
    · exact .inl (.inl (e _ _ (ne_of h hd (fun z => nomatch z)) h))
    · exact .inl (.inr ⟨o, e _ _ (ne_of h hd (fun z => nomatch z)) h⟩)
    · exact .inr h
  · exact .inr (kt _ _ h)
theorem RowAt.ex {K : PySem.W.Frag} {H H' : Hp} {v : V} {r : Row} (e : Ex H H') (h : RowAt K H v r) : RowAt K H' v r := by
  obtain ⟨t, pa, ps, rfl, h1, h2, h3⟩ := h
  exact ⟨t, pa, ps, rfl, ex_t e h1, h2.ex e, h3.ex e⟩
theorem RowsAt.ex {K : PySem.W.Frag} {H H' : Hp} {kvs : List (Key × V)} {rs : List Row} (e : Ex H H') (h : RowsAt K H kvs rs) : RowsAt K H' kvs rs := ⟨h.1, fun r hr => by
  obtain ⟨v, h1, h2⟩ := h.2 r hr
  exact ⟨v, h1, h2.ex e⟩⟩
theorem NetAt.ex {K : PySem.W.Frag} {C : Addr} {H H' : Hp} {p : Addr} {N : NetM} (e : Ex H H') (h : NetAt K C H p N) : NetAt K C H' p N := by
  obtain ⟨dx, ra, rs, d, kvs, h1, h2, h3, h4, h5⟩ := h
  exact ⟨dx, ra, rs, d, kvs, e _ _ h1, h2.ex e, h3.ex e, e _ _ h4, h5.ex e⟩
theorem SqA.off {K : PySem.W.Frag} {H H' : Hp} {C p dx a : Addr} {fs : List (Str × V)} {xs : List V} (hp : H p = some (.ins C dx fs)) (e : ∀ a o, a ≠ p → H a = some o → H' a = some o) (h : SqA K H a xs) : SqA K H' a xs := by
  rcases h with h | h
  · refine .inl ?_
    rcases h with (h | ⟨o, h⟩) | h
    · exact .inl (.inl (e _ _ (ne_of h hp (fun z => nomatch z)) h))
    · exact .inl (.inr ⟨o, e _ _ (ne_of h hp (fun z => nomatch z)) h⟩)
    · exact .inr h
  · exact .inr (KeepT.off hp ⟨(fun _ z => nomatch z), (fun _ _ z => nomatch z)⟩ e _ _ h)
/-- another instance changes -/
theorem NetAt.off {K : PySem.W.Frag} {C D : Addr} {H H' : Hp} {q p dp : Addr} {fs : List (Str × V)} {N : NetM} (hp : H p = some (.ins D dp fs)) (ne : q ≠ p) (e : ∀ a o, a ≠ p → H a = some o → H' a = some o) (h : NetAt K C H q N) : NetAt K C H' q N := by
  obtain ⟨dx, ra, rs, d, kvs, h1, h2, h3, h4, h5, h6⟩ := h
  have kt : KeepT K H H' := .off hp ⟨(fun _ z => nomatch z), (fun _ _ z => nomatch z)⟩ e
  refine ⟨dx, ra, rs, d, kvs, e _ _ ne h1, h2.off hp e, h3.keep kt, e _ _ (ne_of h4 hp (fun z => nomatch z)) h4, h5, fun r hr => ?_⟩
  obtain ⟨v, hv, t, pa, ps, e1, a1, a2, a3⟩ := h6 r hr
  exact ⟨v, hv, t, pa, ps, e1, kt _ _ a1, a2.off hp e, a3.keep kt⟩
theorem key_none {kvs : List (Key × V)} {k : Key} (h : k ∉ kvs.map (·.1)) : valV kvs k = none := by
  induction kvs with
  | nil => rfl
  | cons x r ih =>
    rw [List.map_cons] at h
    obtain ⟨a, b⟩ := x
    rw [valV_neg (fun q : a = k => h (by rw [← q]; exact List.mem_cons_self))]
    exact ih fun m => h (List.mem_cons_of_mem _ m)
/-- a row more -/
theorem RowsAt.add {K : PySem.W.Frag} {H H' : Hp} {d : Addr} {kvs : List (Key × V)} {rs : List Row} {v : V} {r : Row} (h : RowsAt K H kvs rs) (hd : H d = some (.dK kvs)) (e : ∀ a o, a ≠ d → H a = some o → H' a = some o) (hr : RowAt K H v r) (new : r.n ∉ rs.map Row.n) :
    RowsAt K H' (putK kvs (.inl r.n) v) (rs ++ [r]) := by
  have nk : valV kvs (.inl r.n) = none := key_none (by
    rw [h.1]
    intro m
    obtain ⟨r', hr', q⟩ := List.mem_map.mp m
    exact new (List.mem_map.mpr ⟨r', hr', Sum.inl.inj q⟩))
  refine ⟨?_, fun r' hr' => ?_⟩
  · rw [putK_new _ nk, List.map_append, List.map_append, h.1]
    rfl
  · rw [valV_put]
    rcases List.mem_append.mp hr' with m | m
    · have ne : r'.n ≠ r.n := fun q => new (List.mem_map.mpr ⟨r', m, q⟩)
      rw [if_neg (fun q => ne (Sum.inl.inj q))]
      obtain ⟨u, h1, h2⟩ := h.2 r' m
      exact ⟨u, h1, h2.keep hd e⟩
    · rw [List.mem_singleton.mp m, if_pos rfl]
      exact ⟨v, rfl, hr.keep hd e⟩
def spNInit (C : Addr) : Sp := fun vs H Q _ => ∃ p dx r d, vs = [.ref p, r, d] ∧ H p = some (.ins C dx []) ∧ ∀ H', (∀ a o, a ≠ p → H a = some o → H' a = some o) → H' p = some (.ins C dx (nf r d)) → Q .non H'
abbrev okShot (s : Shot) : Prop := (∀ t ∈ s.things, OkThing t) ∧ (∀ t ∈ s.things, t.parts.length ≤ 1000) ∧ OkNet (netM s)
theorem pairs_ex : ∀ {l : List Part}, (∀ p ∈ l, ∃ k v, p = .pair k (some v)) → ∃ ps : List (Int × Int), l = ps.map fun p => .pair p.1 (some p.2)
  | [], _ => ⟨[], rfl⟩
  | p :: l, h => by
    obtain ⟨ps, e⟩ := pairs_ex fun q hq => h q (List.mem_cons_of_mem _ hq)
    obtain ⟨k, v, rfl⟩ := h p List.mem_cons_self
    exact ⟨(k, v) :: ps, by rw [e]; rfl⟩
theorem row_ok {t : Thing} (h : OkThing t) : OkRow (rowOf t) := by
  rcases h with ⟨a, b⟩ | ⟨a, b⟩ | ⟨a, b⟩
  · refine .inl ⟨a, ?_⟩
    obtain ⟨ps, e⟩ := pairs_ex b
    refine ⟨ps, ?_⟩
    unfold rowOf
    rw [← e]
    exact if_neg (by rw [a]; decide +kernel)
  · refine .inr (.inl ⟨a, ?_⟩)
    have eP : (rowOf t).parts = t.parts.filter isVal := by
      unfold rowOf
      exact if_pos a
    rw [eP]
    refine pairs_ex fun p hp => ?_
    have hp2 := List.mem_filter.mp hp
    obtain ⟨k, v, rfl⟩ := b p hp2.1
    cases v with
    | none => exact absurd hp2.2 Bool.false_ne_true
    | some v => exact ⟨k, v, rfl⟩
  · exact .inr (.inr a)
theorem rows_n (s : Shot) : (netM s).rows.map Row.n = s.things.map Thing.n := by
  unfold netM
  rw [List.map_map]
  rfl
theorem ok_shot_of {s : Shot} (h : ∀ t ∈ s.things, OkThing t) (pl : ∀ t ∈ s.things, t.parts.length ≤ 1000) (nd : (s.things.map Thing.n).Nodup) (tg : ∀ α ∈ arcsOf s, α.tgt ∈ s.things.map Thing.n) (al : (arcsOf s).length ≤ 1000) (tl : s.things.length ≤ 1000) : okShot s := by
  refine ⟨h, pl, ⟨fun r hr => ?_, by rw [rows_n]; exact nd, fun α ha => ?_, by rw [net_arcs]; exact al, ?_⟩⟩
  · obtain ⟨t, ht, rfl⟩ := List.mem_map.mp hr
    exact row_ok (h t ht)
  · rw [net_arcs] at ha
    rw [rows_n]
    exact tg α ha
  · unfold netM
    rw [List.length_map]
    exact tl
theorem okShot.arcs {s : Shot} (h : okShot s) : (arcsOf s).length ≤ 1000 := by
  have := h.2.2.many
  rw [net_arcs] at this
  exact this
theorem okShot.rts {s : Shot} (h : okShot s) : s.roots.length ≤ 1000 := by
  have := h.arcs
  unfold arcsOf at this
  rw [List.length_append, List.length_map] at this
  omega
theorem okShot.tgts {s : Shot} (h : okShot s) {α : Arc} (m : α ∈ arcsOf s) : α.tgt ∈ s.things.map Thing.n := by
  have := h.2.2.there α (by rw [net_arcs]; exact m)
  rw [rows_n] at this
  exact this
theorem okShot.nodup {s : Shot} (h : okShot s) : (s.things.map Thing.n).Nodup := by
  have := h.2.2.nodup
  rw [rows_n] at this
  exact this
theorem okShot.tlen {s : Shot} (h : okShot s) : s.things.length ≤ 1000 := by
  have := h.2.2.len
  unfold netM at this
  rw [List.length_map] at this
  exact this
/-- a row whose parts are a list or a plain tuple -/
def PlRow (K : PySem.W.Frag) (H : Hp) (v : V) (r : Row) : Prop := ∃ t pa ps, v = .ref t ∧ SqT K H t [.str r.sort, .ref pa] ∧ (r.sort ≠ "weak" → SqL K H pa ps ∨ PlT H pa ps) ∧ TdAll K H ps (r.parts.map dPart)
/-- a Net whose roots and parts can be made dicts of -/
def PlNet (K : PySem.W.Frag) (C : Addr) (H : Hp) (p : Addr) (N : NetM) : Prop := ∃ dx ra rs d kvs, H p = some (.ins C dx (nf (.ref ra) (.ref d))) ∧ PlT H ra rs ∧ TdAll K H rs (N.roots.map dRoot) ∧ H d = some (.dK kvs) ∧ kvs.map (·.1) = N.rows.map (fun r => (Sum.inl r.n : Key)) ∧ ∀ r ∈ N.rows, ∃ v, valV kvs (.inl r.n) = some v ∧ PlRow K H v r
theorem PlRow.keep {K : PySem.W.Frag} {H H' : Hp} {v : V} {r : Row} {d : Addr} {kvs : List (Key × V)} (hd : H d = some (.dK kvs)) (e : ∀ a o, a ≠ d → H a = some o → H' a = some o) (h : PlRow K H v r) : PlRow K H' v r := by
  obtain ⟨t, pa, ps, rfl, h1, h2, h3⟩ := h
  have kt : KeepT K H H' := .off hd ⟨(fun _ z => nomatch z), (fun _ _ z => nomatch z)⟩ e
  refine ⟨t, pa, ps, rfl, kt _ _ h1, fun z => ?_, h3.keep kt⟩
  rcases h2 z with h | h
  · refine .inl ?_
    rcases h with (h | ⟨o, h⟩) | h
    · exact .inl (.inl (e _ _ (ne_of h hd (fun z => nomatch z)) h))
    · exact .inl (.inr ⟨o, e _ _ (ne_of h hd (fun z => nomatch z)) h⟩)
    · exact .inr h
  · exact .inr (h.off hd (fun _ _ z => nomatch z) e)
theorem PlRow.ex {K : PySem.W.Frag} {H H' : Hp} {v : V} {r : Row} (e : Ex H H') (h : PlRow K H v r) : PlRow K H' v r := by
  obtain ⟨t, pa, ps, rfl, h1, h2, h3⟩ := h
  exact ⟨t, pa, ps, rfl, ex_t e h1, fun z => (h2 z).imp (ex_l e) (PlT.ex e), h3.ex e⟩
theorem PlNet.ex {K : PySem.W.Frag} {C : Addr} {H H' : Hp} {p : Addr} {N : NetM} (e : Ex H H') (h : PlNet K C H p N) : PlNet K C H' p N := by
  obtain ⟨dx, ra, rs, d, kvs, h1, h2, h3, h4, h5, h6⟩ := h
  refine ⟨dx, ra, rs, d, kvs, e _ _ h1, h2.ex e, h3.ex e, e _ _ h4, h5, fun r hr => ?_⟩
  obtain ⟨v, a, b⟩ := h6 r hr
  exact ⟨v, a, b.ex e⟩
/-- the rows so far are plain -/
def PlRows (K : PySem.W.Frag) (H : Hp) (kvs : List (Key × V)) (rs : List Row) : Prop := ∀ r ∈ rs, ∃ v, valV kvs (.inl r.n) = some v ∧ PlRow K H v r
theorem PlRows.add {K : PySem.W.Frag} {H H' : Hp} {d : Addr} {kvs : List (Key × V)} {rs : List Row} {v : V} {r : Row} (h : PlRows K H kvs rs) (hd : H d = some (.dK kvs)) (e : ∀ a o, a ≠ d → H a = some o → H' a = some o) (hr : PlRow K H v r) (new : r.n ∉ rs.map Row.n) : PlRows K H' (putK kvs (.inl r.n) v) (rs ++ [r]) := by
  intro r' hr'
  rw [valV_put]
  rcases List.mem_append.mp hr' with m | m
  · have ne : r'.n ≠ r.n := fun q => new (List.mem_map.mpr ⟨r', m, q⟩)
    rw [if_neg (fun q => ne (Sum.inl.inj q))]
    obtain ⟨u, h1, h2⟩ := h r' m
    exact ⟨u, h1, h2.keep hd e⟩
  · rw [List.mem_singleton.mp m, if_pos rfl]
    exact ⟨v, rfl, hr.keep hd e⟩
theorem PlRows.ex {K : PySem.W.Frag} {H H' : Hp} {kvs : List (Key × V)} {rs : List Row} (e : Ex H H') (h : PlRows K H kvs rs) : PlRows K H' kvs rs := fun r hr => by
  obtain ⟨v, h1, h2⟩ := h r hr
  exact ⟨v, h1, h2.ex e⟩
/-- a snapshot taken apart; where it is plain, the parts are -/
theorem shot_parts {K : PySem.W.Frag} {H : Hp} {x : V} {s : Shot} (ht : Td K H x (dShot s)) : ∃ p pr po rs os, x = .ref p ∧ SqT K H p [.ref pr, .ref po] ∧ SqT K H pr rs ∧ TdAll K H rs (s.roots.map dRoot) ∧ SqT K H po os ∧ TdAll K H os (s.things.map dThing) ∧ (TdS K H x s → PlT H pr rs ∧ Paired (ThS K H) os s.things) := by
  by_cases hS : TdS K H x s
  · obtain ⟨p, pr, po, rs, os, rfl, sp, r, tr, so, w⟩ := hS
    exact ⟨p, pr, po, rs, os, rfl, sp, r.sq, tr, so, things_td w, fun _ => ⟨r, w⟩⟩
  · obtain ⟨p, xr, xo, rfl, sp, tr, to⟩ := Td.inv2 ht
    obtain ⟨pr, rs, rfl, spr, tr⟩ := tr.inv_tup
    obtain ⟨po, os, rfl, spo, to⟩ := to.inv_tup
    exact ⟨p, pr, po, rs, os, rfl, sp, spr, tr, spo, to, fun z => absurd z hS⟩
theorem thing_parts {K : PySem.W.Frag} {H : Hp} {x : V} {t : Thing} {A : Prop} (ht : Td K H x (dThing t)) (hA : A → ThS K H x t) : ∃ a pp ps, x = .ref a ∧ SqT K H a [.int t.n, .str t.home, .str t.sort, .ref pp] ∧ SqT K H pp ps ∧ TdAll K H ps (t.parts.map dPart) ∧ (A → t.sort ≠ "weak" → PlT H pp ps) := by
  by_cases z : A
  · obtain ⟨a, pp, ps, e, s1, s2, tp, w⟩ := hA z
    exact ⟨a, pp, ps, e, s1, s2, tp, fun _ => w⟩
  · obtain ⟨a, v1, v2, v3, v4, rfl, s1, t1, t2, t3, t4⟩ := Td.inv4 ht
    rw [t1.inv_int, t2.inv_str, t3.inv_str] at s1
    obtain ⟨pp, ps, rfl, s2, tp⟩ := t4.inv_tup
    exact ⟨a, pp, ps, rfl, s1, s2, tp, fun q => absurd q z⟩
/-- the arcs that lead to none of these -/
def leftOf (s : Shot) (gs : List Int) : List Arc := (arcsOf s).filter fun α => decide (α.tgt ∉ gs)
def spNetOf (K : PySem.W.Frag) (C : Addr) : Sp := fun vs H Q _ => ∃ (x : V) (s : Shot), vs = [x] ∧ Td K H x (dShot s) ∧ okShot s ∧
  ∀ (H' : Hp) (p : Addr), Ex H H' → (NetAt K C H' p (netM s) ∧ (TdS K H x s → PlNet K C H' p (netM s))) → Q (.ref p) H'
section
variable {P : Program} {w : World} {K : PySem.W.Frag} {mg : Str → Option Value} {base : Heap}
theorem ok_ninit {f C : Addr} {fd : FuncData} (F : Fun K "__init__" "Net.__init__" sNInit f fd) (T : Txt K mg C) : FnOk P w K mg base CX0 1 f fd ["self", "roots", "rows"] (spNInit C) := by
  refine F.ok scNInit (fun vs H Q E h => ?_) (fun cdv A outer s H vs Q E hr h => ?_)
  · obtain ⟨p, dx, r, d, rfl, _⟩ := h
    rfl
  · obtain ⟨p, dx, r, d, rfl, hp, q⟩ := h
    refine ⟨_, pss_cons (ps_fld (pv 0) (pv 1) rfl) (pss_one (ps_fld (pv 0) (pv 2) rfl)), ?_⟩
    refine ⟨r, rfl, .ref p, rfl, p, C, dx, [], rfl, hp, T.cl, T.nR, (by show 0 < 1000; decide), ?_⟩
    refine ⟨d, rfl, .ref p, rfl, p, C, dx, _, rfl, upd_same, T.cl, T.nW, (by show 1 < 1000; decide), ?_⟩
    refine q _ (fun a o n h => ?_) upd_same
    rw [upd_ne n, upd_ne n]
    exact h
/-- the def's class and its __init__ -/
structure NetD (P : Program) (w : World) (K : PySem.W.Frag) (mg : Str → Option Value) (base : Heap) (C : Addr) : Prop where
  T : Txt K mg C
  ex : ∃ (fI : Addr) (fdI : FuncData), Mk K C fI ∧ FnOk P w K mg base CX0 1 fI fdI ["self", "roots", "rows"] (spNInit C) ∧ Binds K fdI ["self", "roots", "rows"] []
theorem thing_row {s : Shot} (ok : okShot s) {t : Thing} (h : t ∈ s.things) : OkRow (rowOf t) := ok.2.2.rows _ (List.mem_map.mpr ⟨t, h, rfl⟩)
theorem ok_netof {f C : Addr} {fd : FuncData} (F : Fun K "net_of" "net_of" sNetOf f fd) (N : NetD P w K mg base C) : FnOk P w K mg base CX0 3 f fd ["snapshot"] (spNetOf K C) := by
  obtain ⟨T, fI, fdI, MK, GI, bI⟩ := N
  refine F.ok scNetOf (fun vs H Q E h => ?_) (fun cdv A outer s H vs Q E hr h => ?_)
  · obtain ⟨x, s, rfl, _⟩ := h
    rfl
  · obtain ⟨x, s, rfl, ht, ok, q⟩ := h
    have hu := hu_of hr
    refine ⟨_, pss_cons (ps_asg (pv 0) (pg_tup (n := 2) rfl (pgs_cons (pg_name (i := 1) scNetOf.nd rfl (.inl rfl)) (pgs_cons (pg_name (i := 2) scNetOf.nd rfl (.inl rfl)) pgs_nil))))
      (pss_cons (ps_set (i := 3) scNetOf.nd rfl (.inl rfl) pe_dnewK)
      (pss_cons (ps_for PassesOwn.never rfl (pi_tup (pv 2)) (pg_tup (n := 4) rfl (pgs_cons (pg_name (i := 4) scNetOf.nd rfl (.inl rfl)) (pgs_cons (pg_name (i := 5) scNetOf.nd rfl (.inl rfl)) (pgs_cons (pg_name (i := 6) scNetOf.nd rfl (.inl rfl)) (pgs_cons (pg_name (i := 7) scNetOf.nd rfl (.inl rfl)) pgs_nil)))))
        (pss_cons (ps_if (pt_cmpR op_eq (pv 6) pe_str (nomark _))
          (pss_one (ps_setLc (i := 7) (own := [("part", 8)]) (g := gName 8) (tt := tTest (tOp (fun x y H Q => y = .non ∧ Q (.bl (!decide (x = .non))) H) (tOp (rIxT K) (tVar 8) (tC (.int 1))) (tC .non))) (te := tVar 8) rfl scNetOf.nd rfl rfl (sw_true rfl rfl rfl (by decide +kernel)) (pi_tup (pv 7)) (blkOk_by (N := nNetOf) (sc := defScope sNetOf) (by decide +kernel))
            (fun _ _ _ _ _ => pg_name (i := 8) scNetOf.nd rfl (.inl rfl)) (fun _ _ _ _ _ => pts_one (pt_cmpR op_notN (pe_ix ix_tup (pv 8) pe_int (fun _ _ => rfl)) pe_non (nomark _))) (fun _ _ _ _ _ => pv 8))) pss_nil)
        (pss_one (ps_dput hu (pv 3) (pv 4) (pe_tup (pa_cons (pv 6) (pa_cons (pv 7) pa_nil))) rfl))))
      (pss_one (ps_ret (pe_make MK GI hr rfl T.mgC bI .nil pass0 (pa_cons (pv 1) (pa_cons (pv 3) pa_nil))))))), ?_⟩
    obtain ⟨p, pr, po, rs, os, rfl, sp, spr, tr, spo, to, hpl⟩ := shot_parts ht
    refine ⟨.ref p, rfl, p, _, rfl, sp, rfl, .ref pr, _, rfl, .ref po, _, rfl, rfl, ?_⟩
    dsimp only [gName]
    refine seq_of (asg_of (newK_of fun D hD => ?_))
    have e1 : Ex H (upd H D (.dK [])) := Ex.new hD
    have h1 : (upd H D (.dK [])) D = some (.dK []) := upd_same
    generalize upd H D (.dK []) = H1 at e1 h1 ⊢
    dsimp only
    have nod : (s.things.map Thing.n).Nodup := by
      have := ok.2.2.nodup
      unfold netM at this
      rw [List.map_map] at this
      exact this
    have tlen : s.things.length ≤ 1000 := by
      have := ok.2.2.len
      unfold netM at this
      rw [List.length_map] at this
      exact this
    refine ⟨.ref po, rfl, po, rfl, ⟨_, ex_t e1 spo⟩, for_tup (xs := os) (fun i σ' Hc => ∃ y4 y5 y6 y7, σ' = [some (.ref p), some (.ref pr), some (.ref po), some (.ref D), y4, y5, y6, y7, none] ∧ Ex H Hc ∧ ∃ kvs, Hc D = some (.dK kvs) ∧ RowsAt K Hc kvs ((s.things.take i).map rowOf) ∧ (TdS K H (.ref p) s → PlRows K Hc kvs ((s.things.take i).map rowOf)))
      ⟨none, none, none, none, rfl, e1, [], h1, ⟨rfl, fun r hr => absurd hr List.not_mem_nil⟩, fun _ r hr => absurd hr List.not_mem_nil⟩ (fun i σ' Hc _ ⟨_, _, _, _, _, e, _⟩ => ex_t e spo) ?_ ?_⟩
    · rintro i x σ' Hc hx ⟨y4, y5, y6, y7, rfl, e, kvs, hk, hR, hP⟩
      obtain ⟨δ, hδ, hT⟩ := to.get hx
      obtain ⟨t, ht1, rfl⟩ := map_at hδ
      have tm : t ∈ s.things := List.mem_of_getElem? ht1
      obtain ⟨a, pp, ps, rfl, s1, s2, tp, hpl2⟩ := thing_parts (A := TdS K H (.ref p) s) hT fun z => by
        obtain ⟨t', h1, h2⟩ := paired_at (hpl z).2 hx
        rw [ht1] at h1
        cases h1
        exact h2
      refine ⟨a, _, rfl, ex_t e s1, rfl, .int t.n, _, rfl, .str t.home, _, rfl, .str t.sort, _, rfl, .ref pp, _, rfl, rfl, ?_⟩
      dsimp only [gName]
      have ilt : i < s.things.length := (List.getElem?_eq_some_iff.mp ht1).1
      have kl : kvs.length ≤ i := by
        have := congrArg List.length hR.1
        rw [List.length_map, List.length_map, List.length_map, List.length_take] at this
        omega
      have new : t.n ∉ ((s.things.take i).map rowOf).map Row.n := fun m => by
        rw [List.map_map] at m
        obtain ⟨u, hu1, hu2⟩ := List.mem_map.mp m
        obtain ⟨j, hj⟩ := List.mem_iff_getElem?.mp hu1
        have jl : j < i := by
          have := (List.getElem?_eq_some_iff.mp hj).1
          rw [List.length_take] at this
          omega
        rw [List.getElem?_take_of_lt jl] at hj
        have a1 : (s.things.map Thing.n)[j]? = some t.n := by
          rw [List.getElem?_map, hj]
          exact congrArg some hu2
        have a2 : (s.things.map Thing.n)[i]? = some t.n := by
          rw [List.getElem?_map, ht1]
          rfl
        have := (List.getElem?_inj (by rw [List.length_map]; omega) nod).mp (a1.trans a2.symm)
        omega
      refine seq_join (fun σ' Hd => ∃ pa zs, σ' = [some (.ref p), some (.ref pr), some (.ref po), some (.ref D), some (.int t.n), some (.str t.home), some (.str t.sort), some (.ref pa), none] ∧ Ex Hc Hd ∧ SqA K Hd pa zs ∧ TdAll K Hd zs ((rowOf t).parts.map dPart) ∧ (TdS K H (.ref p) s → t.sort ≠ "weak" → SqL K Hd pa zs ∨ PlT Hd pa zs)) (fun tail => seq_of ?_) ?_
      · refine ⟨.str t.sort, rfl, rfl, _, rfl, ?_⟩
        dsimp only
        by_cases hm : t.sort = "map"
        · rw [decide_eq_true (by rw [hm]), if_pos rfl]
          have eP : (rowOf t).parts = t.parts.filter isVal := by
            unfold rowOf
            exact if_pos hm
          refine ⟨.ref pp, rfl, pp, rfl, ⟨_, ex_t e s2⟩, fun L hL => lc_tup (xs := ps) (fun j Hd => Ex Hc Hd ∧ ∃ zs, Hd L = some (.lst zs) ∧ zs.length ≤ j ∧ TdAll K Hd zs (((t.parts.take j).filter isVal).map dPart)) ⟨Ex.new hL, [], upd_same, Nat.le_refl _, .nil⟩ (fun j Hd _ h => ex_t (e.trans h.1) s2) ?_ ?_⟩
          · rintro j x Hd hx ⟨e2, zs, h2, zl, tz⟩
            obtain ⟨δ, hδ, hT⟩ := tp.get hx
            obtain ⟨q, hq, rfl⟩ := map_at hδ
            have jl : j < ps.length := (List.getElem?_eq_some_iff.mp hx).1
            have pl : t.parts.length ≤ 1000 := ok.2.1 t tm
            have psl := tp.len
            rw [List.length_map] at psl
            obtain ⟨k, v, rfl⟩ : ∃ k v, q = .pair k v := by
              rcases ok.1 t tm with ⟨z, _⟩ | ⟨_, z⟩ | ⟨z, _⟩
              · rw [hm] at z
                exact absurd z (by decide +kernel)
              · exact z q (List.mem_of_getElem? hq)
              · rw [hm] at z
                exact absurd z (by decide +kernel)
            obtain ⟨b, w1, w2, rfl, s3, u1, u2⟩ := Td.inv2 hT
            refine ⟨rfl, ?_⟩
            refine test_of (op_of (op_of (v_of rfl (k_of ⟨b, _, 1, _, rfl, rfl, ex_t (e.trans e2) s3, atI_nat (j := 1) rfl, k_of ⟨rfl, _, rfl, ?_⟩⟩))))
            have kD : ∀ {o}, KeepT K Hd (upd Hd L (.lst o)) := fun {o} => .lst h2 fun a u n h => by
              rw [upd_ne n]
              exact h
            cases v with
            | none =>
              rw [Td.inv_non u2]
              rw [decide_eq_true rfl, if_neg (by decide)]
              refine ⟨e2, zs, h2, by omega, ?_⟩
              rw [take_one hq, List.filter_append, List.filter_cons_of_neg (show ¬ (isVal (Part.pair k none) = true) from Bool.false_ne_true), List.filter_nil, List.append_nil]
              exact tz
            | some v =>
              rw [Td.inv_int u2]
              rw [if_pos (show (!decide (V.int v = V.non)) = true from by simp)]
              refine v_of rfl ⟨zs, h2, sz_lt (by omega), Ex.mut e2 hL, _, upd_same, by rw [List.length_append, List.length_singleton]; omega, ?_⟩
              rw [take_one hq, List.filter_append, List.filter_cons_of_pos rfl, List.filter_nil, List.map_append]
              exact (tz.snoc (hT.ex (e.trans e2))).keep kD
          · rintro Hd ⟨e2, zs, h2, zl, tz⟩
            have psl := tp.len
            rw [List.length_map] at psl
            rw [psl, List.take_length] at tz
            refine tail _ _ ⟨L, zs, rfl, e2, .inl (sq_of h2), ?_, fun _ _ => .inl (sq_of h2)⟩
            rw [eP]
            exact tz
        · rw [decide_eq_false (fun q => hm (V.str.inj q)), if_neg Bool.false_ne_true]
          refine tail _ _ ⟨pp, ps, rfl, Ex.refl _, .inr (ex_t e s2), ?_, fun z w => .inr ((hpl2 z w).ex e)⟩
          have eP : (rowOf t).parts = t.parts := by
            unfold rowOf
            exact if_neg hm
          rw [eP]
          exact tp.ex e
      · rintro σ' Hd ⟨pa, zs, rfl, e2, hz, tz, hq⟩
        refine put_of (tup_of (c_of (v_of rfl (c_of (v_of rfl (n_of ⟨by show 2 ≤ sizeLine; decide, fun T hT0 => ?_⟩))))))
        have e3 : Ex Hd (upd Hd T (.tup [.str t.sort, .ref pa])) := Ex.new hT0
        have hT1 : (upd Hd T (.tup [.str t.sort, .ref pa])) T = some (.tup [.str t.sort, .ref pa]) := upd_same
        generalize upd Hd T (.tup [.str t.sort, .ref pa]) = He at e3 hT1 ⊢
        have hk' := e3 _ _ (e2 _ _ hk)
        refine v_of rfl (v_of rfl ⟨D, _, rfl, DPut.k (k := Sum.inl t.n) hk' (sz_lt (by omega)), _, _, _, _, rfl, Ex.mut ((e.trans e2).trans e3) hD, _, upd_same, ?_⟩)
        rw [take_one ht1, List.map_append]
        have hrow : RowAt K He (.ref T) (rowOf t) := ⟨T, pa, zs, rfl, st_of hT1, hz.ex e3, tz.ex e3⟩
        refine ⟨RowsAt.add (r := rowOf t) (v := .ref T) (H' := upd He D (.dK (putK kvs (.inl t.n) (.ref T)))) (hR.ex (e2.trans e3)) hk' (fun a o n h => by
          rw [upd_ne n]
          exact h) hrow new, fun z => ?_⟩
        have prow : PlRow K He (.ref T) (rowOf t) := ⟨T, pa, zs, rfl, st_of hT1, fun w => (hq z w).imp (ex_l e3) (PlT.ex e3), tz.ex e3⟩
        exact PlRows.add (r := rowOf t) (v := .ref T) (H' := upd He D (.dK (putK kvs (.inl t.n) (.ref T)))) ((hP z).ex (e2.trans e3)) hk' (fun a o n h => by
          rw [upd_ne n]
          exact h) prow new
    · rintro σ' Hc ⟨y4, y5, y6, y7, rfl, e, kvs, hk, hR, hP⟩
      have lts := to.len
      rw [List.length_map] at lts
      rw [lts, List.take_length] at hR hP
      dsimp only
      refine ret_of (make_of (c_of (v_of rfl (c_of (v_of rfl (n_of ?_))))))
      intro p' dx hp hdx ndp
      have hp2 : (upd Hc dx (.own p')) p' = none := by
        rw [upd_ne ndp.symm]
        exact hp
      have x0 : Ex Hc (upd (upd Hc dx (.own p')) p' (.ins C dx [])) := (Ex.new hdx).trans (Ex.new hp2)
      refine ⟨p', dx, .ref pr, .ref D, rfl, upd_same, fun H' ke hp' => ⟨rfl, ?_⟩⟩
      have x1 : Ex Hc H' := fun a o h => ke a o (ne_of_none h hp) (x0 a o h)
      exact q H' p' (e.trans x1) ⟨⟨dx, pr, rs, D, kvs, hp', .inr (ex_t (e.trans x1) spr), tr.ex (e.trans x1), x1 _ _ hk, hR.ex x1⟩, fun z => ⟨dx, pr, rs, D, kvs, hp', (hpl z).1.ex (e.trans x1), tr.ex (e.trans x1), x1 _ _ hk, hR.1, (hP z).ex x1⟩⟩
end
end Sn
namespace Sn
open PySem PySem.Spec PyProof.Rows L2 Evl Gd
abbrev sSrc : Stmt := topS 14
abbrev nSrc : List Str := ["link"]
theorem scSrc : FnScope nSrc ["link"] (defScope sSrc) := ⟨rfl, rfl, rfl, by decide +kernel, rfl, by decide +kernel, by decide +kernel⟩
/-- a link and its sources -/
def Formed (α : Arc) : Prop := (∃ r, α.link = [.inr "root", .inr r] ∧ α.src = []) ∨ (∃ n k, α.link = [.inr "slot", .inl n, .inl k] ∧ α.src = [n]) ∨ ∃ n k, α.link = [.inr "entry", .inl n, .inl k] ∧ α.src = [n, k]
theorem formed_net {N : NetM} {α : Arc} (h : α ∈ netArcs N) : Formed α := by
  rcases arc_cases h with ⟨r, _, rfl⟩ | ⟨r, _, _, p, _, rfl⟩ | ⟨r, _, _, p, _, rfl⟩
  · exact .inl ⟨_, rfl, rfl⟩
  · exact .inr (.inl ⟨_, _, rfl, rfl⟩)
  · exact .inr (.inr ⟨_, _, rfl, rfl⟩)
def spSrc (K : PySem.W.Frag) : Sp := fun vs H Q _ => ∃ (l : Addr) (α : Arc), vs = [.ref l] ∧ SqT K H l (α.link.map kV) ∧ Formed α ∧ ∀ (H' : Hp) (t : Addr), Ex H H' → H t = none → H' t = some (.tup (α.src.map V.int)) → Q (.ref t) H'
section
variable {P : Program} {w : World} {K : PySem.W.Frag} {mg : Str → Option Value} {base : Heap}
theorem ok_src {f : Addr} {fd : FuncData} (F : Fun K "sources_of" "sources_of" sSrc f fd) : FnOk P w K mg base CX0 1 f fd ["link"] (spSrc K) := by
  refine F.ok scSrc (fun vs H Q E h => ?_) (fun cdv A outer s H vs Q E hr h => ?_)
  · obtain ⟨l, α, rfl, _⟩ := h
    rfl
  · obtain ⟨l, α, rfl, hl, hf, q⟩ := h
    refine ⟨_, pss_cons (ps_if (pt_cmpR op_eq (pe_ix ix_tup (pv 0) pe_int (fun _ _ => rfl)) pe_str (nomark _)) (pss_one (ps_ret (pe_tup pa_nil))) pss_nil) <|
      pss_one (ps_ret (pe_ifExp (pt_cmpR op_eq (pe_ix ix_tup (pv 0) pe_int (fun _ _ => rfl)) pe_str (nomark _)) (pe_slice sl_tup (pv 0) (po_some pe_int) (po_some pe_int)) (pe_slice sl_tup (pv 0) (po_some pe_int) po_none))), ?_⟩
    have yes : decide (V.str "slot" = V.str "slot") = true := decide_eq_true rfl
    have n1 : decide (V.str "slot" = V.str "root") = false := by decide +kernel
    have n2 : decide (V.str "entry" = V.str "root") = false := by decide +kernel
    have n3 : decide (V.str "entry" = V.str "slot") = false := by decide +kernel
    rcases hf with ⟨r, e1, e2⟩ | ⟨n, k, e1, e2⟩ | ⟨n, k, e1, e2⟩
    · rw [e1] at hl
      rw [e2] at q
      refine seq_of (ifS_of (test_of (op_of (op_of (v_of rfl (k_of ⟨l, _, 0, _, rfl, rfl, hl, atI_nat (j := 0) rfl, k_of ⟨rfl, _, rfl, ?_⟩⟩))))))
      rw [show decide (kV (.inr "root") = V.str "root") = true from decide_eq_true rfl, if_pos rfl]
      exact ret_of (tup_of (n_of ⟨Nat.zero_le _, fun t ht => q _ t (Ex.new ht) ht upd_same⟩))
    · rw [e1] at hl
      rw [e2] at q
      refine seq_of (ifS_of (test_of (op_of (op_of (v_of rfl (k_of ⟨l, _, 0, _, rfl, rfl, hl, atI_nat (j := 0) rfl, k_of ⟨rfl, _, rfl, ?_⟩⟩))))))
      rw [show decide (kV (.inr "slot") = V.str "root") = false from n1, if_neg Bool.false_ne_true]
      refine ret_of (if_of (test_of (op_of (op_of (v_of rfl (k_of ⟨l, _, 0, _, rfl, rfl, hl, atI_nat (j := 0) rfl, k_of ⟨rfl, _, rfl, ?_⟩⟩))))))
      rw [show decide (kV (.inr "slot") = V.str "slot") = true from yes, if_pos rfl]
      exact v_of rfl (k_of ⟨1, rfl, k_of ⟨2, rfl, l, _, rfl, hl, (show ¬ (HT.sIx 3 0 (some 1) = 0 ∧ HT.sIx 3 3 (some 2) = 3) by decide), fun t ht => q _ t (Ex.new ht) ht upd_same⟩⟩)
    · rw [e1] at hl
      rw [e2] at q
      refine seq_of (ifS_of (test_of (op_of (op_of (v_of rfl (k_of ⟨l, _, 0, _, rfl, rfl, hl, atI_nat (j := 0) rfl, k_of ⟨rfl, _, rfl, ?_⟩⟩))))))
      rw [show decide (kV (.inr "entry") = V.str "root") = false from n2, if_neg Bool.false_ne_true]
      refine ret_of (if_of (test_of (op_of (op_of (v_of rfl (k_of ⟨l, _, 0, _, rfl, rfl, hl, atI_nat (j := 0) rfl, k_of ⟨rfl, _, rfl, ?_⟩⟩))))))
      rw [show decide (kV (.inr "entry") = V.str "slot") = false from n3, if_neg Bool.false_ne_true]
      exact v_of rfl (k_of ⟨1, rfl, l, _, rfl, hl, (show ¬ (HT.sIx 3 0 (some 1) = 0 ∧ HT.sIx 3 3 none = 3) by decide), fun t ht => q _ t (Ex.new ht) ht upd_same⟩)
end
end Sn
namespace Sn
open PySem PySem.Spec PyProof.Rows L2 Evl Gd
abbrev sInt : Stmt := topS 8
abbrev nInt : List Str := ["value"]
theorem scInt : FnScope nInt ["value"] (defScope sInt) := ⟨rfl, rfl, rfl, by decide +kernel, rfl, by decide +kernel, by decide +kernel⟩
def spInt : Sp := fun vs H Q _ => ∃ i, vs = [.int i] ∧ ∀ H', Ex H H' → Q (.bl true) H'
theorem row_there {K : PySem.W.Frag} {H : Hp} {kvs : List (Key × V)} {rs : List Row} (h : RowsAt K H kvs rs) {n : Int} (hn : n ∈ rs.map Row.n) : (valV kvs (.inl n)).isSome = true := by
  obtain ⟨r, hr, rfl⟩ := List.mem_map.mp hn
  obtain ⟨v, hv, _⟩ := h.2 r hr
  rw [hv]
  rfl
section
variable {P : Program} {w : World} {K : PySem.W.Frag} {mg : Str → Option Value} {base : Heap}
theorem ok_int {f : Addr} {fd : FuncData} (F : Fun K "is_integer" "is_integer" sInt f fd) (mI : mg "isinstance" = none) (mT : mg "int" = none) (mB : mg "bool" = none) : FnOk P w K mg base CX0 1 f fd ["value"] spInt := by
  refine F.ok scInt (fun vs H Q E h => ?_) (fun cdv A outer s H vs Q E hr h => ?_)
  · obtain ⟨i, rfl, _⟩ := h
    rfl
  · obtain ⟨i, rfl, q⟩ := h
    refine ⟨_, pss_one (ps_ret (pe_and (pe_callB call_isi (by rfl) mI (by decide +kernel) (pa_cons (pv 0) (pa_cons (pe_bltn (v := .ty "int") (by rfl) mT (by decide +kernel) rfl) pa_nil)))
      (pe_one (pe_not (pe_callB call_isi (by rfl) mI (by decide +kernel) (pa_cons (pv 0) (pa_cons (pe_bltn (v := .ty "bool") (by rfl) mB (by decide +kernel) rfl) pa_nil))))))), ?_⟩
    refine ret_of (andv_of (cb_of (c_of (v_of rfl (c_of (k_of (n_of ⟨.int i, .ty "int", _, _, true, rfl, .ty "int", .base (.int i), kit_ty (by decide +kernel), true, rfl, ?_⟩)))))))
    rw [if_pos rfl]
    exact notv_of (cb_of (c_of (v_of rfl (c_of (k_of (n_of ⟨.int i, .ty "bool", _, _, false, rfl, .ty "bool", .base (.int i), kit_ty (by decide +kernel), false, rfl, q H (Ex.refl H)⟩))))))
end
end Sn
namespace Sn
open PySem PySem.Spec PyProof.Rows L2 Evl Gd
abbrev sIsLink : Stmt := topS 13
abbrev nIsLink : List Str := ["value"]
theorem scIsLink : FnScope nIsLink ["value"] (defScope sIsLink) := ⟨rfl, rfl, rfl, by decide +kernel, rfl, by decide +kernel, by decide +kernel⟩
theorem ty_tup {K : PySem.W.Frag} {H : Hp} {a : Addr} {xs : List V} (h : SqT K H a xs) : TyX K H (.ref a) (.type "tuple") := by
  rcases h with (h | ⟨o, h⟩) | ⟨o, its, n, h, c, _⟩
  · exact .base (.tup h)
  · exact .fTuple h
  · exact .kTuple h c
def spIsLink (K : PySem.W.Frag) : Sp := fun vs H Q _ => ∃ (l : Addr) (α : Arc), vs = [.ref l] ∧ SqT K H l (α.link.map kV) ∧ Formed α ∧ ∀ H', Ex H H' → Q (.bl true) H'
section
variable {P : Program} {w : World} {K : PySem.W.Frag} {mg : Str → Option Value} {base : Heap}
theorem ok_islink {f fI : Addr} {fd fdI : FuncData} (F : Fun K "is_link" "is_link" sIsLink f fd) (AI : Df K mg "is_integer" sInt ["value"] fI fdI) (mL : mg "len" = none) (mI : mg "isinstance" = none) (mT : mg "tuple" = none) (mS : mg "str" = none) (mN : mg "int" = none) (mB : mg "bool" = none) : FnOk P w K mg base CX0 2 f fd ["value"] (spIsLink K) := by
  have GI : FnOk P w K mg base CX0 1 fI fdI ["value"] spInt := ok_int AI.F mI mN mB
  refine F.ok scIsLink (fun vs H Q E h => ?_) (fun cdv A outer s H vs Q E hr h => ?_)
  · obtain ⟨l, α, rfl, _⟩ := h
    rfl
  · obtain ⟨l, α, rfl, hl, hf, q⟩ := h
    refine ⟨_, pss_cons (ps_if (pw_or (pt_not (pt_val (pe_callB call_isi (by rfl) mI (by decide +kernel) (pa_cons (pv 0) (pa_cons (pe_bltn (v := .ty "tuple") (by rfl) mT (by decide +kernel) rfl) pa_nil))))) (pw_or1 (pt_cmpR op_eq (pe_callB call_len_seq (by rfl) mL PySem.boot_len (pa_cons (pv 0) pa_nil)) pe_int (nomark _)))).pt (pss_one (ps_ret pe_bl)) pss_nil) <|
      pss_cons (ps_if (pt_cmpR op_eq (pe_ix ix_tup (pv 0) pe_int (fun _ _ => rfl)) pe_str (nomark _)) (pss_one (ps_ret (pe_and (pe_cmpR op_eq (pe_callB call_len_seq (by rfl) mL PySem.boot_len (pa_cons (pv 0) pa_nil)) pe_int (nomark _)) (pe_one (pe_callB call_isi (by rfl) mI (by decide +kernel) (pa_cons (pe_ix ix_tup (pv 0) pe_int (fun _ _ => rfl)) (pa_cons (pe_bltn (v := .ty "str") (by rfl) mS (by decide +kernel) rfl) pa_nil))))))) pss_nil) <|
      pss_cons (ps_if (pt_cmpR op_in_seq (pe_ix ix_tup (pv 0) pe_int (fun _ _ => rfl)) (pe_tup (pa_cons pe_str <| pa_cons pe_str pa_nil)) (by rfl)) (pss_one (ps_ret (pe_and (pe_cmpR op_eq (pe_callB call_len_seq (by rfl) mL PySem.boot_len (pa_cons (pv 0) pa_nil)) pe_int (nomark _)) (pe_and (pe_call GI hr (by rfl) AI.g AI.F.kp AI.b .nil pass0 (pa_cons (pe_ix ix_tup (pv 0) pe_int (fun _ _ => rfl)) pa_nil)) (pe_one (pe_call GI hr (by rfl) AI.g AI.F.kp AI.b .nil pass0 (pa_cons (pe_ix ix_tup (pv 0) pe_int (fun _ _ => rfl)) pa_nil))))))) pss_nil) <|
      pss_one (ps_ret pe_bl), ?_⟩
    have n1 : decide (V.str "slot" = V.str "root") = false := by decide +kernel
    have n2 : decide (V.str "entry" = V.str "root") = false := by decide +kernel
    refine seq_of (ifS_of (or_of (not_of (test_of (cb_of (c_of (v_of rfl (c_of (k_of (n_of ⟨.ref l, .ty "tuple", _, _, true, rfl, .ty "tuple", ty_tup hl, kit_ty (by decide +kernel), true, rfl, ?_⟩))))))))))
    rw [if_neg (show ¬ (!true) = true from Bool.false_ne_true)]
    refine test_of (op_of (cb_of (c_of (v_of rfl (n_of ⟨l, _, rfl, .inr hl, k_of ⟨rfl, _, rfl, ?_⟩⟩)))))
    rcases hf with ⟨r, e1, e2⟩ | ⟨n, k, e1, e2⟩ | ⟨n, k, e1, e2⟩
    · rw [e1] at hl ⊢
      rw [decide_eq_false (by simp), if_neg Bool.false_ne_true]
      dsimp only [tNext]
      refine seq_of (ifS_of (test_of (op_of (op_of (v_of rfl (k_of ⟨l, _, 0, _, rfl, rfl, hl, atI_nat (j := 0) rfl, k_of ⟨rfl, _, rfl, ?_⟩⟩))))))
      rw [show decide (kV (.inr "root") = V.str "root") = true from decide_eq_true rfl, if_pos rfl]
      refine ret_of (andv_of (op_of (cb_of (c_of (v_of rfl (n_of ⟨l, _, rfl, .inr hl, k_of ⟨rfl, _, rfl, ?_⟩⟩))))))
      rw [decide_eq_true (by rfl), if_pos rfl]
      exact cb_of (c_of (op_of (v_of rfl (k_of ⟨l, _, 1, _, rfl, rfl, hl, atI_nat (j := 1) rfl, c_of (k_of (n_of ⟨_, .ty "str", _, _, true, rfl, .ty "str", .base (.str _), kit_ty (by decide +kernel), q _ (Ex.refl _)⟩))⟩))))
    · rw [e1] at hl ⊢
      rw [decide_eq_false (by simp), if_neg Bool.false_ne_true]
      dsimp only [tNext]
      refine seq_of (ifS_of (test_of (op_of (op_of (v_of rfl (k_of ⟨l, _, 0, _, rfl, rfl, hl, atI_nat (j := 0) rfl, k_of ⟨rfl, _, rfl, ?_⟩⟩))))))
      rw [show decide (kV (.inr "slot") = V.str "root") = false from n1, if_neg Bool.false_ne_true]
      dsimp only [tNext]
      refine seq_of (ifS_of (test_of (op_of (op_of (v_of rfl (k_of ⟨l, _, 0, _, rfl, rfl, hl, atI_nat (j := 0) rfl, tup_of (c_of (k_of (c_of (k_of (n_of ⟨by show 2 ≤ sizeLine; decide, fun t ht => ⟨t, _, rfl, .inr (st_of upd_same), rfl, rfl, _, rfl, ?_⟩⟩)))))⟩))))))
      rw [show inV (kV (.inr "slot")) [V.str "slot", V.str "entry"] = true from by decide +kernel]
      rw [if_neg Bool.false_ne_true, if_pos rfl]
      have e5 : Ex H (upd H t (.tup [V.str "slot", V.str "entry"])) := Ex.new ht
      refine ret_of (andv_of (op_of (cb_of (c_of (v_of rfl (n_of ⟨l, _, rfl, .inr (ex_t e5 hl), k_of ⟨rfl, _, rfl, ?_⟩⟩))))))
      rw [decide_eq_true (by rfl), if_pos rfl]
      refine andv_of (call_of (c_of (op_of (v_of rfl (k_of ⟨l, _, 1, _, rfl, rfl, ex_t e5 hl, atI_nat (j := 1) rfl, n_of ⟨n, rfl, fun H1 e6 => ⟨true, rfl, ?_⟩⟩⟩)))))
      rw [if_pos rfl]
      exact call_of (c_of (op_of (v_of rfl (k_of ⟨l, _, 2, _, rfl, rfl, ex_t (e5.trans e6) hl, atI_nat (j := 2) rfl, n_of ⟨k, rfl, fun H2 e7 => q H2 ((e5.trans e6).trans e7)⟩⟩))))
    · rw [e1] at hl ⊢
      rw [decide_eq_false (by simp), if_neg Bool.false_ne_true]
      dsimp only [tNext]
      refine seq_of (ifS_of (test_of (op_of (op_of (v_of rfl (k_of ⟨l, _, 0, _, rfl, rfl, hl, atI_nat (j := 0) rfl, k_of ⟨rfl, _, rfl, ?_⟩⟩))))))
      rw [show decide (kV (.inr "entry") = V.str "root") = false from n2, if_neg Bool.false_ne_true]
      dsimp only [tNext]
      refine seq_of (ifS_of (test_of (op_of (op_of (v_of rfl (k_of ⟨l, _, 0, _, rfl, rfl, hl, atI_nat (j := 0) rfl, tup_of (c_of (k_of (c_of (k_of (n_of ⟨by show 2 ≤ sizeLine; decide, fun t ht => ⟨t, _, rfl, .inr (st_of upd_same), rfl, rfl, _, rfl, ?_⟩⟩)))))⟩))))))
      rw [show inV (kV (.inr "entry")) [V.str "slot", V.str "entry"] = true from by decide +kernel]
      rw [if_neg Bool.false_ne_true, if_pos rfl]
      have e5 : Ex H (upd H t (.tup [V.str "slot", V.str "entry"])) := Ex.new ht
      refine ret_of (andv_of (op_of (cb_of (c_of (v_of rfl (n_of ⟨l, _, rfl, .inr (ex_t e5 hl), k_of ⟨rfl, _, rfl, ?_⟩⟩))))))
      rw [decide_eq_true (by rfl), if_pos rfl]
      refine andv_of (call_of (c_of (op_of (v_of rfl (k_of ⟨l, _, 1, _, rfl, rfl, ex_t e5 hl, atI_nat (j := 1) rfl, n_of ⟨n, rfl, fun H1 e6 => ⟨true, rfl, ?_⟩⟩⟩)))))
      rw [if_pos rfl]
      exact call_of (c_of (op_of (v_of rfl (k_of ⟨l, _, 2, _, rfl, rfl, ex_t (e5.trans e6) hl, atI_nat (j := 2) rfl, n_of ⟨k, rfl, fun H2 e7 => q H2 ((e5.trans e6).trans e7)⟩⟩))))
end
end Sn
/-! Any value of data, as it lies in a heap off one address that changes: read, told by its type, shown, compared with () and with a text. -/
namespace Sn
open PySem PySem.Spec PyProof.Rows L2 Gd
/-- a tuple that is known -/
def SqP (K : PySem.W.Frag) (H : Hp) (a : Addr) (xs : List V) : Prop := H a = some (.tup xs)
theorem SqP.sq {K : PySem.W.Frag} {H : Hp} {a : Addr} {xs : List V} (h : SqP K H a xs) : SqT K H a xs := .inl (.inl h)
mutual
inductive Av (K : PySem.W.Frag) (d : Addr → Prop) (H : Hp) : V → PyData → Prop
  | non : Av K d H .non .none
  | bl (b : Bool) : Av K d H (.bl b) (.bool b)
  | int (i : Int) : Av K d H (.int i) (.int i)
  | str (x : Str) : Av K d H (.str x) (.str x)
  | lst {a : Addr} {xs : List V} {ds : List PyData} : a ≠ sysModules → ¬ d a → H a = some (.lst xs) → AvAll K d H xs ds → Av K d H (.ref a) (.list ds)
  | tup {a : Addr} {xs : List V} {ds : List PyData} : ¬ d a → SqP K H a xs → AvAll K d H xs ds → Av K d H (.ref a) (.tuple ds)
  | dnil {a : Addr} : ¬ d a → H a = some (.dK []) → Av K d H (.ref a) (.dict [])
  | done {a : Addr} {k : Str} {x : V} {e : PyData} : ¬ d a → H a = some (.dK [(.inr k, x)]) → Av K d H x e → Av K d H (.ref a) (.dict [(.str k, e)])
inductive AvAll (K : PySem.W.Frag) (d : Addr → Prop) (H : Hp) : List V → List PyData → Prop
  | nil : AvAll K d H [] []
  | cons {v : V} {vs : List V} {e : PyData} {es : List PyData} : Av K d H v e → AvAll K d H vs es → AvAll K d H (v :: vs) (e :: es)
end
/-- what H' keeps but for d -/
def Byd (d : Addr → Prop) (H H' : Hp) : Prop := ∀ a o, ¬ d a → H a = some o → H' a = some o
theorem sqT_byd {K : PySem.W.Frag} {d : Addr → Prop} {a : Addr} {H H' : Hp} {xs : List V} (e : Byd d H H') (n : ¬ d a) (h : SqT K H a xs) : SqT K H' a xs := by
  rcases h with (h | ⟨o, h⟩) | h
  · exact .inl (.inl (e _ _ n h))
  · exact .inl (.inr ⟨o, e _ _ n h⟩)
  · exact .inr h
mutual
theorem Av.keep {K : PySem.W.Frag} {d : Addr → Prop} {H H' : Hp} (e : Byd d H H') : ∀ {v : V} {x : PyData}, Av K d H v x → Av K d H' v x
  | _, _, .non => .non
  | _, _, .bl b => .bl b
  | _, _, .int i => .int i
  | _, _, .str x => .str x
  | _, _, .lst n q h r => .lst n q (e _ _ q h) (AvAll.keep e r)
  | _, _, .tup q h r => .tup q (e _ _ q h) (AvAll.keep e r)
  | _, _, .dnil q h => .dnil q (e _ _ q h)
  | _, _, .done q h r => .done q (e _ _ q h) (Av.keep e r)
theorem AvAll.keep {K : PySem.W.Frag} {d : Addr → Prop} {H H' : Hp} (e : Byd d H H') : ∀ {vs : List V} {xs : List PyData}, AvAll K d H vs xs → AvAll K d H' vs xs
  | _, _, .nil => .nil
  | _, _, .cons a b => .cons (Av.keep e a) (AvAll.keep e b)
end
theorem AvAll.len {K : PySem.W.Frag} {d : Addr → Prop} {H : Hp} : ∀ {vs : List V} {xs : List PyData}, AvAll K d H vs xs → vs.length = xs.length
  | _, _, .nil => rfl
  | _, _, .cons _ b => by rw [List.length_cons, List.length_cons, AvAll.len b]
theorem AvAll.app {K : PySem.W.Frag} {d : Addr → Prop} {H : Hp} {us : List V} {ys : List PyData} (h : AvAll K d H us ys) : ∀ {vs : List V} {xs : List PyData}, AvAll K d H vs xs → AvAll K d H (vs ++ us) (xs ++ ys)
  | _, _, .nil => h
  | _, _, .cons a b => .cons a (AvAll.app h b)
theorem AvAll.get {K : PySem.W.Frag} {d : Addr → Prop} {H : Hp} : ∀ {vs : List V} {xs : List PyData} {i : Nat} {v : V}, AvAll K d H vs xs → vs[i]? = some v → ∃ x, xs[i]? = some x ∧ Av K d H v x
  | _, _, _, _, .nil, h => by simp at h
  | _, _, 0, _, .cons a _, h => by
    cases h
    exact ⟨_, rfl, a⟩
  | _, _, i + 1, _, .cons _ b, h => by
    obtain ⟨x, e, q⟩ := AvAll.get b (show _ = some _ from h)
    exact ⟨x, e, q⟩
theorem AvAll.get' {K : PySem.W.Frag} {d : Addr → Prop} {H : Hp} : ∀ {vs : List V} {xs : List PyData} {i : Nat} {x : PyData}, AvAll K d H vs xs → xs[i]? = some x → ∃ v, vs[i]? = some v ∧ Av K d H v x
  | _, _, _, _, .nil, h => by simp at h
  | _, _, 0, _, .cons a _, h => by
    cases h
    exact ⟨_, rfl, a⟩
  | _, _, i + 1, _, .cons _ b, h => by
    obtain ⟨x, e, q⟩ := AvAll.get' b (show _ = some _ from h)
    exact ⟨x, e, q⟩
theorem AvAll.drop {K : PySem.W.Frag} {d : Addr → Prop} {H : Hp} : ∀ {vs : List V} {xs : List PyData} (n : Nat), AvAll K d H vs xs → AvAll K d H (vs.drop n) (xs.drop n)
  | _, _, 0, h => h
  | _, _, _ + 1, .nil => .nil
  | _, _, n + 1, .cons _ b => AvAll.drop n b
theorem AvAll.take {K : PySem.W.Frag} {d : Addr → Prop} {H : Hp} : ∀ {vs : List V} {xs : List PyData} (n : Nat), AvAll K d H vs xs → AvAll K d H (vs.take n) (xs.take n)
  | _, _, 0, _ => .nil
  | _, _, _ + 1, .nil => .nil
  | _, _, n + 1, .cons a b => .cons a (AvAll.take n b)
theorem AvAll.rev {K : PySem.W.Frag} {d : Addr → Prop} {H : Hp} : ∀ {vs : List V} {xs : List PyData}, AvAll K d H vs xs → AvAll K d H vs.reverse xs.reverse
  | _, _, .nil => .nil
  | _, _, .cons a b => by
    rw [List.reverse_cons, List.reverse_cons]
    exact AvAll.app (.cons a .nil) (AvAll.rev b)
section
variable {d : Addr → Prop} {X : Cx} {pins : List (Addr × Obj)} {σ : L2.St} {H : Hp} {s : Shared}
mutual
theorem Av.reads (I : Inv X pins σ H s) : ∀ {v : V} {x : PyData} {u : Value}, Av X.K d H v x → RelV v u → ∃ as, Reads s.heap u x as ∧ sysModules ∉ as
  | _, _, _, .non, r => by
    cases (show _ = Value.none from r)
    exact ⟨_, .none, by simp⟩
  | _, _, _, .bl b, r => by
    cases (show _ = Value.bool b from r)
    exact ⟨_, .bool b, by simp⟩
  | _, _, _, .int i, r => by
    obtain ⟨t, rfl⟩ := (show ∃ t, _ = Value.int i t from r)
    exact ⟨_, .int i t, by simp⟩
  | _, _, _, .str x, r => by
    obtain ⟨t, rfl⟩ := (show ∃ t, _ = Value.str x t from r)
    exact ⟨_, .str x t, by simp⟩
  | _, _, _, @Av.lst _ _ _ a _ _ n _ h m, r => by
    cases (show _ = Value.ref a from r)
    obtain ⟨its, rv, ⟨o, k, ho, hc, _, hd⟩, _⟩ := I.list (.inl (.inl h))
    obtain ⟨as, hr, q⟩ := AvAll.reads I m rv
    refine ⟨_, .list ho hc hd hr, fun z => ?_⟩
    rcases List.mem_cons.mp z with z | z
    · exact n z.symm
    · exact q z
  | _, _, _, @Av.tup _ _ _ a _ _ _ h m, r => by
    cases (show _ = Value.ref a from r)
    obtain ⟨its, rv, ⟨o, ho, hc, k, hd⟩, _⟩ := I.tuple h.sq
    obtain ⟨as, hr, q⟩ := AvAll.reads I m rv
    exact ⟨_, .tuple ho hc hd hr, q⟩
  | _, _, _, @Av.dnil _ _ _ a _ h, r => by
    cases (show _ = Value.ref a from r)
    obtain ⟨_, ns, vs, kv, o, es, ep, ho, hx, hd, _, hp, _⟩ := dk_of I.hok h
    cases kv
    generalize hl : es.toList = l at hp
    cases hp
    refine ⟨_, .dict ho hx.1 hd (kvs := []) (by rw [hl]; exact .nil) (by rw [hl]; exact .nil), fun z => ?_⟩
    have z' : sysModules = a := by simpa using z
    rw [z'] at ns
    simp at ns
  | _, _, _, @Av.done _ _ _ a k x e _ h m, r => by
    cases (show _ = Value.ref a from r)
    obtain ⟨_, ns, vs, kv, o, es, ep, ho, hx, hd, _, hp, _⟩ := dk_of I.hok h
    cases kv with
    | @cons _ q _ _ q1 q2 =>
      cases q2
      generalize hl : es.toList = l at hp
      cases hp with
      | @cons e' _ _ _ h1 h2 h3 =>
        cases h3
        obtain ⟨e1, e2⟩ := q1
        have hk : ∃ t, e'.key = Value.str k t := by
          rw [← e1] at h1
          rcases keyIs_shape (show keyIs (.inr k) e'.key = true from h1) with ⟨i, t, z, _⟩ | ⟨y, t, z, w⟩
          · cases z
          · cases z
            exact ⟨t, w⟩
        obtain ⟨t, hk⟩ := hk
        obtain ⟨as, hr, n⟩ := Av.reads I m (show RelV x e'.val by rw [h2]; exact e2)
        refine ⟨_, .dict ho hx.1 hd (kvs := [(.str k, e)]) (by rw [hl]; show ReadsAll _ [e'.key] _ _; rw [hk]; exact .cons (.str k t) .nil) (by rw [hl]; exact .cons hr .nil), fun z => ?_⟩
        have z' : sysModules = a ∨ sysModules ∈ as := by simpa using z
        rcases z' with z' | z'
        · rw [z'] at ns
          simp at ns
        · exact n z'
theorem AvAll.reads (I : Inv X pins σ H s) : ∀ {vs : List V} {es : List PyData} {us : List Value}, AvAll X.K d H vs es → Vals vs us → ∃ as, ReadsAll s.heap us es as ∧ sysModules ∉ as
  | _, _, _, .nil, r => by
    cases r
    exact ⟨_, .nil, by simp⟩
  | _, _, _, .cons a b, r => by
    cases r with
    | cons r1 r2 =>
      obtain ⟨as, q1, n1⟩ := Av.reads I a r1
      obtain ⟨bs, q2, n2⟩ := AvAll.reads I b r2
      exact ⟨_, .cons q1 q2, fun z => (List.mem_append.mp z).elim n1 n2⟩
end
end
/-! ### its type -/
def tyName : PyData → String
  | .none => "NoneType"
  | .bool _ => "bool"
  | .int _ => "int"
  | .str _ => "str"
  | .list _ => "list"
  | .tuple _ => "tuple"
  | .dict _ => "dict"
theorem ty_av {K : PySem.W.Frag} {d : Addr → Prop} {H : Hp} {x : V} {e : PyData} (h : Av K d H x e) : TyX K H x (.type (tyName e)) := by
  cases h with
  | non => exact .base .non
  | bl b => exact .base (.bl b)
  | int i => exact .base (.int i)
  | str x => exact .base (.str x)
  | lst _ _ e _ => exact .base (.lst e)
  | tup _ e _ => exact .base (.tup e)
  | dnil _ e => exact .base (.dK e)
  | done _ e _ => exact .base (.dK e)
def isTup : PyData → Bool
  | .tuple _ => true
  | _ => false
def isStr : PyData → Bool
  | .str _ => true
  | _ => false
def isBool : PyData → Bool
  | .bool _ => true
  | _ => false
def isInt : PyData → Bool
  | .bool _ | .int _ => true
  | _ => false
theorem kit_tup (e : PyData) : kitB (tyName e) "tuple" = some (isTup e) := by cases e <;> (first | exact (by decide +kernel : kitB "NoneType" "tuple" = some false) | exact (by decide +kernel : kitB "bool" "tuple" = some false) | exact (by decide +kernel : kitB "int" "tuple" = some false) | exact (by decide +kernel : kitB "str" "tuple" = some false) | exact (by decide +kernel : kitB "list" "tuple" = some false) | exact (by decide +kernel : kitB "tuple" "tuple" = some true) | exact (by decide +kernel : kitB "dict" "tuple" = some false))
theorem kit_str (e : PyData) : kitB (tyName e) "str" = some (isStr e) := by cases e <;> (first | exact (by decide +kernel : kitB "NoneType" "str" = some false) | exact (by decide +kernel : kitB "bool" "str" = some false) | exact (by decide +kernel : kitB "int" "str" = some false) | exact (by decide +kernel : kitB "str" "str" = some true) | exact (by decide +kernel : kitB "list" "str" = some false) | exact (by decide +kernel : kitB "tuple" "str" = some false) | exact (by decide +kernel : kitB "dict" "str" = some false))
theorem kit_bool (e : PyData) : kitB (tyName e) "bool" = some (isBool e) := by cases e <;> (first | exact (by decide +kernel : kitB "NoneType" "bool" = some false) | exact (by decide +kernel : kitB "bool" "bool" = some true) | exact (by decide +kernel : kitB "int" "bool" = some false) | exact (by decide +kernel : kitB "str" "bool" = some false) | exact (by decide +kernel : kitB "list" "bool" = some false) | exact (by decide +kernel : kitB "tuple" "bool" = some false) | exact (by decide +kernel : kitB "dict" "bool" = some false))
theorem kit_int (e : PyData) : kitB (tyName e) "int" = some (isInt e) := by cases e <;> (first | exact (by decide +kernel : kitB "NoneType" "int" = some false) | exact (by decide +kernel : kitB "bool" "int" = some true) | exact (by decide +kernel : kitB "int" "int" = some true) | exact (by decide +kernel : kitB "str" "int" = some false) | exact (by decide +kernel : kitB "list" "int" = some false) | exact (by decide +kernel : kitB "tuple" "int" = some false) | exact (by decide +kernel : kitB "dict" "int" = some false))
section
variable {X : Cx}
/-! ### shown -/
def rReprA (K : PySem.W.Frag) : List V → Hp → VK → Prop := fun xs H Q => ∃ d x e, xs = [x] ∧ Av K d H x e ∧ e.showable = true ∧ e.depth ≤ 40 ∧ e.shown.length ≤ sizeLine ∧ Q (.str e.shown) H
theorem call_reprA (gd : X.A.guards = some []) (un : X.A.units + 64 < cLine) : CallR X (.builtin "repr") (rReprA X.K) := by
  rintro pins s σ H xs us Q I rel ⟨d, x, e, rfl, hd, sh, dep, sz, q⟩
  obtain ⟨u, rfl, rv⟩ := vals1 rel
  obtain ⟨as, reads, nsys⟩ := Av.reads I hd rv
  have big : ∀ {a : Addr}, u = .ref a → wpAny (model X.prog X.w) X.A (call (.builtin "repr") [u]) (EP X pins σ Q) X.xe s := fun e => by
    subst e
    exact repr_of_reads' reads sh (fun _ => nsys) gd (by omega) (fun _ _ e => e) (fun h2 u2 tk keep => ⟨.str _, H, I.kept keep, ⟨u2, rfl⟩, q⟩) sz
  cases hd with
  | non =>
    cases rv
    exact PySem.P.repr_of_none ⟨.str "None", H, I.tok _, ⟨_, rfl⟩, q⟩
  | bl b =>
    cases rv
    exact PySem.P.repr_of_bool ⟨.str (if b then "True" else "False"), H, I.tok _, ⟨_, rfl⟩, q⟩
  | int i =>
    obtain ⟨t, rfl⟩ := rv
    refine PySem.P.repr_of_int ?_ ⟨.str _, H, I.tok _, ⟨_, rfl⟩, q⟩
    simpa [PyData.showable] using sh
  | str z =>
    obtain ⟨t, rfl⟩ := rv
    exact PySem.P.repr_of_str ⟨.str _, H, I.tok _, ⟨_, rfl⟩, q⟩ sz
  | lst _ _ _ _ => exact big rv
  | tup _ _ _ => exact big rv
  | dnil _ _ => exact big rv
  | done _ _ _ => exact big rv
/-! ### compared with () -/
def rEqT0 (K : PySem.W.Frag) : R2 := fun x y H Q => ∃ a b xs, x = .ref a ∧ y = .ref b ∧ SqT K H a xs ∧ SqT K H b [] ∧ Q (.bl (decide (xs = []))) H
theorem rc_tup0 {A : Around} {s : Shared} {a b : Addr} {us : List Value} (hu : A.units < cLine) (h : s.heap.IsTuple a us.toArray) (g : s.heap.IsTuple b #[]) : SeqAt.RcAt A s (.ref a) (.ref b) (decide (us = [])) := by
  have e := SeqAt.RcAt.tuples (e := fun _ => true) h g hu fun j _ h2 => absurd h2 (Nat.not_lt_zero _)
  have z : ((List.range (min us.toArray.size (#[] : Array Value).size)).all (fun _ => true) && us.toArray.size == (#[] : Array Value).size) = decide (us = []) := by
    cases us <;> simp
  rw [z] at e
  exact e
theorem op_eqT0 (hu : X.A.units < cLine) : OpR X (compareOp .Eq) (rEqT0 X.K) := by
  intro pins s σ H x y v u Q I rx ry h
  obtain ⟨a, b, xs, rfl, rfl, ha, hb, q⟩ := h
  cases (show v = Value.ref a from rx)
  cases (show u = Value.ref b from ry)
  obtain ⟨us, r1, h1, _⟩ := I.tuple ha
  obtain ⟨ws, r2, h2, _⟩ := I.tuple hb
  cases r2
  refine rc_tup0 hu h1 h2 X.prog X.w _ _ ⟨.bl _, H, I, rfl, ?_⟩
  have : (us = []) = (xs = []) := by
    have := r1.length
    apply propext
    constructor
    · intro z
      rw [z] at this
      exact List.eq_nil_of_length_eq_zero this
    · intro z
      rw [z] at this
      exact List.eq_nil_of_length_eq_zero this.symm
  simp only [this]
  exact q
end
/-! ### compared with a text -/
theorem dict_eq_no_str (l : Addr) (o : Obj) (c : o.cls = .type "dict") (b : Str) (u : Tok) :
    Meets (Builtin.«dict.__eq__» ⟨[.ref l, .str b u], []⟩) (fun _ R s => s.heap.get? l = some o ∧ R (.ok (.ret .notImplemented)) s) :=
  .of_wp fun prog w A R s h => by obtain ⟨hp, g, d, tk, os⟩ := s; obtain ⟨hl, h⟩ := h; have f1 := PySem.F.sub_str_dict; wp_walk using wpAny_loadPart' hl, wpAny_load hl; exact ⟨_, rfl, h⟩
def eqTx (e : PyData) (c : Str) : Bool := match e with
  | .str x => x == c
  | _ => false
theorem eqTx_iff {e : PyData} {c : Str} : eqTx e c = true ↔ e = .str c := by
  cases e <;> simp [eqTx]
theorem str_eq_no_dict (b : Str) (u : Tok) (l : Addr) (o : Obj) (c : o.cls = .type "dict") (es : Array DictEntry) (ep : Nat) (hd : o.data = .dict es ep) :
    Meets (Builtin.«str.__eq__» ⟨[.str b u, .ref l], []⟩) (fun _ R s => s.heap.get? l = some o ∧ R (.ok (.ret .notImplemented)) s) := by
  obtain ⟨cls, dd, dt, sl⟩ := o
  simp only at c hd
  subst c hd
  exact .of_wp fun prog w A R s h => by obtain ⟨hp, g, d, tk, os⟩ := s; obtain ⟨hl, h⟩ := h; have f1 := PySem.F.sub_dict_str; wp_walk using wpAny_loadPart' hl, wpAny_load hl; exact ⟨_, rfl, h⟩
section
variable {A : Around} {s : Shared}
theorem rc_dict_str {l : Addr} {o : Obj} (b : Str) (u : Tok) (ho : s.heap.get? l = some o) (hc : o.cls = .type "dict") (es : Array DictEntry) (ep : Nat) (hd : o.data = .dict es ep) (hu : A.units < cLine) : SeqAt.RcAt A s (.ref l) (.str b u) false := fun prog w E Q h => by
  exact SeqAt.rc_eq_decline_or (k := false) ⟨_, ho, hc⟩ (typeIs_str s b u) (by decide) PySem.F.sub_str_dict PySem.F.slot_dict_eq PySem.F.slot_str_eq_refl
    (fun _ hq => call_meets PySem.F.slot_dict_eq ⟨_, ho, hc⟩ PySem.F.entry_dict_eq (PySem.F.args_dict_eq_2 _ _) (dict_eq_no_str l o hc b u) ⟨ho, hq⟩)
    (fun _ hq => call_meets PySem.F.slot_str_eq_refl (typeIs_str s b u) PySem.F.entry_str_eq (PySem.F.args_str_eq_2 _ _) (str_eq_no_dict b u l o hc es ep hd) ⟨ho, hq⟩)
    (fun _ hq => wpAny_of_eq (rfl : isSame (.ref l) (.str b u) = pure false) hq) (.inr hu) h
theorem rc_str_dict {l : Addr} {o : Obj} (b : Str) (u : Tok) (ho : s.heap.get? l = some o) (hc : o.cls = .type "dict") (es : Array DictEntry) (ep : Nat) (hd : o.data = .dict es ep) (hu : A.units < cLine) : SeqAt.RcAt A s (.str b u) (.ref l) false := fun prog w E Q h => by
  exact SeqAt.rc_eq_decline_or (k := false) (typeIs_str s b u) ⟨_, ho, hc⟩ (by decide) PySem.F.sub_dict_str PySem.F.slot_str_eq PySem.F.slot_dict_eq_refl
    (fun _ hq => call_meets PySem.F.slot_str_eq (typeIs_str s b u) PySem.F.entry_str_eq (PySem.F.args_str_eq_2 _ _) (str_eq_no_dict b u l o hc es ep hd) ⟨ho, hq⟩)
    (fun _ hq => call_meets PySem.F.slot_dict_eq_refl ⟨_, ho, hc⟩ PySem.F.entry_dict_eq (PySem.F.args_dict_eq_2 _ _) (dict_eq_no_str l o hc b u) ⟨ho, hq⟩)
    (fun _ hq => wpAny_of_eq (rfl : isSame (.str b u) (.ref l) = pure false) hq) (.inr hu) h
theorem eqAt_str_dict {l : Addr} {o : Obj} (b : Str) (u : Tok) (ho : s.heap.get? l = some o) (hc : o.cls = .type "dict") (es : Array DictEntry) (ep : Nat) (hd : o.data = .dict es ep) (hu : A.units < cLine) : SeqAt.EqAt A s (.str b u) (.ref l) false := fun prog w E Q h => by
  unfold eqBool
  refine wpAny_holding ?_
  refine wpAny_ite_split (fun hab => absurd (eq_of_beq hab) nofun) (fun _ => ?_)
  exact wpAny_bind (rc_str_dict b u ho hc es ep hd hu prog w E _ (wpAny_truthy_bool h))
end
section
variable {d : Addr → Prop} {X : Cx} {pins : List (Addr × Obj)} {σ : L2.St} {H : Hp} {s : Shared}
theorem Av.dict_at (I : Inv X pins σ H s) {a : Addr} {kvs : List (PyData × PyData)} (h : Av X.K d H (.ref a) (.dict kvs)) : ∃ o es ep, s.heap.get? a = some o ∧ o.cls = .type "dict" ∧ o.data = .dict es ep := by
  cases h with
  | dnil _ h =>
    obtain ⟨_, ns, vs, kv, o, es, ep, ho, hx, hd, _⟩ := dk_of I.hok h
    exact ⟨o, es, ep, ho, hx.1, hd⟩
  | done _ h _ =>
    obtain ⟨_, ns, vs, kv, o, es, ep, ho, hx, hd, _⟩ := dk_of I.hok h
    exact ⟨o, es, ep, ho, hx.1, hd⟩
theorem Av.rc_str (I : Inv X pins σ H s) (hu : X.A.units < cLine) {x : V} {e : PyData} {v : Value} (h : Av X.K d H x e) (r : RelV x v) (c : Str) (t : Tok) : SeqAt.RcAt X.A s v (.str c t) (eqTx e c) := by
  cases h with
  | non =>
    cases (show v = Value.none from r)
    exact SeqAt.RcAt.none_str c t
  | bl b =>
    cases (show v = Value.bool b from r)
    exact SeqAt.RcAt.bool_str b c t
  | int i =>
    obtain ⟨u, rfl⟩ := (show ∃ u, v = Value.int i u from r)
    exact SeqAt.RcAt.int_str i u c t
  | str x =>
    obtain ⟨u, rfl⟩ := (show ∃ u, v = Value.str x u from r)
    exact SeqAt.RcAt.str_str x u c t
  | @lst a xs ds n1 n2 ha hd =>
    cases (show v = Value.ref a from r)
    obtain ⟨its, rv, pl, _⟩ := I.list (.inl (.inl ha))
    exact SeqAt.RcAt.list_str c t pl.isList hu
  | @tup a xs ds n1 ha hd =>
    cases (show v = Value.ref a from r)
    obtain ⟨its, rv, pl, _⟩ := I.tuple ha.sq
    exact SeqAt.RcAt.tuple_str c t pl hu
  | @dnil a n1 ha =>
    cases (show v = Value.ref a from r)
    obtain ⟨o, es, ep, ho, hc, hdt⟩ := Av.dict_at (d := d) I (Av.dnil n1 ha)
    exact rc_dict_str c t ho hc es ep hdt hu
  | @done a k y e' n1 ha hd =>
    cases (show v = Value.ref a from r)
    obtain ⟨o, es, ep, ho, hc, hdt⟩ := Av.dict_at (d := d) I (Av.done n1 ha hd)
    exact rc_dict_str c t ho hc es ep hdt hu
theorem Av.eqAt_str (I : Inv X pins σ H s) (hu : X.A.units < cLine) {A : Around} (hA : A.units < cLine) {x : V} {e : PyData} {v : Value} (h : Av X.K d H x e) (r : RelV x v) (c : Str) (t : Tok) : SeqAt.EqAt A s (.str c t) v (eqTx e c) := by
  cases h with
  | non =>
    cases (show v = Value.none from r)
    exact SeqAt.EqAt.str_none c t
  | bl b =>
    cases (show v = Value.bool b from r)
    exact SeqAt.EqAt.str_bool c t b
  | int i =>
    obtain ⟨u, rfl⟩ := (show ∃ u, v = Value.int i u from r)
    exact SeqAt.EqAt.str_int c t i u
  | str x =>
    obtain ⟨u, rfl⟩ := (show ∃ u, v = Value.str x u from r)
    rw [show eqTx (.str x) c = (c == x) from by rw [eqTx]; exact Bool.beq_comm]
    exact SeqAt.EqAt.str_str c t x u
  | @lst a xs ds n1 n2 ha hd =>
    cases (show v = Value.ref a from r)
    obtain ⟨its, rv, pl, _⟩ := I.list (.inl (.inl ha))
    exact SeqAt.EqAt.str_list c t pl.isList hA
  | @tup a xs ds n1 ha hd =>
    cases (show v = Value.ref a from r)
    obtain ⟨its, rv, pl, _⟩ := I.tuple ha.sq
    exact SeqAt.EqAt.str_tuple c t pl hA
  | @dnil a n1 ha =>
    cases (show v = Value.ref a from r)
    obtain ⟨o, es, ep, ho, hc, hdt⟩ := Av.dict_at (d := d) I (Av.dnil n1 ha)
    exact eqAt_str_dict c t ho hc es ep hdt hA
  | @done a k y e' n1 ha hd =>
    cases (show v = Value.ref a from r)
    obtain ⟨o, es, ep, ho, hc, hdt⟩ := Av.dict_at (d := d) I (Av.done n1 ha hd)
    exact eqAt_str_dict c t ho hc es ep hdt hA
end
section
variable {X : Cx}
/-- any value == a text -/
def rEqTx (K : PySem.W.Frag) : R2 := fun x y H Q => ∃ d e c, Av K d H x e ∧ y = .str c ∧ Q (.bl (eqTx e c)) H
theorem op_eqTx (hu : X.A.units < cLine) : OpR X (compareOp .Eq) (rEqTx X.K) := by
  intro pins s σ H x y v u Q I rx ry h
  obtain ⟨d, e, c, ha, rfl, q⟩ := h
  obtain ⟨t, rfl⟩ := (show ∃ t, u = Value.str c t from ry)
  exact Av.rc_str I hu ha rx c t X.prog X.w _ _ ⟨.bl _, H, I, rfl, q⟩
/-- any value in (texts) -/
def rInTx (K : PySem.W.Frag) : R2 := fun x y H Q => ∃ (d : Addr → Prop) (e : PyData) (p : Addr) (cs : List Str), Av K d H x e ∧ y = .ref p ∧ SqT K H p (cs.map V.str) ∧ Q (.bl (cs.any (eqTx e))) H
def txU (e : PyData) (u : Value) : Bool := match u with
  | .str z _ => eqTx e z
  | _ => false
theorem any_txU {e : PyData} : ∀ {cs : List Str} {us : List Value}, Vals (cs.map V.str) us → us.any (txU e) = cs.any (eqTx e)
  | [], _, .nil => rfl
  | c :: cs, _, .cons r t => by
    obtain ⟨k, rfl⟩ := (show ∃ k, _ = Value.str c k from r)
    rw [List.any_cons, List.any_cons, any_txU t]
    rfl
theorem mem_txU : ∀ {cs : List Str} {us : List Value}, Vals (cs.map V.str) us → ∀ u ∈ us, ∃ c t, u = Value.str c t
  | [], _, .nil, u, h => absurd h List.not_mem_nil
  | c :: cs, _, .cons r t, u, h => by
    obtain ⟨k, rfl⟩ := (show ∃ k, _ = Value.str c k from r)
    rcases List.mem_cons.mp h with rfl | h
    · exact ⟨_, _, rfl⟩
    · exact mem_txU t u h
theorem op_inTx (hu : X.A.units + 64 < cLine) : OpR X (compareOp .In) (rInTx X.K) := by
  intro pins s σ H x y v u Q I rx ry h
  obtain ⟨d, e, p, cs, ha, rfl, hq, q⟩ := h
  cases (show u = Value.ref p from ry)
  obtain ⟨its, r, pl, hz⟩ := I.tuple hq
  refine SeqAt.in_tupleAt (txU e) pl (fun w hw => ?_) ⟨.bl _, H, I, rfl, ?_⟩
  · obtain ⟨c, t, rfl⟩ := mem_txU r w (by simpa using hw)
    exact Av.eqAt_str I (by omega) (A := X.A.in1) (show X.A.units + 1 < cLine by omega) ha rx c t
  · rw [show its.toArray.any (txU e) = its.any (txU e) by simp, any_txU r]
    exact q
end
end Sn
/-! is_integer, is_link, is_pair of any value -/
namespace Sn
open PySem PySem.Spec PyProof.Rows L2 Evl Gd
theorem byd_ex {d : Addr → Prop} {H H' : Hp} (e : Ex H H') : Byd d H H' := fun a o _ h => e a o h
theorem Av.ex {K : PySem.W.Frag} {d : Addr → Prop} {H H' : Hp} {x : V} {y : PyData} (h : Av K d H x y) (e : Ex H H') : Av K d H' x y := Av.keep (byd_ex e) h
theorem AvAll.ex {K : PySem.W.Frag} {d : Addr → Prop} {H H' : Hp} {x : List V} {y : List PyData} (h : AvAll K d H x y) (e : Ex H H') : AvAll K d H' x y := AvAll.keep (byd_ex e) h
/-- an int that is no bool -/
def intQ : PyData → Bool
  | .int _ => true
  | _ => false
def linkQ : PyData → Bool
  | .tuple [.str a, b] => (a == ("root" : Str)) && isStr b
  | .tuple [.str a, b, c] => (a == ("slot" : Str) || a == ("entry" : Str)) && (intQ b && intQ c)
  | _ => false
def pairQ : PyData → Bool
  | .tuple [a, b] => intQ a && linkQ b
  | _ => false
def spIntA (K : PySem.W.Frag) : Sp := fun vs H Q _ => ∃ (d : Addr → Prop) (x : V) (e : PyData), vs = [x] ∧ Av K d H x e ∧ ∀ H', Ex H H' → Q (.bl (intQ e)) H'
def spLinkA (K : PySem.W.Frag) : Sp := fun vs H Q _ => ∃ (d : Addr → Prop) (x : V) (e : PyData), vs = [x] ∧ Av K d H x e ∧ ∀ H', Ex H H' → Q (.bl (linkQ e)) H'
theorem intQ_is (e : PyData) : intQ e = (isInt e && !isBool e) := by cases e <;> rfl
theorem sd_root : (("slot" : Str) == ("root" : Str)) = false ∧ (("entry" : Str) == ("root" : Str)) = false := by decide +kernel
def str1 : List PyData → Bool
  | [b] => isStr b
  | _ => false
def ints2 : List PyData → Bool
  | [b, c] => intQ b && intQ c
  | _ => false
theorem ints2_no {es : List PyData} (h : es.length ≠ 2) : ints2 es = false := by
  match es with
  | [] => rfl
  | [_] => rfl
  | [_, _] => exact absurd rfl h
  | _ :: _ :: _ :: _ => rfl
/-- a link by its first item -/
theorem linkQ_root {ds : List PyData} : linkQ (.tuple (.str "root" :: ds)) = (decide (ds.length = 1) && str1 ds) := by
  have n1 : (("root" : Str) == ("slot" : Str)) = false := by decide +kernel
  have n2 : (("root" : Str) == ("entry" : Str)) = false := by decide +kernel
  match ds with
  | [] => rfl
  | [b] => simp [linkQ, str1]
  | [b, c] => simp only [linkQ, n1, n2, Bool.or_false, Bool.false_and]; rfl
  | _ :: _ :: _ :: _ => simp [linkQ]
theorem linkQ_other {e : PyData} {ds : List PyData} (h : eqTx e "root" = false) : linkQ (.tuple (e :: ds)) = ((eqTx e "slot" || (eqTx e "entry" || false)) && ints2 ds) := by
  cases e with
  | str a =>
    have h : (a == ("root" : Str)) = false := h
    match ds with
    | [] => simp [linkQ, ints2]
    | [b] => simp [linkQ, h, ints2]
    | [b, c] => simp [linkQ, eqTx, ints2]
    | _ :: _ :: _ :: _ => simp [linkQ, ints2]
  | _ => simp [linkQ, eqTx]
theorem linkQ_is {e : PyData} (h : linkQ e = true) : ∃ ks : List Key, e = .tuple (ks.map kD) ∧ ((∃ z, ks = [.inr "root", .inr z]) ∨ (∃ n k, ks = [.inr "slot", .inl n, .inl k]) ∨ ∃ n k, ks = [.inr "entry", .inl n, .inl k]) := by
  unfold linkQ at h
  split at h
  · rename_i a b
    rw [Bool.and_eq_true] at h
    obtain ⟨h1, h2⟩ := h
    have ea : a = ("root" : Str) := by simpa using h1
    cases b with
    | str z => exact ⟨[.inr "root", .inr z], by rw [ea]; rfl, .inl ⟨z, rfl⟩⟩
    | _ => cases h2
  · rename_i a b c
    rw [Bool.and_eq_true, Bool.and_eq_true, Bool.or_eq_true] at h
    obtain ⟨h1, h2, h3⟩ := h
    cases b with
    | int n =>
      cases c with
      | int k =>
        rcases h1 with h1 | h1
        · have ea : a = ("slot" : Str) := by simpa using h1
          exact ⟨[.inr "slot", .inl n, .inl k], by rw [ea]; rfl, .inr (.inl ⟨n, k, rfl⟩)⟩
        · have ea : a = ("entry" : Str) := by simpa using h1
          exact ⟨[.inr "entry", .inl n, .inl k], by rw [ea]; rfl, .inr (.inr ⟨n, k, rfl⟩)⟩
      | _ => cases h3
    | _ => cases h2
  · cases h
theorem pairQ_is {e : PyData} (h : pairQ e = true) : ∃ (n : Int) (ks : List Key), e = .tuple [.int n, .tuple (ks.map kD)] ∧ linkQ (.tuple (ks.map kD)) = true := by
  unfold pairQ at h
  split at h
  · rename_i a b
    rw [Bool.and_eq_true] at h
    cases a with
    | int n =>
      obtain ⟨ks, e, _⟩ := linkQ_is h.2
      exact ⟨n, ks, by rw [e], by rw [← e]; exact h.2⟩
    | _ => cases h.1
  · cases h
theorem linkQ_no {e : PyData} (h : isTup e = false) : linkQ e = false := by cases e <;> first | rfl | cases h
theorem pairQ_no {e : PyData} (h : isTup e = false) : pairQ e = false := by cases e <;> first | rfl | cases h
theorem tup_is {e : PyData} (h : isTup e = true) : ∃ ds, e = .tuple ds := by cases e <;> first | exact ⟨_, rfl⟩ | cases h
theorem len_no {n m : Nat} (h : n ≠ m) : decide (V.int (n : Int) = V.int (m : Int)) = false := decide_eq_false fun z => h (by have := V.int.inj z; omega)
theorem len_yes {n m : Nat} (h : n = m) : decide (V.int (n : Int) = V.int (m : Int)) = true := decide_eq_true (by rw [h])
theorem Av.inv_tup {K : PySem.W.Frag} {d : Addr → Prop} {H : Hp} {x : V} {ds : List PyData} (h : Av K d H x (.tuple ds)) : ∃ a xs, x = .ref a ∧ ¬ d a ∧ SqT K H a xs ∧ AvAll K d H xs ds := by
  cases h with
  | tup n s r => exact ⟨_, _, rfl, n, s.sq, r⟩
theorem Av.inv_tupP {K : PySem.W.Frag} {d : Addr → Prop} {H : Hp} {x : V} {ds : List PyData} (h : Av K d H x (.tuple ds)) : ∃ a xs, x = .ref a ∧ ¬ d a ∧ SqP K H a xs ∧ AvAll K d H xs ds := by
  cases h with
  | tup a b c => exact ⟨_, _, rfl, a, b, c⟩
theorem sqP_byd {K : PySem.W.Frag} {d : Addr → Prop} {a : Addr} {H H2 : Hp} {xs : List V} (e : Byd d H H2) (n : ¬ d a) (h : SqP K H a xs) : SqP K H2 a xs := e _ _ n h
theorem ex_p {K : PySem.W.Frag} {H H' : Hp} {a : Addr} {xs : List V} (e : Ex H H') (h : SqP K H a xs) : SqP K H' a xs := e _ _ h
theorem sp_of {K : PySem.W.Frag} {H : Hp} {a : Addr} {xs : List V} (h : H a = some (.tup xs)) : SqP K H a xs := h
theorem AvAll.inv_cons {K : PySem.W.Frag} {d : Addr → Prop} {H : Hp} {xs : List V} {e : PyData} {es : List PyData} (h : AvAll K d H xs (e :: es)) : ∃ v vs, xs = v :: vs ∧ Av K d H v e ∧ AvAll K d H vs es := by
  cases h with
  | cons a b => exact ⟨_, _, rfl, a, b⟩
theorem AvAll.inv_nil {K : PySem.W.Frag} {d : Addr → Prop} {H : Hp} {xs : List V} (h : AvAll K d H xs []) : xs = [] := by
  cases h
  rfl
theorem tyv (K : PySem.W.Frag) {a : String} : ClsV (.ty a) (.type a) := .ty a
section
variable {P : Program} {w : World} {K : PySem.W.Frag} {mg : Str → Option Value} {base : Heap}
theorem ok_intA {f : Addr} {fd : FuncData} (F : Fun K "is_integer" "is_integer" sInt f fd) (mI : mg "isinstance" = none) (mT : mg "int" = none) (mB : mg "bool" = none) : FnOk P w K mg base CX0 1 f fd ["value"] (spIntA K) := by
  refine F.ok scInt (fun vs H Q E h => ?_) (fun cdv A outer s H vs Q E hr h => ?_)
  · obtain ⟨d, x, e, rfl, _⟩ := h
    rfl
  · obtain ⟨d, x, e, rfl, hA, q⟩ := h
    refine ⟨_, pss_one (ps_ret (pe_and (pe_callB call_isi (by rfl) mI (by decide +kernel) (pa_cons (pv 0) (pa_cons (pe_bltn (v := .ty "int") (by rfl) mT (by decide +kernel) rfl) pa_nil)))
      (pe_one (pe_not (pe_callB call_isi (by rfl) mI (by decide +kernel) (pa_cons (pv 0) (pa_cons (pe_bltn (v := .ty "bool") (by rfl) mB (by decide +kernel) rfl) pa_nil))))))), ?_⟩
    refine ret_of (andv_of (cb_of (c_of (v_of rfl (c_of (k_of (n_of ⟨x, .ty "int", _, _, isInt e, rfl, .ty "int", ty_av hA, kit_ty (kit_int e), isInt e, rfl, ?_⟩)))))))
    rw [intQ_is] at q
    cases c : isInt e with
    | true =>
      rw [if_pos rfl]
      rw [c, Bool.true_and] at q
      exact notv_of (cb_of (c_of (v_of rfl (c_of (k_of (n_of ⟨x, .ty "bool", _, _, isBool e, rfl, .ty "bool", ty_av hA, kit_ty (kit_bool e), isBool e, rfl, q H (Ex.refl H)⟩))))))
    | false =>
      rw [if_neg Bool.false_ne_true]
      rw [c, Bool.false_and] at q
      exact q H (Ex.refl H)
theorem ok_linkA {f fI : Addr} {fd fdI : FuncData} (F : Fun K "is_link" "is_link" sIsLink f fd) (AI : Df K mg "is_integer" sInt ["value"] fI fdI) (mL : mg "len" = none) (mI : mg "isinstance" = none) (mT : mg "tuple" = none) (mS : mg "str" = none) (mN : mg "int" = none) (mB : mg "bool" = none) : FnOk P w K mg base CX0 2 f fd ["value"] (spLinkA K) := by
  have GI : FnOk P w K mg base CX0 1 fI fdI ["value"] (spIntA K) := ok_intA AI.F mI mN mB
  refine F.ok scIsLink (fun vs H Q E h => ?_) (fun cdv A outer s H vs Q E hr h => ?_)
  · obtain ⟨d, x, e, rfl, _⟩ := h
    rfl
  · obtain ⟨d, x, e, rfl, hA, q⟩ := h
    refine ⟨_, pss_cons (ps_if (pw_or (pt_not (pt_val (pe_callB call_isi (by rfl) mI (by decide +kernel) (pa_cons (pv 0) (pa_cons (pe_bltn (v := .ty "tuple") (by rfl) mT (by decide +kernel) rfl) pa_nil))))) (pw_or1 (pt_cmpR op_eq (pe_callB call_len_seq (by rfl) mL PySem.boot_len (pa_cons (pv 0) pa_nil)) pe_int (nomark _)))).pt (pss_one (ps_ret pe_bl)) pss_nil) <|
      pss_cons (ps_if (pt_cmpR (op_eqTx (Nat.lt_of_le_of_lt (Nat.le_add_right _ 64) hr.units)) (pe_ix ix_tup (pv 0) pe_int (fun _ _ => rfl)) pe_str (nomark _)) (pss_one (ps_ret (pe_and (pe_cmpR op_eq (pe_callB call_len_seq (by rfl) mL PySem.boot_len (pa_cons (pv 0) pa_nil)) pe_int (nomark _)) (pe_one (pe_callB call_isi (by rfl) mI (by decide +kernel) (pa_cons (pe_ix ix_tup (pv 0) pe_int (fun _ _ => rfl)) (pa_cons (pe_bltn (v := .ty "str") (by rfl) mS (by decide +kernel) rfl) pa_nil))))))) pss_nil) <|
      pss_cons (ps_if (pt_cmpR (op_inTx hr.units) (pe_ix ix_tup (pv 0) pe_int (fun _ _ => rfl)) (pe_tup (pa_cons pe_str <| pa_cons pe_str pa_nil)) (by rfl)) (pss_one (ps_ret (pe_and (pe_cmpR op_eq (pe_callB call_len_seq (by rfl) mL PySem.boot_len (pa_cons (pv 0) pa_nil)) pe_int (nomark _)) (pe_and (pe_call GI hr (by rfl) AI.g AI.F.kp AI.b .nil pass0 (pa_cons (pe_ix ix_tup (pv 0) pe_int (fun _ _ => rfl)) pa_nil)) (pe_one (pe_call GI hr (by rfl) AI.g AI.F.kp AI.b .nil pass0 (pa_cons (pe_ix ix_tup (pv 0) pe_int (fun _ _ => rfl)) pa_nil))))))) pss_nil) <|
      pss_one (ps_ret pe_bl), ?_⟩
    refine seq_of (ifS_of (or_of (not_of (test_of (cb_of (c_of (v_of rfl (c_of (k_of (n_of ⟨x, .ty "tuple", _, _, isTup e, rfl, .ty "tuple", ty_av hA, kit_ty (kit_tup e), isTup e, rfl, ?_⟩))))))))))
    by_cases ct : isTup e = false
    · rw [ct, if_pos (show (!false) = true from rfl), if_pos rfl]
      have q' := q H (Ex.refl H)
      rw [linkQ_no ct] at q'
      exact ret_of (k_of q')
    have ct := Bool.of_not_eq_false ct
    rw [ct, if_neg (show ¬ (!true) = true from Bool.false_ne_true)]
    obtain ⟨ds, rfl⟩ := tup_is ct
    obtain ⟨a, xs, rfl, na, hs, hds⟩ := hA.inv_tup
    have ll := hds.len
    refine test_of (op_of (cb_of (c_of (v_of rfl (n_of ⟨a, _, rfl, .inr hs, k_of ⟨rfl, _, rfl, ?_⟩⟩)))))
    cases ds with
    | nil =>
      rw [show decide (V.int (xs.length : Int) = V.int 0) = true from len_yes (m := 0) ll, if_pos rfl]
      exact ret_of (k_of (q H (Ex.refl H)))
    | cons e0 es =>
      rw [List.length_cons] at ll
      rw [show decide (V.int (xs.length : Int) = V.int 0) = false from len_no (m := 0) (by omega), if_neg Bool.false_ne_true]
      obtain ⟨v, vs, rfl, h0, hr0⟩ := hds.inv_cons
      dsimp only [tNext]
      refine seq_of (ifS_of (test_of (op_of (op_of (v_of rfl (k_of ⟨a, _, 0, _, rfl, rfl, hs, atI_nat (j := 0) rfl, k_of ⟨d, e0, _, h0, rfl, _, rfl, ?_⟩⟩))))))
      cases c0 : eqTx e0 "root" with
      | true =>
        rw [if_pos rfl]
        have e0r := eqTx_iff.mp c0
        subst e0r
        rw [linkQ_root] at q
        refine ret_of (andv_of (op_of (cb_of (c_of (v_of rfl (n_of ⟨a, _, rfl, .inr hs, k_of ⟨rfl, _, rfl, ?_⟩⟩))))))
        by_cases l1 : es.length ≠ 1
        · rw [show decide (V.int (((v :: vs).length : Nat) : Int) = V.int 2) = false from len_no (m := 2) (by omega), if_neg Bool.false_ne_true]
          have q' := q H (Ex.refl H)
          rw [decide_eq_false l1, Bool.false_and] at q'
          exact q'
        have l1 := Decidable.of_not_not l1
        rw [show decide (V.int (((v :: vs).length : Nat) : Int) = V.int 2) = true from len_yes (m := 2) (by omega), if_pos rfl]
        obtain ⟨e1, rfl⟩ : ∃ e1, es = [e1] := List.length_eq_one_iff.mp l1
        obtain ⟨v1, vs1, rfl, h1, _⟩ := hr0.inv_cons
        exact cb_of (c_of (op_of (v_of rfl (k_of ⟨a, _, 1, _, rfl, rfl, hs, atI_nat (j := 1) rfl, c_of (k_of (n_of ⟨_, .ty "str", _, _, _, rfl, .ty "str", ty_av h1, kit_ty (kit_str e1), q _ (Ex.refl _)⟩))⟩))))
      | false =>
        rw [if_neg Bool.false_ne_true]
        rw [linkQ_other c0] at q
        dsimp only [tNext]
        refine seq_of (ifS_of (test_of (op_of (op_of (v_of rfl (k_of ⟨a, _, 0, _, rfl, rfl, hs, atI_nat (j := 0) rfl, tup_of (c_of (k_of (c_of (k_of (n_of ⟨by show 2 ≤ sizeLine; decide, fun t ht => ⟨d, e0, t, ["slot", "entry"], h0.ex (Ex.new ht), rfl, st_of upd_same, _, rfl, ?_⟩⟩)))))⟩))))))
        have e5 : Ex H (upd H t (.tup [V.str "slot", V.str "entry"])) := Ex.new ht
        generalize hc : (["slot", "entry"] : List Str).any (eqTx e0) = c1
        have hc' : (eqTx e0 "slot" || (eqTx e0 "entry" || false)) = c1 := hc
        rw [hc'] at q
        generalize upd H t (.tup [V.str "slot", V.str "entry"]) = H5 at e5 ⊢
        cases c1 with
        | false =>
          rw [if_neg Bool.false_ne_true]
          dsimp only [tNext]
          rw [Bool.false_and] at q
          exact ret_of (k_of (q _ e5))
        | true =>
          rw [if_pos rfl]
          rw [Bool.true_and] at q
          refine ret_of (andv_of (op_of (cb_of (c_of (v_of rfl (n_of ⟨a, _, rfl, .inr (ex_t e5 hs), k_of ⟨rfl, _, rfl, ?_⟩⟩))))))
          by_cases l2 : es.length ≠ 2
          · rw [show decide (V.int (((v :: vs).length : Nat) : Int) = V.int 3) = false from len_no (m := 3) (by omega), if_neg Bool.false_ne_true]
            have q' := q _ e5
            rw [ints2_no l2] at q'
            exact q'
          have l2 := Decidable.of_not_not l2
          rw [show decide (V.int (((v :: vs).length : Nat) : Int) = V.int 3) = true from len_yes (m := 3) (by omega), if_pos rfl]
          obtain ⟨e1, e2, rfl⟩ : ∃ e1 e2, es = [e1, e2] := match es, l2 with | [e1, e2], _ => ⟨e1, e2, rfl⟩
          obtain ⟨v1, vs1, rfl, h1, hr1⟩ := hr0.inv_cons
          obtain ⟨v2, vs2, rfl, h2, _⟩ := hr1.inv_cons
          refine andv_of (call_of (c_of (op_of (v_of rfl (k_of ⟨a, _, 1, _, rfl, rfl, ex_t e5 hs, atI_nat (j := 1) rfl, n_of ⟨d, _, e1, rfl, h1.ex e5, fun H1 e6 => ⟨intQ e1, rfl, ?_⟩⟩⟩)))))
          rw [show ints2 [e1, e2] = (intQ e1 && intQ e2) from rfl] at q
          cases c2 : intQ e1 with
          | false =>
            rw [if_neg Bool.false_ne_true]
            have q' := q H1 (e5.trans e6)
            rw [c2, Bool.false_and] at q'
            exact q'
          | true =>
            rw [if_pos rfl]
            rw [c2, Bool.true_and] at q
            exact call_of (c_of (op_of (v_of rfl (k_of ⟨a, _, 2, _, rfl, rfl, ex_t (e5.trans e6) hs, atI_nat (j := 2) rfl, n_of ⟨d, _, e2, rfl, h2.ex (e5.trans e6), fun H2 e7 => q H2 ((e5.trans e6).trans e7)⟩⟩))))
end
end Sn
/-! Methods that say super().__init__(..) in an exception's class over ValueError. -/
namespace Ex
open PySem PySem.Spec PyProof.Rows L2 Gd
/-- a method that closes over the cell of its class D -/
structure FunC (P : Program) (K : PySem.W.Frag) (x qual : Str) (st : Stmt) (D f : Addr) (fd : FuncData) : Prop where
  ex : ∃ (oc kV doc pm ct ccl cl : Value) (od an cdd cld : Option Addr) (cda cc : Addr) (osl ccs csl : Array (Option Value)) (vs : Array Value) (file : Str) (tf : Tok),
    fd = PySem.W.fnX x qual (defArgs st) (defBody st) (defScope st) [("__class__", cc)] .none kV doc pm an (.ref cda) ct ∧ K.lookup f = some ⟨oc, od, .func fd, osl⟩ ∧ PySem.W.codeIn K (.ref cda) qual = true ∧
    K.lookup cc = some ⟨cl, cld, .cell (some (.ref D)), csl⟩ ∧ K.lookup cda = some ⟨ccl, cdd, .fields vs, ccs⟩ ∧ vs[2]? = some (.str file tf) ∧ ((P.main.file : Str) == file) = true
/-- its names: parameters, the class's cell, super -/
structure FnScopeC (N ps : List Str) (sc : Scope) : Prop where
  kind : sc.kind = .function
  co : sc.isCoroutine = false
  gen : sc.isGenerator = false
  nd : N.Nodup
  pre : N.take ps.length = ps
  par : ∀ y ∈ ps, sc.names.lookup y = some .local
  nocell : ∀ y ∈ sc.names, y.2 ≠ .cell
  free : ∀ y ∈ sc.names, y.2 = .free → y.1 = "__class__"
  sup : sc.names.lookup ("super" : Str) = some .globalImplicit
  cls : sc.names.lookup ("__class__" : Str) = some .free
def cxC (CX : CXT) (P : Program) (w : World) (K : PySem.W.Frag) (mg : Str → Option Value) (base : Heap) (N : List Str) (qual : Str) (scope : Scope) (f cda cc : Addr) (A : Around) (outer : List Env) (s : Shared) (H : Hp) (E : XK) : Cx where
  prog := P
  w := w
  K := K
  mg := mg
  base := base
  A := A.deeper (PySem.W.ksEnv qual scope s.heap.objs.size f (.ref cda) cc)
  N := N
  s_0 := s
  H_0 := H
  env := PySem.W.ksEnv qual scope s.heap.objs.size f (.ref cda) cc
  outer := outer
  stack := PySem.W.ksEnv qual scope s.heap.objs.size f (.ref cda) cc :: outer
  ex := []
  calm := true
  fn := fun _ => false
  pn := []
  xe := fun e s' => wpAny (model P w) (A.deeper (PySem.W.ksEnv qual scope s.heap.objs.size f (.ref cda) cc)) (leaving (PySem.W.ksEnv qual scope s.heap.objs.size f (.ref cda) cc) e) (fun _ s'' => CX outer H s E e s'') (fun e' s'' => CX outer H s E e' s'') s'
theorem one_cell {cc c : Addr} {y : Str} (h : ([("__class__", cc)] : List (Str × Addr)).lookup y = some c) : y = "__class__" ∧ c = cc := by
  unfold List.lookup at h
  split at h
  · rename_i e
    cases h
    exact ⟨by simpa using e, rfl⟩
  · simp at h
theorem lookup_mem {y : Str} {u : Value} : ∀ {l : List (Str × Value)}, (l.map (·.1)).Nodup → (y, u) ∈ l → l.lookup y = some u
  | [], _, h => nomatch h
  | (z, v) :: l, nd, h => by
    rcases List.mem_cons.mp h with e | h
    · cases e
      simp [List.lookup]
    · have hz : y ≠ z := by
        intro e
        rw [← e] at nd
        exact (List.nodup_cons.mp nd).1 (List.mem_map.mpr ⟨(y, u), h, rfl⟩)
      have hb : (y == z) = false := by simpa using hz
      simp only [List.lookup, hb]
      exact lookup_mem (List.nodup_cons.mp nd).2 h
theorem zip_keys : ∀ (ps : List Str) (us : List Value), ps.Nodup → ((ps.zip us).map (·.1)).Nodup
  | [], _, _ => by simp
  | _ :: _, [], _ => by simp
  | p :: ps, u :: us, nd => by
    simp only [List.zip_cons_cons, List.map_cons, List.nodup_cons]
    refine ⟨fun h => (List.nodup_cons.mp nd).1 ?_, zip_keys ps us (List.nodup_cons.mp nd).2⟩
    obtain ⟨q, hq, e⟩ := List.mem_map.mp h
    rw [← e]
    exact (List.of_mem_zip (show (q.1, q.2) ∈ ps.zip us from hq)).1
theorem rev_get {ps : List Str} {us : List Value} {i : Nat} {y : Str} {u : Value} (nd : ps.Nodup) (h1 : ps[i]? = some y) (h2 : us[i]? = some u) : (ps.zip us).reverse.lookup y = some u := by
  refine lookup_mem ?_ ?_
  · rw [List.map_reverse]
    exact (List.reverse_perm _).nodup_iff.mpr (zip_keys ps us nd)
  · refine List.mem_reverse.mpr (List.mem_of_getElem? (i := i) ?_)
    rw [List.getElem?_zip_eq_some]
    exact ⟨h1, h2⟩
section
variable {CX : CXT} {P : Program} {w : World} {K : PySem.W.Frag} {mg : Str → Option Value} {base : Heap} {N ps : List Str} {qual : Str} {scope : Scope} {f cda cc D : Addr} {A : Around} {outer : List Env} {s : Shared} {H : Hp} {E : XK} {us : List Value} {vs : List V}
theorem inv_startC {h₀ : Heap} {tk : Nat} {cl : Value} {cld : Option Addr} {csl : Array (Option Value)} (S : FnScopeC N ps scope) (hd : A.handled = none) (e0 : Env0 P w K mg base A outer s H) (hl : vs.length = ps.length) (r : Vals vs us)
    (lc : K.lookup cc = some ⟨cl, cld, .cell (some (.ref D)), csl⟩) (hns : h₀.Ns s.heap.objs.size (fun y => (ps.zip us).reverse.lookup y)) (hk : ∀ b o, s.heap.get? b = some o → h₀.get? b = some o) :
    Inv (cxC CX P w K mg base N qual scope f cda cc A outer s H E) [] (start N vs) H { s with heap := h₀, toks := tk } := by
  have hpl : ps.length ≤ N.length := by have := congrArg List.length S.pre; rw [List.length_take] at this; omega
  have noA : ∀ b : Addr, b ∉ (cxC CX P w K mg base N qual scope f cda cc A outer s H E).ex := fun b z => absurd (show b ∈ ([] : List Addr) from z) (by simp)
  have inB : base.get? cc = some ⟨cl, cld, .cell (some (.ref D)), csl⟩ := e0.mod.kin _ _ lc
  have inS := (e0.bs _ _ inB).1
  refine ⟨⟨e0.mod, S.kind, rfl, rfl, Nat.le_refl _, fun y z c h1 h2 => ?_, fun y hy => ?_, fun y c h _ => (nomatch h), fun _ => hd, Around.frames_deeper e0.frames, .inr ⟨rfl, rfl⟩, fun b z => absurd z (noA b), e0.bs, e0.bsz, fun b _ _ => noA b, fun b z => absurd z (noA b), e0.funs, e0.frf⟩,
    rfl, e0.bare, Un.kept hk, ⟨_, hns, fun i y v h1 h2 h3 => ?_⟩, fun y c h => ?_, e0.hok.fresh (Nat.le_refl _), fun y c h => ?_, fun p hp => absurd (show p ∈ ([] : List (Addr × Obj)) from hp) (by simp), e0.hok.kept hk, ?_⟩
  · exact (one_cell h1).1.trans (one_cell h2).1.symm
  · have hy : scope.names.lookup y = some .cell ∨ scope.names.lookup y = some .free := hy
    rcases hy with hy | hy
    · exact absurd rfl (S.nocell _ (PySem.mem_of_lookup hy))
    · have e := S.free _ (PySem.mem_of_lookup hy) rfl
      have e' : y = "__class__" := e
      subst e'
      exact ⟨cc, rfl⟩
  · have hi : i < vs.length := by
      unfold L2.start at h2
      by_cases hi : i < vs.length
      · exact hi
      · rw [List.getElem?_append_right (by simpa using hi)] at h2
        rw [List.getElem?_replicate] at h2
        split at h2 <;> cases h2
    have ha : vs[i]? = some v := by
      unfold L2.start at h2
      rw [List.getElem?_append_left (by simpa using hi), List.getElem?_map] at h2
      cases e : vs[i]? with
      | none => rw [e] at h2; cases h2
      | some a => rw [e] at h2; cases h2; rfl
    obtain ⟨u, hu, rv⟩ := r.get ha
    have hp : ps[i]? = some y := by
      rw [← S.pre, List.getElem?_take_of_lt (by omega)]; exact h1
    have ndP : ps.Nodup := by rw [← S.pre]; exact S.nd.sublist (List.take_sublist _ _)
    refine ⟨u, rv, .inl ⟨S.par y (List.mem_of_getElem? hp), ?_⟩⟩
    exact rev_get ndP hp hu
  · obtain ⟨_, rfl⟩ := one_cell h
    exact ⟨_, _, hk _ _ inS, rfl⟩
  · obtain ⟨_, rfl⟩ := one_cell h
    exact (e0.bs _ _ inB).2
  · unfold L2.start
    rw [List.length_append, List.length_map, List.length_replicate]
    show _ = N.length
    omega
end
/-- what the written part says of super() in class D for an instance of class C -/
structure SupVE (P : Program) (K : PySem.W.Frag) (mg : Str → Option Value) (D C : Addr) : Prop where
  clsD : ∃ cd, PySem.W.clsIn K D = some cd
  sub : PySem.W.mroIn K C (.ref D) = some true
  init : PySem.W.ks_superIn K C D "__init__" = some (some (.builtin "ValueError.__init__"))
  isVE : PySem.W.subIn K (.ref C) (.type "ValueError") = some true
  opq : PySem.W.nsIn K cStatics "thirdparty.any" = some none
  glob : mg "super" = none
  main : (P.main.scope.names.lookup ("super" : Str)).isSome = false
section
variable {prog : Program} {w : World} {A : Around} {E : Value → Shared → Prop} {h : Heap} {g : Array GenState} {d : Drawn} {t : Nat} {os : OsState}
variable {nm q : Str} {C N : Addr} {bs bm : List Value} {hdct : Bool} {sn : List Str} {sub : List Value} {ab : Bool} {col : Option Bool} {dd : Option Addr} {k0 k1 k2 k3 k5 : Option Value}
/-- the bound ValueError.__init__ called -/
theorem call_bwVE {u e t0 : Addr} {rest : List Value} {Q : Value → Shared → Prop} (hC : h.get? C = some (excClassObj nm q C N bs bm hdct sn sub ab col dd k0 k1 k2 k3 k5 "ValueError.__new__")) (he : h.get? e = some ({ cls := .ref C, dict := none, data := .fields #[.ref t0, .none, .none, .none, .bool false, .none] } : Obj))
    (hu : h.get? u = some (PySem.W.kxs_mw "ValueError.__init__" e)) (hz : rest.length ≤ sizeLine)
    (hq : ∀ h' t1, (∀ b o, b ≠ e → h.get? b = some o → h'.get? b = some o) → h'.get? e = some ({ cls := .ref C, dict := none, data := .fields #[.ref t1, .none, .none, .none, .bool false, .none] } : Obj) → Q .none ⟨h', g, d, t, os⟩) :
    wpAny (model prog w) A (call (.ref u) rest) Q E ⟨h, g, d, t, os⟩ := by
  refine wpAny_call (codeAny_of_tree ?_)
  show wpAny _ A.in1 (callAny (.ref u) ⟨rest, []⟩) _ _ _
  simp only [callAny]
  refine wpAny_bind (wpAny_load hu ?_)
  simp only [PySem.W.kxs_mw, show (Value.type "method-wrapper" == Value.type "method" || Value.type "method-wrapper" == Value.type "builtin_function_or_method" || Value.type "method-wrapper" == Value.type "method-wrapper") = true by decide, if_true]
  refine PySem.W.KFB.if_so (by decide) ?_
  refine wpAny_bind (PySem.W.check_bound_init F.excBase_ValueError.toExcCallFacts hC he rfl ?_)
  refine wpAny_bind (wpAny_pure (wpAny_pure ?_))
  refine ⟨plainId_quiet F.excBase_ValueError.init.plain _, codeAny_builtin F.excBase_ValueError.initEntry ?_⟩
  exact PySem.W.exc_init_tree (cls := .ref C) (t0 := t0) (dv := none) (c2 := .none) (c3 := .none) (b4 := .bool false) he hz fun h' k e' _ => hq h' _ k e'
end
section
variable {X : Cx} {pins : List (Addr × Obj)} {σ : L2.St} {H : Hp} {s : Shared} {a u C : Addr}
theorem bw_ok {us : List Value} {Q : Value → Shared → Prop} (T : OexC X.K C) (I : Inv X pins σ H s) (e : H a = some (exo a C none)) (hu : s.heap.get? u = some (PySem.W.kxs_mw "ValueError.__init__" a)) (hl : us.length ≤ sizeLine) (h : ∀ s', Inv X pins σ H s' → Q .none s') :
    wpAny (model X.prog X.w) X.A (call (.ref u) us) Q X.xe s := by
  obtain ⟨nm, q, N, bs, bm, sn, sub, ab, col, dd, k0, k1, k2, k3, k5, hC, hbm⟩ := T.cls
  obtain ⟨t1, ho⟩ := exo_at I.hok e
  obtain ⟨hp, g, d, t, os⟩ := s
  refine call_bwVE (I.kIn _ _ hC) ho hu hl fun h' t2 k hx => ?_
  have J := I.write (t' := t) (x := a) (e := a) (o := exo a C none) (by rw [e]; exact True.intro) (.inl rfl) k ⟨_, hx⟩ (exo_ok hx)
  have eu : upd H a (exo a C none) = H := by
    funext b
    by_cases hb : b = a
    · rw [hb, upd_same, e]
    · rw [upd_ne hb]
  rw [eu] at J
  exact h _ J
end
section
variable {M : Model} {A : Around} {E : Value → Shared → Prop} {s : Shared}
theorem callWith_bw {pos : Pos} {u x : Addr} {env : Env} {e : Expr} {rest : List Expr} {Q : Value → Shared → Prop}
    (h : wpAny M A (spliced (backTo pos (starEach (e :: rest) env))) (fun vs s₁ => PySem.W.KxsAt "ValueError.__init__" u x s₁.heap ∧ wpAny M A (call (.ref u) vs) Q E s₁) E s)
    (he : starEach (e :: rest) env = (false, eval e env) :: starEach rest env) (hplain : (backTo pos (starEach rest env)).any (·.1) = false) :
    wpAny M A (callWith pos (.ref u) [] (backTo pos (starEach (e :: rest) env)) []) Q E s := by
  rw [he] at h ⊢
  refine PySem.W.kxs_callWith (i := "ValueError.__init__") (x := x) (by show (false || (backTo pos (starEach rest env)).any (·.1)) = false; rw [hplain]; rfl) ?_
  exact Calls.evalArgs_plain h
end
section
variable {CX : CXT} {P : Program} {w : World} {K : PySem.W.Frag} {mg : Str → Option Value} {base : Heap} {N ps : List Str} {x qual : Str} {st : Stmt} {D f : Addr} {fd : FuncData} {k : Nat} {sp : Sp} {p0 p1 p2 p3 p4 : Pos} {e : Expr} {es : List Expr} {rest : List Stmt} {apar : Arg}
/-- a method whose first statement is super().__init__(..) -/
theorem fngC_of (F : FunC P K x qual st D f fd) (S : FnScopeC N ps (defScope st)) (ar : ∀ vs H Q E, sp vs H Q E → vs.length = ps.length)
    (hb : defBody st = .Expr (.Call (.Attribute (.Call (.Name "super" p0) [] [] p1) "__init__" p2) (e :: es) [] p3) p4 :: rest)
    (hp : ((defArgs st).posonlyargs ++ (defArgs st).args).head? = some apar) (h0 : N[0]? = some apar.arg) (h00 : ps[0]? = some apar.arg)
    (body : ∀ (cda cc : Addr) (A : Around) (outer : List Env) (s : Shared) (H : Hp) (vs : List V) (Q : VK) (E : XK), Room k (A.deeper (PySem.W.ksEnv qual (defScope st) s.heap.objs.size f (.ref cda) cc)) → A.guards = some [] → sp vs H Q E →
      ∃ (ta : TA) (t : TS) (a C : Addr) (vs' : List V), PA (cxC CX P w K mg base N qual (defScope st) f cda cc A outer s H E) (e :: es) ta ∧ PSs (cxC CX P w K mg base N qual (defScope st) f cda cc A outer s H E) rest t ∧
        vs = .ref a :: vs' ∧ OexC K C ∧ SupVE P K mg D C ∧ H a = some (exo a C none) ∧
        ta (L2.start N vs) H fun ws H1 => ws.length ≤ 1000 ∧ H1 a = some (exo a C none) ∧ t { nx := fun _ H' => Q .non H', rt := Q } (L2.start N vs) H1)
    (hev : ∀ env : Env, ∃ pl : Sem Bool, eval (.Call (.Attribute (.Call (.Name "super" p0) [] [] p1) "__init__" p2) (e :: es) [] p3) env = (do
      let ov ← attributeBase (.Call (.Name "super" p0) [] [] p1) "__init__" env (eval (.Call (.Name "super" p0) [] [] p1) env)
      standAt p2.atName
      let (f, first) ← holding [ov] (getMethod ov "__init__" pl)
      callWith p3 f first (backTo p3 (starEach (e :: es) env)) []) := by exact fun env => ⟨_, rfl⟩)
    (he : ∀ env : Env, starEach (e :: es) env = (false, eval e env) :: starEach es env := by intro _; rfl) (hpl : ∀ env : Env, (backTo p3 (starEach es env)).any (·.1) = false := by intro _; rfl) :
    FnG P w K mg base CX (k + 1) f fd ps sp := by
  obtain ⟨oc, kV, doc, pm, ct, ccl, cl, od, an, cdd, cld, cda, cc, osl, ccs, csl, vsF, file, tf, rfl, look, code, lc, lcda, hv2, hfile⟩ := F.ex
  refine ⟨ar, fun A room gd outer s H args us vs Q E env bind rel want => ?_⟩
  have inK : K.In s.heap := env.mod.kin.keeps (fun b o h => (env.bs b o h).1)
  have free : s.heap.NoLimit := env.mod.nolimit.keeps (fun b o h => (env.bs b o h).1)
  have hv := ar vs H Q E want
  obtain ⟨ta, t, a, C, vs', hta, ht, rfl, T, SV, ea, reads⟩ := body cda cc A outer s H vs Q E (room.deeper _) gd want
  refine ks_codeAny_call_defAt (body := defBody st) (binds := ps.zip us) room.depth (inK _ _ look) rfl free (PySem.W.codeRec_of inK code) rfl bind S.nocell (fun y hy => ?_) (fun h₀ hns hk => ?_) S.co S.gen S.kind
  · exact S.par y.1 (List.of_mem_zip (show (y.1, y.2) ∈ ps.zip us from hy)).1
  have I := inv_startC (CX := CX) (E := E) (f := f) (cda := cda) (qual := qual) (tk := s.toks + (ps.zip us).length) S room.hd env hv rel lc hns hk
  have slot0 : (L2.start N (V.ref a :: vs'))[0]? = some (some (.ref a)) := rfl
  have inK' : K.In h₀ := inK.keeps hk
  show _root_.PySem.wpAt (model P w) (A.deeper (PySem.W.ksEnv qual (defScope st) s.heap.objs.size f (.ref cda) cc)) (.func (defBody st) (PySem.W.ksEnv qual (defScope st) s.heap.objs.size f (.ref cda) cc)) (execs (defBody st) (PySem.W.ksEnv qual (defScope st) s.heap.objs.size f (.ref cda) cc)) _ _ _
  obtain ⟨pl, ev⟩ := hev (PySem.W.ksEnv qual (defScope st) s.heap.objs.size f (.ref cda) cc)
  have noI : interactive (PySem.W.ksEnv qual (defScope st) s.heap.objs.size f (.ref cda) cc) = false := by
    unfold interactive
    simp [S.kind]
  rw [hb]
  refine ks_wpAt_execs_cons (ks_wpAt_Expr_any (hi := noI) (ks_wpAt_MethodCall (he := ev) (ks_wpAt_super_base (ar := apar) S.sup S.cls rfl rfl (inK' _ _ look) rfl hp rfl (inK' _ _ lcda) rfl hv2 hfile SV.main ?_)))
  obtain ⟨mb, hb1, hb2⟩ := I.mod.blt
  obtain ⟨cdD, hD⟩ := SV.clsD
  obtain ⟨oD, hD1, hD2⟩ : ∃ oD, h₀.get? D = some oD ∧ oD.data = .cls cdD := by
    unfold PySem.W.clsIn at hD
    split at hD
    · rename_i c d cd' sl ho
      cases hD
      exact ⟨_, inK' _ _ ho, rfl⟩
    · cases hD
  have par0 := S.par _ (List.mem_of_getElem? h00)
  obtain ⟨m, nsL, locs⟩ := I.loc
  obtain ⟨u, ru, lk⟩ := locs 0 apar.arg (.ref a) h0 slot0 (.inl par0)
  cases (show u = .ref a from ru)
  have mv : m apar.arg = some (.ref a) := by
    rcases lk with ⟨_, z⟩ | ⟨z, _⟩
    · exact z
    · have z' : (defScope st).names.lookup apar.arg = some .cell ∨ (defScope st).names.lookup apar.arg = some .free := z
      rw [par0] at z'
      rcases z' with z' | z' <;> cases z'
  refine PySem.W.ks_loadName_global S.kind S.sup (Calls.loadGlobal_builtin (env := PySem.W.ksEnv qual (defScope st) s.heap.objs.size f (.ref cda) cc) (I.mod.glob.keeps I.bk) SV.glob (hb1.keeps I.bk) ((hb2 "super" (by decide +kernel)).trans PyProof.Rows.Boot.«super») ⟨rfl, ?_⟩)
  refine wpAny_loadName_free S.kind S.cls rfl ⟨_, inK' _ _ lc, rfl⟩ ?_
  refine wpAny_loadName_local S.kind par0 nsL mv ?_
  refine ks_wpAny_isType_cls hD1 hD2 ⟨rfl, ?_⟩
  obtain ⟨t1, ho⟩ := exo_at I.hok ea
  refine ks_wpAny_call_super hD1 hD2 ho rfl (fun c e => nomatch e) (PySem.W.looks_mroIn inK' SV.sub) (fun h' so kk => ?_)
  have inK2 : K.In h' := inK'.keeps kk
  have inst : PySem.W.InstAt h' a _ C none := ⟨kk _ _ ho, rfl, rfl, trivial⟩
  cases hc : PySem.W.clsIn K C with
  | none =>
    have z := SV.init
    unfold PySem.W.ks_superIn at z
    rw [hc] at z
    cases z
  | some cd =>
    have hin := SV.init
    unfold PySem.W.ks_superIn at hin
    rw [hc] at hin
    refine PySem.W.kxs_getMethod PySem.W.kxs_ValueError so (PySem.W.looks_opaque inK2 SV.opq) (l₀ := cd.mro) ?_ rfl inK2 hin (inst.type.andThen (PySem.W.looks_subIn inK2 SV.isVE)) (PySem.W.ks_ne inK2 inst hc) (by decide) ?_
    · exact fun A Q E s k q => wpAny_bind ((PySem.W.looks_clsIn inK2 hc) A _ E s k (wpAny_pure q))
    · have I1 := I.kept (t' := s.toks + (ps.zip us).length) kk
      have ltL : s.heap.objs.size < h'.objs.size := by
        obtain ⟨o, _, _, e1, _⟩ := nsL
        exact Heap.lt_size (kk _ _ e1)
      have I2 := (I1.kept (t' := s.toks + (ps.zip us).length + 1) (h' := h'.push (PySem.W.kxs_mw "ValueError.__init__" a)) (fun b o e => Heap.get?_push_of_some _ e)).pins_of (pins' := [(h'.objs.size, PySem.W.kxs_mw "ValueError.__init__" a)]) (fun p hp => by
        rcases List.mem_singleton.mp hp with rfl
        exact ⟨Heap.get?_push_size _ rfl, I1.hok.fresh (Nat.le_refl _), Nat.ne_of_gt ltL, I1.nofs (Nat.le_refl _), fun v z => nomatch z⟩)
      refine callWith_bw (x := a) (thn (hta.run p3 _ _ _ H _ I2 reads) ?_) (he _) (hpl _)
      rintro us2 s1 ⟨ws, H1, I3, r1, hl, ea1, q⟩
      have hm := (I3.pin (h'.objs.size, PySem.W.kxs_mw "ValueError.__init__" a) (by simp)).1
      refine ⟨hm, bw_ok T I3 ea1 hm ?_ fun s' J => ?_⟩
      · rw [← Paired.length r1, sizeLine_eq]
        omega
      · refine wpAt_of_wpAny (wpAny_mono (ht.run _ s' _ H1 _ J q) ?_ (fun _ _ left => left))
        intro flow s2 post
        cases flow with
        | brk => exact (post.choose_spec.choose_spec).2.elim
        | cont => exact (post.choose_spec.choose_spec).2.elim
        | next =>
          obtain ⟨_, H2, J2, q2⟩ := post
          exact ⟨.non, H2, J2.os, J2.bare, J2.base, J2.hok, rfl, q2⟩
        | ret u =>
          obtain ⟨v, _, H2, J2, rv, q2⟩ := post
          exact ⟨v, H2, J2.os, J2.bare, J2.base, J2.hok, rv, q2⟩
end
end Ex
/-! C(.., k = v) for an exception's class C with its own __init__: what __new__ does with keywords (nothing), then __init__. -/
namespace Ex
open PySem PySem.Spec PyProof.Rows L2 Gd PySem.HandSPX
section
variable {prog : Program} {w : World} {M : Model} {A : Around} {E : Value → Shared → Prop} {R : Result → Shared → Prop} {hp : Heap} {gs : Array GenState} {dr : Drawn} {tk : Nat} {os : OsState}
variable {nm qn : Str} {C N fI : Addr} {bs bm : List Value} {hd : Bool} {sn : List Str} {sub : List Value} {ab : Bool} {col : Option Bool} {dd : Option Addr} {k0 k1 k2 k3 k5 : Option Value} {ps : List Value} {kw : List (Str × Value)}
theorem mayNew (T : ∀ X : String, bm.contains (.type X) = veTail.contains (.type X)) {Q : Unit → Shared → Prop} (at_ : hp.get? C = some (excClassObj nm qn C N bs bm hd sn sub ab col dd k0 k1 k2 k3 k5 "ValueError.__new__")) (q : Q () ⟨hp, gs, dr, tk, os⟩) :
    wpAny M A (checkBuiltinCall "ValueError.__new__" ⟨.ref C :: ps, kw⟩) Q E ⟨hp, gs, dr, tk, os⟩ := by
  have F := F.excBase_ValueError
  have has : (Value.ref C :: bm).contains (.type "ValueError") = true := by rw [List.contains_cons, T, F.hasB, Bool.or_true]
  have st := F.noStar
  simp only [checkBuiltinCall, F.newKind, F.newSplit, F.newRow]
  repeat (first | refine wpAny_loadPart_at at_ ?_ | (refine wpAny_isSubtype_exc at_ ?_; rw [has]) | refine wpAny_staticBase_exc at_ ?_ | refine wpAny_madeBy_exc at_ ?_ | simp only [bne_self_eq_false, Bool.false_eq_true, if_false] | wp_step)
  exact q
theorem doesNew (T : ∀ X : String, bm.contains (.type X) = veTail.contains (.type X)) (at_ : hp.get? C = some (excClassObj nm qn C N bs bm hd sn sub ab col dd k0 k1 k2 k3 k5 "ValueError.__new__")) (few : ps.length ≤ sizeLine)
    (q : R (.ok (.ret (.ref (hp.objs.size + 1)))) ⟨(hp.push (W.kdv_tup ps)).push (excO C hp.objs.size), gs, dr, tk, os⟩) :
    codeAny (model prog w) A (.builtin "ValueError.__new__" ⟨.ref C :: ps, kw⟩) R ⟨hp, gs, dr, tk, os⟩ := by
  have F := F.excBase_ValueError
  have ends := F.ends
  have cV : (Value.ref C :: bm).contains (.type "ValueError") = true := by rw [List.contains_cons, T, F.hasB, Bool.or_true]
  have cA : (Value.ref C :: bm).contains (.type "AttributeError") = false := by rw [List.contains_cons, T, F.noAttr]; rfl
  have cN : (Value.ref C :: bm).contains (.type "NameError") = false := by rw [List.contains_cons, T, F.noName]; rfl
  refine codeAny_builtinAt F.entry ?_
  unfold Builtin.«BaseException.__new__»
  refine _root_.PySem.wpAt_bind ?_
  show _root_.PySem.wpAt _ _ _ (stack >>= _) _ _ _
  refine _root_.PySem.wpAt_bind (_root_.PySem.wpAt_stack fun p below => _root_.PySem.wpAt_of_wpAny ?_)
  wp_walk
  refine _root_.PySem.wpAt_of_wpAny ?_
  rw [F.owner]
  repeat (first | with_reducible refine wpAny_madeHere_exc F.canon at_ ?_ | with_reducible refine wpAny_loadPart_at at_ ?_ | (with_reducible refine wpAny_isSubtype_exc at_ ?_; first | rw [cV] | rw [cA] | rw [cN]) | wp_step)
  show R _ _
  rw [Heap.size_push]
  exact q
theorem typeCalls (T : ∀ X : String, bm.contains (.type X) = veTail.contains (.type X)) {Q : Fin → Shared → Prop} (at_ : hp.get? C = some (excClassObj nm qn C N bs bm hd sn sub ab col dd k0 k1 k2 k3 k5 "ValueError.__new__"))
    (ini : W.Looks (model prog w) hp (typeLookup (.ref C) "__init__") (some (.ref fI))) (bound : ∀ self, W.Looks (model prog w) hp (bindSpecial (.ref fI) self) (.ref fI, [self])) (few : ps.length ≤ sizeLine)
    (q : codeAny (model prog w) A (.call (.ref fI) ⟨.ref (hp.objs.size + 1) :: ps, kw⟩) (fun r s' => match r with | .ok (.ret v) => v = .none ∧ Q (.done (.ret (.ref (hp.objs.size + 1)))) s' | .ok _ => False | .error e => E e s')
      ⟨(hp.push (W.kdv_tup ps)).push (excO C hp.objs.size), gs, dr, tk, os⟩) : wpAny (model prog w) A (Builtin.«type.__call__» ⟨.ref C :: ps, kw⟩) Q E ⟨hp, gs, dr, tk, os⟩ := by
  repeat (first | with_reducible refine wpAny_loadPart_at at_ ?_ | with_reducible refine wpAny_madeBy_exc at_ ?_ | wp_step)
  refine codeAny_call_builtin_code (Code.quiet_builtin _ F.excBase_ValueError.quiet) (mayNew T at_ ?_)
  refine doesNew T at_ few ?_
  show wpAny _ _ _ _ _ _
  have kept : ∀ b o, hp.get? b = some o → ((hp.push (W.kdv_tup ps)).push (excO C hp.objs.size)).get? b = some o := fun b o e => Heap.get?_push_of_some _ (Heap.get?_push_of_some _ e)
  have at1 := kept _ _ at_
  have new : ((hp.push (W.kdv_tup ps)).push (excO C hp.objs.size)).get? (hp.objs.size + 1) = some (excO C hp.objs.size) := by heap_get
  have self : (Value.ref C :: bm).contains (.ref C) = true := by simp
  have i1 := ini.keeps kept
  have b1 := (bound (.ref (hp.objs.size + 1))).keeps kept
  unfold isInstance
  repeat (first | with_reducible refine wpAny_loadPart_at new ?_ | (with_reducible refine wpAny_isSubtype_exc at1 ?_; rw [self]) | wp_step)
  show wpAny _ _ (typeLookup (.ref C) _) _ _ _
  refine i1.at ?_
  refine wpAny_holding (wpAny_bind (b1.at ?_))
  refine wpAny_bind (wpAny_call (codeAny_mono q fun r s' z => ?_))
  rcases r with e | (v | _ | _ | _) <;> first | exact z | exact z.elim | skip
  obtain ⟨rfl, z⟩ := z
  first
    | exact wpAny_pure (wpAny_pure z)
    | (wp_walk; exact z)
theorem mayCall {Q : Unit → Shared → Prop} {newId : String} (at_ : hp.get? C = some (excClassObj nm qn C N bs bm hd sn sub ab col dd k0 k1 k2 k3 k5 newId)) (q : Q () ⟨hp, gs, dr, tk, os⟩) :
    wpAny M A (checkBuiltinCall "type.__call__" ⟨.ref C :: ps, kw⟩) Q E ⟨hp, gs, dr, tk, os⟩ := by
  have f3 := tc_sub
  have ty : (⟨hp, gs, dr, tk, os⟩ : Shared).TypeIs (.ref C) "type" := ⟨_, at_, rfl⟩
  simp only [checkBuiltinCall, tc_kind, tc_split]
  repeat (any_goals (first | assumption | with_reducible refine wpAny_loadPart_at at_ ?_ | with_reducible refine wpAny_onRaise ?_ | with_reducible refine wpAny_map ?_ | wp_step))
/-- the class called with keywords: its __init__ gets them -/
theorem classCalled (T : ∀ X : String, bm.contains (.type X) = veTail.contains (.type X)) (at_ : hp.get? C = some (excClassObj nm qn C N bs bm hd sn sub ab col dd k0 k1 k2 k3 k5 "ValueError.__new__"))
    (ini : W.Looks (model prog w) hp (typeLookup (.ref C) "__init__") (some (.ref fI))) (bound : ∀ self, W.Looks (model prog w) hp (bindSpecial (.ref fI) self) (.ref fI, [self])) (few : ps.length ≤ sizeLine)
    (q : codeAny (model prog w) (A.under (.builtin "type.__call__" ⟨.ref C :: ps, kw⟩)) (.call (.ref fI) ⟨.ref (hp.objs.size + 1) :: ps, kw⟩) (W.InitBack (hp.objs.size + 1) R) ⟨(hp.push (W.kdv_tup ps)).push (excO C hp.objs.size), gs, dr, tk, os⟩) :
    codeAny (model prog w) A (.call (.ref C) ⟨ps, kw⟩) R ⟨hp, gs, dr, tk, os⟩ := by
  have f1 := tc_lookup
  have f2 := tc_bind (.ref C)
  have ty : (⟨hp, gs, dr, tk, os⟩ : Shared).TypeIs (.ref C) "type" := ⟨_, at_, rfl⟩
  refine codeAny_of_tree ?_
  show wpAny _ _ (callAny (.ref C) _) _ _ _
  repeat (any_goals (first | assumption | with_reducible refine wpAny_loadPart_at at_ ?_ | wp_step))
  refine ⟨rfl, ?_⟩
  refine codeAny_call_builtin_at (Code.quiet_builtin _ (by decide +kernel)) entry_typeCall (mayCall at_ (typeCalls T at_ ini bound few ?_))
  refine codeAny_mono q fun r s' z => ?_
  rcases r with e | (v | _ | _ | _) <;> exact z
end
end Ex
/-! An own exception made as a value: C(e, ..), C(k = e, ..), C(), C's __init__ keeping a promise where no repr is under way. -/
namespace Ex
open PySem PySem.Spec PyProof.Rows L2 Gd
section
variable {X : Cx} {CX : CXT} {k : Nat} {fI C : Addr} {fd : FuncData} {ps : List Str} {sp : Sp} {x : Str} {p pos : Pos} {e : Expr} {es : List Expr} {ta tk : TA}
/-- what the written part says of the class: it is one of ours, its __init__ is the function at fI -/
structure Own (K : PySem.W.Frag) (C fI : Addr) : Prop where
  oex : OexC K C
  ini : PySem.W.findIn K (.ref C) "__init__" = some (some (.ref fI))
  fn : PySem.W.typeIn K (.ref fI) = some (.type "function")
theorem run_newE {pins : List (Addr × Obj)} {σ : L2.St} {H : Hp} {s : Shared} {Q : VK} {us gs : List Value} {kw : List (Str × Value)} {vs : List V} (O : Own X.K C fI) (Fn : FnG X.prog X.w X.K X.mg X.base CX k fI fd ps sp) (room : Room (k + 1) X.A) (gd : X.A.guards = some [])
    (pass : Passes CX X fun _ _ _ => False) (bind : ∀ (s : Shared) (self : Value), X.K.In s.heap → BindsTo s fd ⟨self :: us, kw⟩ (ps.zip (self :: gs))) (I : Inv X pins σ H s) (rel : Vals vs gs) (few : us.length ≤ sizeLine)
    (want : ∀ a, H a = none → sp (.ref a :: vs) (upd H a (exo a C none)) (fun v H2 => v = .non ∧ Q (.ref a) H2) fun _ _ _ => False) :
    wpAny (model X.prog X.w) X.A (call (.ref C) us kw) (EP X pins σ Q) X.xe s := by
  obtain ⟨nm, qn, N, bs, bm, sn, sub, ab, col, dd, k0, k1, k2, k3, k5, at_, ve⟩ := O.oex.cls
  obtain ⟨hp, g, dr, tk, os⟩ := s
  have le : hp.objs.size ≤ hp.objs.size + 1 := Nat.le_succ _
  have fresh : H (hp.objs.size + 1) = none := I.hok.fresh le
  have q := want (hp.objs.size + 1) fresh
  have kept : ∀ b o, hp.get? b = some o → ((hp.push (PySem.W.kdv_tup us)).push (PySem.HandSPX.excO C hp.objs.size)).get? b = some o := fun b o e => Heap.get?_push_of_some _ (Heap.get?_push_of_some _ e)
  have new : ((hp.push (PySem.W.kdv_tup us)).push (PySem.HandSPX.excO C hp.objs.size)).get? (hp.objs.size + 1) = some (PySem.HandSPX.excO C hp.objs.size) := by heap_get
  have I2 : Inv X pins σ (upd H (hp.objs.size + 1) (exo (hp.objs.size + 1) C none)) ⟨(hp.push (PySem.W.kdv_tup us)).push (PySem.HandSPX.excO C hp.objs.size), g, dr, tk, os⟩ :=
    I.laid (t' := tk) (o := exo (hp.objs.size + 1) C none) kept le (exo_ok new)
  refine wpAny_call (classCalled (fun Y => PySem.HandSPX.refsVE_contains Y bm ve) (I.kIn _ _ at_) (PySem.W.looks_findIn I.kIn O.ini) (fun self => PySem.W.bind_fn I.kIn self O.fn) few ?_)
  refine codeAny_mono (Fn.go _ (room.make C us kw) ?_ X.stack _ _ _ (.ref (hp.objs.size + 1) :: gs) _ _ (fun _ _ _ => False) (I2.env0.make C us kw) (bind _ _ I2.kIn) (.cons (show RelV (V.ref (hp.objs.size + 1)) (.ref (hp.objs.size + 1)) from rfl) rel) q) fun r s' got => ?_
  · rw [PySem.Around.under, gd]
    rfl
  · rcases r with er | fl
    · exact pass pins σ _ _ er s' I2 got
    · cases fl with
      | next => exact False.elim got
      | brk => exact False.elim got
      | cont => exact False.elim got
      | ret u =>
        obtain ⟨v, H2, os2, bare2, un2, hok2, rv, ev, q2⟩ := got
        subst ev
        exact ⟨rv, .ref (hp.objs.size + 1), H2, I2.call' (ch := []) os2 un2 hok2 bare2 (fun b z => absurd z (by simp)), rfl, q2⟩
/-- C(e, ..) -/
def tNewE (C : Addr) (sp : Sp) (ta : TA) : TE := fun σ H Q => ta σ H fun vs H1 => vs.length ≤ 1000 ∧ ∀ a, H1 a = none → sp (.ref a :: vs) (upd H1 a (exo a C none)) (fun v H2 => v = .non ∧ Q (.ref a) H2) fun _ _ _ => False
theorem few_of {vs : List V} {us : List Value} (r : Vals vs us) (h : vs.length ≤ 1000) : us.length ≤ sizeLine := by
  rw [← Paired.length r, sizeLine_eq]
  omega
theorem pe_newE (O : Own X.K C fI) (kC : PySem.W.keepIn X.K (.ref C) = true) (Fn : FnG X.prog X.w X.K X.mg X.base CX k fI fd ps sp) (room : Room (k + 1) X.A) (gd : X.A.guards = some []) (pass : Passes CX X fun _ _ _ => False)
    (isGl : Gl X x) (at_ : X.mg x = some (.ref C)) (bind : ∀ (s : Shared) (self : Value) (us : List Value), us.length + 1 = ps.length → X.K.In s.heap → BindsTo s fd ⟨self :: us, []⟩ (ps.zip (self :: us))) (args : PA X (e :: es) ta)
    (nodbg : (x == ("__debug__" : Str)) = false := by decide) (star : starEach (e :: es) X.env = (false, eval e X.env) :: starEach es X.env := by rfl) (plain : (backTo pos (starEach es X.env)).any (·.1) = false := by rfl) :
    PE X (.Call (.Name x p) (e :: es) [] pos) (tNewE C sp ta) := by
  constructor
  intro pins s σ H Q I want
  refine wpAny_Call_Name_kw (ld_glob I isGl at_ ?_ nodbg)
  refine PySem.W.callWith_K (h₀ := X.base) I.ok.mod.kin kC (thn (args.run pos pins s σ H _ I want) ?_) star plain
  rintro us s1 ⟨vs, H1, I1, rel, few, q⟩
  refine ⟨I1.kIn, run_newE O Fn room gd pass (fun s self inK => bind s self us ?_ inK) I1 rel (few_of rel few) q⟩
  have n := Fn.arity _ _ _ _ (q (s1.heap.objs.size) (I1.hok.fresh (Nat.le_refl _)))
  rw [← n, List.length_cons, Paired.length rel]
/-- C(k = e, ..): the values in the parameters' order -/
def tNewK (C : Addr) (sp : Sp) (gV : List V → List V) (tk : TA) : TE := fun σ H Q => tk σ H fun zs H1 => ∀ a, H1 a = none → sp (.ref a :: gV zs) (upd H1 a (exo a C none)) (fun v H2 => v = .non ∧ Q (.ref a) H2) fun _ _ _ => False
theorem pe_newK {ks : List Str} {kws : List Keyword} {g : List Value → List Value} {gV : List V → List V} (O : Own X.K C fI) (kC : PySem.W.keepIn X.K (.ref C) = true) (Fn : FnG X.prog X.w X.K X.mg X.base CX k fI fd ps sp) (room : Room (k + 1) X.A) (gd : X.A.guards = some []) (pass : Passes CX X fun _ _ _ => False)
    (isGl : Gl X x) (at_ : X.mg x = some (.ref C)) (bind : ∀ (s : Shared) (self : Value) (ws : List Value), (g ws).length + 1 = ps.length → X.K.In s.heap → BindsTo s fd ⟨[self], ks.zip ws⟩ (ps.zip (self :: g ws))) (turn : ∀ {zs : List V} {ws : List Value}, Vals zs ws → Vals (gV zs) (g ws))
    (words : PK X kws tk) (every : (backToKw pos (keywordEach kws X.env)).all (·.1.isSome) = true := by rfl) (names : (backToKw pos (keywordEach kws X.env)).filterMap (·.1) = ks := by rfl) (nodbg : (x == ("__debug__" : Str)) = false := by decide)
    (plain : ((backTo pos (starEach [] X.env)).any (·.1) || (backToKw pos (keywordEach kws X.env)).any (·.1.isNone)) = false := by rfl) :
    PE X (.Call (.Name x p) [] kws pos) (tNewK C sp gV tk) := by
  constructor
  intro pins s σ H Q I want
  refine wpAny_Call_Name_kw (ld_glob I isGl at_ ?_ nodbg)
  refine PySem.W.callWith_KW0 (h₀ := X.base) I.ok.mod.kin kC every ?_ plain
  refine thn (words.run pos pins s σ H _ I want) ?_
  rintro ws s2 ⟨zs, H2, I2, rel, q⟩
  refine ⟨I2.kIn, ?_⟩
  rw [names]
  refine run_newE (us := []) O Fn room gd pass (fun s self inK => bind s self ws ?_ inK) I2 (turn rel) (Nat.zero_le _) q
  have n := Fn.arity _ _ _ _ (q (s2.heap.objs.size) (I2.hok.fresh (Nat.le_refl _)))
  rw [← n, List.length_cons, Paired.length (turn rel)]
/-- C() -/
theorem pe_new0 (O : Own X.K C fI) (kC : PySem.W.keepIn X.K (.ref C) = true) (Fn : FnG X.prog X.w X.K X.mg X.base CX k fI fd ps sp) (room : Room (k + 1) X.A) (gd : X.A.guards = some []) (pass : Passes CX X fun _ _ _ => False)
    (isGl : Gl X x) (at_ : X.mg x = some (.ref C)) (bind : ∀ (s : Shared) (self : Value), X.K.In s.heap → BindsTo s fd ⟨[self], []⟩ (ps.zip [self])) (nodbg : (x == ("__debug__" : Str)) = false := by decide) :
    PE X (.Call (.Name x p) [] [] pos) (tNewE C sp tNil) := by
  constructor
  intro pins s σ H Q I want
  refine wpAny_Call_Name_kw (ld_glob I isGl at_ ?_ nodbg)
  exact PySem.W.callWith_K0 I.kIn kC (run_newE (us := []) O Fn room gd pass bind I .nil (Nat.zero_le _) want.2)
end
end Ex
/-! Data that may hold dicts with one text as their key: how it is read, shown; what an own exception says of itself. -/
namespace Ex
open PySem PySem.Spec PyProof.Rows L2 Gd
mutual
/-- data that stands off the addresses av -/
inductive Dq (av : List Addr) (H : Hp) : V → PyData → Prop
  | non : Dq av H .non .none
  | bl (b : Bool) : Dq av H (.bl b) (.bool b)
  | int (i : Int) : Dq av H (.int i) (.int i)
  | str (x : Str) : Dq av H (.str x) (.str x)
  | lst {a : Addr} {xs : List V} {ds : List PyData} : a ≠ sysModules → a ∉ av → H a = some (.lst xs) → DqAll av H xs ds → Dq av H (.ref a) (.list ds)
  | tup {a : Addr} {xs : List V} {ds : List PyData} : a ∉ av → H a = some (.tup xs) → DqAll av H xs ds → Dq av H (.ref a) (.tuple ds)
  | dnil {a : Addr} : a ∉ av → H a = some (.dK []) → Dq av H (.ref a) (.dict [])
  | done {a : Addr} {k : Str} {x : V} {d : PyData} : a ∉ av → H a = some (.dK [(.inr k, x)]) → Dq av H x d → Dq av H (.ref a) (.dict [(.str k, d)])
inductive DqAll (av : List Addr) (H : Hp) : List V → List PyData → Prop
  | nil : DqAll av H [] []
  | cons {v : V} {vs : List V} {d : PyData} {ds : List PyData} : Dq av H v d → DqAll av H vs ds → DqAll av H (v :: vs) (d :: ds)
end
/-- the old objects stand as they stood, but perhaps those at av -/
def But (av : List Addr) (H H' : Hp) : Prop := ∀ b o, b ∉ av → H b = some o → H' b = some o
theorem But.of {av : List Addr} {H H' : Hp} (e : ∀ b o, H b = some o → H' b = some o) : But av H H' := fun b o _ h => e b o h
mutual
theorem Dq.keep {av : List Addr} {H H' : Hp} (e : But av H H') : ∀ {v : V} {d : PyData}, Dq av H v d → Dq av H' v d
  | _, _, .non => .non
  | _, _, .bl b => .bl b
  | _, _, .int i => .int i
  | _, _, .str x => .str x
  | _, _, .lst n q h r => .lst n q (e _ _ q h) (DqAll.keep e r)
  | _, _, .tup q h r => .tup q (e _ _ q h) (DqAll.keep e r)
  | _, _, .dnil q h => .dnil q (e _ _ q h)
  | _, _, .done q h r => .done q (e _ _ q h) (Dq.keep e r)
theorem DqAll.keep {av : List Addr} {H H' : Hp} (e : But av H H') : ∀ {vs : List V} {ds : List PyData}, DqAll av H vs ds → DqAll av H' vs ds
  | _, _, .nil => .nil
  | _, _, .cons a b => .cons (Dq.keep e a) (DqAll.keep e b)
end
section
variable {av : List Addr} {X : Cx} {pins : List (Addr × Obj)} {σ : L2.St} {H : Hp} {s : Shared}
mutual
theorem Dq.reads (I : Inv X pins σ H s) : ∀ {v : V} {d : PyData} {u : Value}, Dq av H v d → RelV v u → ∃ as, Reads s.heap u d as ∧ sysModules ∉ as
  | _, _, _, .non, r => by
    cases (show _ = Value.none from r)
    exact ⟨_, .none, by simp⟩
  | _, _, _, .bl b, r => by
    cases (show _ = Value.bool b from r)
    exact ⟨_, .bool b, by simp⟩
  | _, _, _, .int i, r => by
    obtain ⟨t, rfl⟩ := (show ∃ t, _ = Value.int i t from r)
    exact ⟨_, .int i t, by simp⟩
  | _, _, _, .str x, r => by
    obtain ⟨t, rfl⟩ := (show ∃ t, _ = Value.str x t from r)
    exact ⟨_, .str x t, by simp⟩
  | _, _, _, @Dq.lst _ _ a _ _ n _ h m, r => by
    cases (show _ = Value.ref a from r)
    obtain ⟨its, rv, ⟨o, k, ho, hc, _, hd⟩, _⟩ := I.list (.inl (.inl h))
    obtain ⟨as, hr, q⟩ := DqAll.reads I m rv
    refine ⟨_, .list ho hc hd hr, fun z => ?_⟩
    rcases List.mem_cons.mp z with z | z
    · exact n z.symm
    · exact q z
  | _, _, _, @Dq.tup _ _ a _ _ _ h m, r => by
    cases (show _ = Value.ref a from r)
    obtain ⟨its, rv, ⟨o, ho, hc, k, hd⟩, _⟩ := I.tuple (.inl (.inl h))
    obtain ⟨as, hr, q⟩ := DqAll.reads I m rv
    exact ⟨_, .tuple ho hc hd hr, q⟩
  | _, _, _, @Dq.dnil _ _ a _ h, r => by
    cases (show _ = Value.ref a from r)
    obtain ⟨_, ns, vs, kv, o, es, ep, ho, hx, hd, _, hp, _⟩ := dk_of I.hok h
    cases kv
    generalize hl : es.toList = l at hp
    cases hp
    refine ⟨_, .dict ho hx.1 hd (kvs := []) (by rw [hl]; exact .nil) (by rw [hl]; exact .nil), fun z => ?_⟩
    have z' : sysModules = a := by simpa using z
    rw [z'] at ns
    simp at ns
  | _, _, _, @Dq.done _ _ a k x d _ h m, r => by
    cases (show _ = Value.ref a from r)
    obtain ⟨_, ns, vs, kv, o, es, ep, ho, hx, hd, _, hp, _⟩ := dk_of I.hok h
    cases kv with
    | @cons _ q _ _ q1 q2 =>
      cases q2
      generalize hl : es.toList = l at hp
      cases hp with
      | @cons e _ _ _ h1 h2 h3 =>
        cases h3
        obtain ⟨e1, e2⟩ := q1
        have hk : ∃ t, e.key = Value.str k t := by
          rw [← e1] at h1
          rcases keyIs_shape (show keyIs (.inr k) e.key = true from h1) with ⟨i, t, z, _⟩ | ⟨y, t, z, w⟩
          · cases z
          · cases z
            exact ⟨t, w⟩
        obtain ⟨t, hk⟩ := hk
        obtain ⟨as, hr, n⟩ := Dq.reads I m (show RelV x e.val by rw [h2]; exact e2)
        refine ⟨_, .dict ho hx.1 hd (kvs := [(.str k, d)]) (by rw [hl]; show ReadsAll _ [e.key] _ _; rw [hk]; exact .cons (.str k t) .nil) (by rw [hl]; exact .cons hr .nil), fun z => ?_⟩
        have z' : sysModules = a ∨ sysModules ∈ as := by simpa using z
        rcases z' with z' | z'
        · rw [z'] at ns
          simp at ns
        · exact n z'
theorem DqAll.reads (I : Inv X pins σ H s) : ∀ {vs : List V} {ds : List PyData} {us : List Value}, DqAll av H vs ds → Vals vs us → ∃ as, ReadsAll s.heap us ds as ∧ sysModules ∉ as
  | _, _, _, .nil, r => by
    cases r
    exact ⟨_, .nil, by simp⟩
  | _, _, _, .cons a b, r => by
    cases r with
    | cons r1 r2 =>
      obtain ⟨as, q1, n1⟩ := Dq.reads I a r1
      obtain ⟨bs, q2, n2⟩ := DqAll.reads I b r2
      exact ⟨_, .cons q1 q2, fun z => (List.mem_append.mp z).elim n1 n2⟩
end
end
end Ex
namespace Ex
open PySem PySem.Spec PyProof.Rows L2 Gd
section
variable {X : Cx}
/-- data that can be shown -/
def Shows (av : List Addr) (H : Hp) (x : V) (d : PyData) : Prop := Dq av H x d ∧ d.showable = true ∧ d.depth ≤ 40 ∧ d.shown.length ≤ sizeLine
def rReprQ : List V → Hp → VK → Prop := fun xs H Q => ∃ av x d, xs = [x] ∧ Shows av H x d ∧ Q (.str d.shown) H
theorem call_reprQ (gd : X.A.guards = some []) (un : X.A.units + 64 < cLine) : CallR X (.builtin "repr") rReprQ := by
  rintro pins s σ H xs us Q I rel ⟨av, x, d, rfl, ⟨hd, sh, dep, sz⟩, q⟩
  obtain ⟨u, rfl, rv⟩ := vals1 rel
  obtain ⟨as, reads, nsys⟩ := Dq.reads I hd rv
  have big : ∀ {a : Addr}, u = .ref a → wpAny (model X.prog X.w) X.A (call (.builtin "repr") [u]) (EP X pins σ Q) X.xe s := fun e => by
    subst e
    exact repr_of_reads' reads sh (fun _ => nsys) gd (by omega) (fun _ _ e => e) (fun h2 u2 tk keep => ⟨.str _, H, I.kept keep, ⟨u2, rfl⟩, q⟩) sz
  cases hd with
  | non =>
    cases rv
    exact PySem.P.repr_of_none ⟨.str "None", H, I.tok _, ⟨_, rfl⟩, q⟩
  | bl b =>
    cases rv
    exact PySem.P.repr_of_bool ⟨.str (if b then "True" else "False"), H, I.tok _, ⟨_, rfl⟩, q⟩
  | int i =>
    obtain ⟨t, rfl⟩ := rv
    refine PySem.P.repr_of_int ?_ ⟨.str _, H, I.tok _, ⟨_, rfl⟩, q⟩
    simpa [PyData.showable] using sh
  | str z =>
    obtain ⟨t, rfl⟩ := rv
    exact PySem.P.repr_of_str ⟨.str _, H, I.tok _, ⟨_, rfl⟩, q⟩ sz
  | lst _ _ _ _ => exact big rv
  | tup _ _ _ => exact big rv
  | dnil _ _ => exact big rv
  | done _ _ _ => exact big rv
/-- {x!r} -/
def tFmtQ (te : TE) : TE := fun σ H Q => te σ H fun x H1 => ∃ av d, Shows av H1 x d ∧ Q (.str d.shown) H1
theorem pe_fmtQ {e : Expr} {te : TE} {pos : Pos} (gd : X.A.guards = some []) (un : X.A.units + 64 < cLine) (he : PE X e te) : PE X (.FormattedValue e 114 none pos) (tFmtQ te) := by
  constructor
  intro pins s σ H Q I want
  refine wpAny_FormattedValue_repr (thn (he.run pins s σ H _ I want) ?_)
  rintro u s1 ⟨x, H1, I1, rv, av, d, ⟨hd, sh, dep, sz⟩, q⟩
  obtain ⟨as, reads, nsys⟩ := Dq.reads I1 hd rv
  have big : ∀ {a : Addr}, u = .ref a → wpAny (model X.prog X.w) X.A (pyReprObj u) (fun v s2 => wpAny (model X.prog X.w) X.A (formatField v Str.empty) (EP X pins σ Q) X.xe s2) X.xe s1 := fun e => by
    subst e
    exact pyReprObj_of_reads reads sh (fun _ => nsys) gd (by omega) (fun _ _ e => e) (fun h2 u2 tk keep => wpAny_formatField_str ⟨.str _, H1, I1.kept keep, ⟨_, rfl⟩, q⟩ ⟨.str _, H1, I1.kept keep, ⟨_, rfl⟩, q⟩ sz) sz
  cases hd with
  | non =>
    cases rv
    exact pyReprObj_none (wpAny_formatField_str ⟨.str "None", H1, I1.tok _, ⟨_, rfl⟩, q⟩ ⟨.str "None", H1, I1.tok _, ⟨_, rfl⟩, q⟩ sz)
  | bl b =>
    cases rv
    exact pyReprObj_bool (wpAny_formatField_str ⟨.str (if b then "True" else "False"), H1, I1.tok _, ⟨_, rfl⟩, q⟩ ⟨.str (if b then "True" else "False"), H1, I1.tok _, ⟨_, rfl⟩, q⟩ sz)
  | int i =>
    obtain ⟨t, rfl⟩ := rv
    exact pyReprObj_int (by simpa [PyData.showable] using sh) (wpAny_formatField_str ⟨.str _, H1, I1.tok _, ⟨_, rfl⟩, q⟩ ⟨.str _, H1, I1.tok _, ⟨_, rfl⟩, q⟩ sz)
  | str z =>
    obtain ⟨t, rfl⟩ := rv
    exact pyReprObj_str (wpAny_formatField_str ⟨.str _, H1, I1.tok _, ⟨_, rfl⟩, q⟩ ⟨.str _, H1, I1.tok _, ⟨_, rfl⟩, q⟩ sz) sz
  | lst _ _ _ _ => exact big rv
  | tup _ _ _ => exact big rv
  | dnil _ _ => exact big rv
  | done _ _ _ => exact big rv
/-- err.f, err an exception of ours that is held as a value -/
def tEf (K : PySem.W.Frag) (f : Str) (te : TE) : TE := fun σ H Q => te σ H fun x H1 => ∃ (a C dd : Addr) (fs : List (Str × V)) (v : V), x = .ref a ∧ XfC K C ∧ PySem.W.findIn K (.ref C) f = some none ∧ H1 a = some (exo a C (some dd)) ∧ H1 dd = some (exd dd fs) ∧ fs.lookup f = some v ∧ Q v H1
theorem pe_ef {e : Expr} {te : TE} {pos : Pos} {f : Str} (he : PE X e te) (hb : attributeBase e f X.env (eval e X.env) = eval e X.env := by rfl) : PE X (.Attribute e f pos) (tEf X.K f te) := by
  constructor
  intro pins s σ H Q I want
  refine attr_of hb (thn (he.run pins s σ H _ I want) ?_)
  rintro u s1 ⟨x, H1, I1, rx, a, C, dd, fs, v, rfl, T, no, ea, ed, l, q⟩
  cases (show u = Value.ref a from rx)
  obtain ⟨t1, at_⟩ := exo_at I1.hok ea
  obtain ⟨mA, ns, rel⟩ := exd_at I1.hok ed
  obtain ⟨od, ho, hl⟩ := lookIn_ns ns
  obtain ⟨u2, hu, ru⟩ := RelO.some_of (v := v) (o := mA f) (by rw [← l]; exact rel f)
  have J : PySem.W.InstAt s1.heap a _ C (some od) := ⟨at_, rfl, rfl, ho⟩
  exact HandSPX.exc_get I1.kIn J T.ga T.gg T.exC (PySem.W.findObj_own T.hdC no rfl (by rw [hl, hu])) (handed_of ru) ⟨v, H1, I1.tok _, ru, q⟩
/-- an exception of the class at C stands at a -/
def Held (H : Hp) (a C : Addr) : Prop := H a = some (exo a C none) ∨ ∃ dd fs, H a = some (exo a C (some dd)) ∧ H dd = some (exd dd fs)
def rIsiE (K : PySem.W.Frag) : List V → Hp → VK → Prop := fun xs H Q => ∃ (a C : Addr) (c : V) (u : Value) (b : Bool), xs = [.ref a, c] ∧ ClsV c u ∧ Held H a C ∧ ExcC K C ∧ PySem.W.kitOne K (.ref C) u = some b ∧ Q (.bl b) H
theorem call_isiE : CallR X (.builtin "isinstance") (rIsiE X.K) := by
  rintro pins s σ H xs us Q I rel ⟨a, C, c, w, b, rfl, k, held, T, e, q⟩
  obtain ⟨u1, u2, rfl, r1, r2⟩ := vals2 rel
  have e2 := k.eq r2
  subst e2
  cases (show u1 = Value.ref a from r1)
  have cl : (PySem.W.clsIn X.K C).isSome = true := by
    obtain ⟨cd, hc, _⟩ := PySem.W.any_some T.hd
    rw [hc]
    rfl
  rcases held with ea | ⟨dd, fs, ea, ed⟩
  · obtain ⟨t1, at_⟩ := exo_at I.hok ea
    exact PySem.W.kia_one (PySem.W.kitx_exc (od := none) cl T.hg T.hk T.hs T.ha T.hn T.ht T.hm) I.kIn ⟨at_, rfl, rfl, trivial⟩ e (fun z => nomatch z) fun tk => ⟨.bl b, H, I.tok tk, rfl, q⟩
  · obtain ⟨t1, at_⟩ := exo_at I.hok ea
    obtain ⟨mA, ns, rel2⟩ := exd_at I.hok ed
    obtain ⟨od, ho, hl⟩ := lookIn_ns ns
    exact PySem.W.kia_one (PySem.W.kitx_exc (od := some od) cl T.hg T.hk T.hs T.ha T.hn T.ht T.hm) I.kIn ⟨at_, rfl, rfl, ho⟩ e (fun z => nomatch z) fun tk => ⟨.bl b, H, I.tok tk, rfl, q⟩
/-- C(), a class of ours over ValueError without its own __init__ -/
def tBare (C : Addr) : TE := fun _ H Q => ∀ a, H a = none → Q (.ref a) (upd H a (exo a C none))
theorem pe_bare {C : Addr} {x : Str} {p pos : Pos} {bmB : List Value} {B newId initId : String} (F : ExcBaseFacts B newId initId bmB) (cls : PySem.W.excIn X.K C bmB newId = true) (isGl : Gl X x) (at_ : X.mg x = some (.ref C)) (kC : PySem.W.keepIn X.K (.ref C) = true) (nodbg : (x == ("__debug__" : Str)) = false := by decide) :
    PE X (.Call (.Name x p) [] [] pos) (tBare C) := by
  constructor
  intro pins s σ H Q I want
  refine wpAny_Call_Name_kw (ld_glob I isGl at_ ?_ nodbg)
  refine PySem.W.callWith_K0 I.kIn kC ?_
  obtain ⟨bm, N, nm, qn, bs, hdct, sn, sub, ab, col, dd, k0, k1, k2, k3, k5, mN, hC, hN, hni, T⟩ := exc_obj I.kIn cls
  refine wpAny_call_exc_subT F T hC hN hni (fun h' a hm => ?_) (Nat.zero_le _)
  have n : H a = none := I.hok.gone hm.new
  obtain ⟨t, ht, _, _⟩ := hm.there
  exact ⟨.ref a, upd H a (exo a C none), I.laidN hm.keeps hm.new n (exo_ok ht), rfl, want a n⟩
end
end Ex
/-! An exception that was caught and is kept by a name: try: body / except C as n: y = n. -/
namespace Ex
open PySem PySem.Spec PyProof.Rows L2 Gd
/-- an exception's object that was in the air: its class and its dict are known -/
def exz (e : Addr) (cls : Value) (d : Option Addr) : HO := .ext fun h => ∃ (o : Obj) (vs : Array Value), h.get? e = some o ∧ Zc cls d o ∧ o.data = .fields vs
theorem exz_ok {P : Program} {w : World} {H : Hp} {h : Heap} {e : Addr} {cls : Value} {d : Option Addr} {o : Obj} {vs : Array Value} (he : h.get? e = some o) (hz : Zc cls d o) (hd : o.data = .fields vs) : ObjOk P w H h e (exz e cls d) :=
  ⟨⟨o, vs, he, hz, hd⟩, ⟨o, he⟩, fun h1 h2 ⟨o, vs, a, b, c⟩ st => ⟨o, vs, st _ a, b, c⟩⟩
theorem exz_at {P : Program} {w : World} {H : Hp} {h : Heap} {e : Addr} {cls : Value} {d : Option Addr} (hok : HOk P w H h) (he : H e = some (exz e cls d)) : ∃ (o : Obj) (vs : Array Value), h.get? e = some o ∧ Zc cls d o ∧ o.data = .fields vs := (hok _ _ he).1
theorem exz_no {e : Addr} {cls : Value} {d : Option Addr} {u : HO} (h : match u with | .ext _ => False | _ => True) : exz e cls d ≠ u := fun z => by
  unfold exz at z
  rw [← z] at h
  exact h
section
variable {X : Cx} {pins : List (Addr × Obj)} {σ : L2.St} {H : Hp} {s : Shared}
/-- what was not there when the def began may be known from now on -/
theorem learn {a : Addr} {o : HO} (I : Inv X pins σ H s) (new : X.s_0.heap.get? a = none) (na : H a = none) (nL : a ≠ X.env.locals) (nC : ∀ x c, X.env.cells.lookup x = some c → c ≠ a) (nP : ∀ p ∈ X.pn ++ pins, p.1 ≠ a) (ok : ObjOk X.prog X.w (upd H a o) s.heap a o) : Inv X pins σ (upd H a o) s := by
  have same : ∀ b u, H b = some u → upd H a o b = some u := fun b u e => by rw [upd_ne (ne_of_none e na)]; exact e
  refine ⟨I.ok, I.os, I.bare, ⟨I.base.keep, I.base.slot, fun b u e n hx => ?_, I.base.there, fun b xs e => same _ _ (I.base.tups b xs e), fun b u v e => same _ _ (I.base.frzs b u v e), fun b qs e => ?_⟩, I.loc, I.cell, ?_, fun x c e => ?_, fun p hp => ?_, fun b u e => ?_, I.len⟩
  · by_cases z : b = a
    · rw [z, new] at e
      cases e
    · rw [upd_ne z]
      exact I.base.free b u e n hx
  · obtain ⟨more, q⟩ := I.base.tbls b qs e
    exact ⟨more, same _ _ q⟩
  · rw [upd_ne (Ne.symm nL)]
    exact I.free
  · rw [upd_ne (nC x c e)]
    exact I.freeC x c e
  · obtain ⟨e, n, r⟩ := I.pin p hp
    exact ⟨e, by rw [upd_ne (nP p hp)]; exact n, r⟩
  · by_cases z : b = a
    · rw [z, upd_same] at e
      cases e
      rw [z]
      exact ok
    · rw [upd_ne z] at e
      exact (I.hok b u e).stay (fun _ _ _ q => q) (fun _ q => same _ _ q) fun _ _ q => same _ _ q
end
/-- what 'except x as n: y = n' wishes: slot i is n's, slot j is y's -/
def wKept (K : PySem.W.Frag) (c : Value) (i j : Nat) (Wout : WX) (D : Ends) : WX := fun cls d σ H =>
  ∃ b, PySem.W.exmOne K cls c = some b ∧ (b = true → ∀ a, H a = none → D.nx ((σ.set j (some (.ref a))).set i none) (upd H a (exz a cls d))) ∧ (b = false → Wout cls d σ H)
section
variable {X : Cx} {x n y : Str} {c : Value} {i j : Nat} {body : List Stmt} {np q1 q2 q3 pos pos' : Pos} {tb : WX → TS} {Wout : WX}
theorem ps_tryK (hs : X.stack = X.env :: X.outer) (hf : X.env.frame = some X.env.locals) (hex : X.ex = []) (hN : X.N.Nodup) (hi : X.N[i]? = some n) (hj : X.N[j]? = some y) (hij : j ≠ i) (hln : X.env.kindOf n = some .local) (hvn : Vis X.env.scope n) (hly : X.env.kindOf y = some .local) (hdn : (n == ("__debug__" : Str)) = false := by decide) (hcn : (n == ("__classdict__" : Str)) = false := by decide) (hc : Names X x c) (tk : Takes X Wout)
    (hb : ∀ (W : WX) (pn : List (Addr × Obj)) (xe : Value → Shared → Prop), Takes (X.tr pn xe) W → PassesOwn (model X.prog X.w) X.A X.env xe → PSs (X.tr pn xe) body (tb W)) :
    PS X (.Try body [.ExceptHandler (some (.Name x np)) (some n) [.Assign [.Name y q1] (.Name n q2) q3] pos'] [] [] pos) (fun D σ H => tb (wKept X.K c i j Wout D) D σ H) := by
  refine ⟨fun pins s σ H D I want => ?_⟩
  have ok := I.ok
  have top : X.A.frames = some (X.env :: X.outer) := by rw [ok.frames, hs]
  have locN : Loc X.env.scope n := .inl hln
  have locY : Loc X.env.scope y := .inl hly
  refine wpAny_Try_except ?_
  refine wpAny_mono ((hb (wKept X.K c i j Wout D) (X.pn ++ pins) _ (fun u s2 air => ?_) PassesOwn.looking).run [] s σ H D (I.toTry _) want) (fun f s1 post => ?_) (fun _ _ bad => bad)
  · obtain ⟨a, B, s3, pins3, σ3, H3, cls, d, rfl, J3, inB, upTo, sky, free3, os3, ag3, b, isC, caught, passed⟩ := air
    have J : Inv X pins σ3 H3 s3 := J3.ofTry ok
    have skyT : Sky B (X.env :: X.outer) a (Zc cls d) X.env.locals s2.heap := by rw [← hs]; exact sky
    show wpAny (model X.prog X.w) X.A (noteFrame (.ref a) X.env) _ _ _
    refine Sky.land Zc.steady top hf skyT fun h3 air3 up3 => ?_
    have J4 : Inv X pins σ3 H3 { s2 with heap := h3 } := J.landed inB air3.1 (upTo.trans up3) os3 ag3
    obtain ⟨o3, vs3, at3, z3, dt3⟩ := air3.there
    have noFrame : a ∉ frs (X.env :: X.outer) := fun hm => by
      obtain ⟨_, o', e', nf⟩ := air3.2.2.1.mem hm
      rw [at3] at e'
      cases e'
      exact nf _ dt3
    have noB : B.get? a = none := air3.2.1
    have nL : a ≠ X.env.locals := fun z => noFrame (List.mem_filterMap.mpr ⟨X.env, List.mem_cons_self, by rw [hf, z]⟩)
    have nF : a ∉ X.fs := fun hm => by
      obtain ⟨e, he, q⟩ := List.mem_filterMap.mp hm
      exact noFrame (List.mem_filterMap.mpr ⟨e, List.mem_cons_of_mem _ he, q⟩)
    have notIn : ∀ {o : Obj}, s3.heap.get? a = some o → False := fun {o} e => by
      have := inB a o e (by rw [hs]; exact noFrame)
      rw [noB] at this
      cases this
    have notOld : X.s_0.heap.get? a = none := by
      cases e : X.s_0.heap.get? a with
      | none => rfl
      | some o =>
        obtain ⟨o', e'⟩ := J.base.there a o e (by rw [hex]; exact List.not_mem_nil)
        exact (notIn e').elim
    have noPin : ∀ p ∈ X.pn ++ pins, p.1 ≠ a := fun p hp z => by
      obtain ⟨e, _⟩ := J.pin p hp
      rw [z] at e
      exact notIn e
    have S4 := J4.suite at3 dt3 free3 nL nF
    refine wpAny_handleBy_cons (codeAny_handlers_test ?_) (by intro q; cases q)
    have ty : PySem.W.Looks (model X.prog X.w) h3 (typeOf (.ref a)) cls := fun A Q E s k q => wpAny_typeOf_ref (k _ _ at3) (by rw [z3.1]; exact q)
    have matched := PySem.W.exm_one (M := model X.prog X.w) (J4.kIn) ty isC
    have named : ∀ {Q : Value → Shared → Prop} {E : Value → Shared → Prop}, Q c { s2 with heap := h3 } → wpAny (model X.prog X.w) (X.A.mark (some (.ref a))) (eval (.Name x np) X.env) Q E { s2 with heap := h3 } := fun {Q E} q => by
      obtain ⟨hg, hdbg, hm | ⟨hm, hv, hnn⟩⟩ := hc
      · exact ld_glob (X := X.suite a ((a, o3) :: (X.pn ++ pins))) S4 hg hm q hdbg
      · exact ld_blt (X := X.suite a ((a, o3) :: (X.pn ++ pins))) S4 hg hm hv q hnn hdbg
    refine named (matched.here ?_)
    cases b with
    | true =>
      refine codeAny_handlers_suite_as ?_
      refine HandSPX.lands_againZ air3 fun h5 air5 up5 => ?_
      have J5 : Inv X pins σ3 H3 { s2 with heap := h5 } := J.landed inB air5.1 ((upTo.trans up3).trans up5) os3 ag3
      obtain ⟨o5, vs5, at5, z5, dt5⟩ := air5.there
      have S5 := J5.suite at5 dt5 free3 nL nF
      refine store_ok (X := X.suite a ((a, o5) :: (X.pn ++ pins))) (v := .ref a) S5 hN hi locN rfl (fun s6 S6 => ?_) (.inr hln)
      have lenS : i < σ3.length := by
        rw [J.len]
        exact (List.getElem?_eq_some_iff.mp hi).1
      have body := pss_one (ps_set (X := X.suite a ((a, o5) :: (X.pn ++ pins))) (i := j) (pos := q3) (pos' := q1) hN hj (.inl hly) (pe_var (pos := q2) (i := i) hi hvn hdn hcn) rfl (.inr hly))
      refine wpAny_mono (body.run [] s6 _ H3 { nx := fun σ' H' => σ' = (σ3.set i (some (.ref a))).set j (some (.ref a)) ∧ H' = H3, rt := fun _ _ => False, bk := fun _ _ => False, ct := fun _ _ => False } S6 ?_) (fun f s7 post => ?_) (fun _ _ z => False.elim z)
      · exact ⟨.ref a, by rw [List.getElem?_set_self lenS], rfl, rfl⟩
      · cases f with
        | brk => exact (post.choose_spec.choose_spec).2.elim
        | cont => exact (post.choose_spec.choose_spec).2.elim
        | ret u =>
          obtain ⟨_, _, _, _, _, z⟩ := post
          exact z.elim
        | next =>
          obtain ⟨σ7, H7, S7, rfl, rfl⟩ := post
          have pinA := S7.pin (a, o5) (List.mem_append_left _ List.mem_cons_self)
          have J7 : Inv X ((a, o5) :: pins) ((σ3.set i (some (.ref a))).set j (some (.ref a))) H7 s7 := (S7.unsuite ok).pins_of (pins' := (a, o5) :: pins) (fun p hp => by
            rcases List.mem_cons.mp hp with rfl | hp
            · exact pinA
            · exact (S7.unsuite ok).pin p (List.mem_append_right _ hp))
          refine gone_ok J7 hN hi hln fun s8 J8 => ?_
          obtain ⟨at8, _⟩ := J8.pin (a, o5) (List.mem_append_right _ List.mem_cons_self)
          have J9 : Inv X pins _ H7 s8 := J8.pins_of fun p hp => J8.pin p (List.mem_append_right _ (List.mem_cons_of_mem _ hp))
          have nC : ∀ z cc, X.env.cells.lookup z = some cc → cc ≠ a := fun z cc hz e => by
            obtain ⟨v, o, ho, hd⟩ := J9.cell z cc hz
            rw [e, at8] at ho
            cases ho
            rw [dt5] at hd
            cases hd
          have J10 := learn (a := a) (o := exz a cls d) J9 notOld free3 nL nC noPin (exz_ok at8 z5 dt5)
          have ec : ((σ3.set i (some (V.ref a))).set j (some (V.ref a))).set i none = (σ3.set j (some (V.ref a))).set i none := by
            rw [List.set_comm _ _ (Ne.symm hij), List.set_set]
          rw [ec] at J10
          exact ⟨_, _, J10, caught rfl a free3⟩
    | false =>
      show wpAny _ X.A (handleBy (.ref a) X.env []) _ _ _
      refine wpAny_handleBy_nil ?_
      obtain ⟨k1, k2, k3, oe, vs, T, oT, ts', he, hz, hd, h1, hr⟩ := id air3
      unfold PySem.passOn
      refine wpAny_bind (wpAny_field he hd h1 ?_)
      rw [if_neg (show ¬ ((Value.ref T == Value.none) = true) from by simp)]
      have last : wpAny (model X.prog X.w) X.A (setFlight (.ref a) X.env.frame) (fun _ s5 => wpAny (model X.prog X.w) X.A (throw (.ref a) : Sem Flow) (SP X pins D) X.xe s5) X.xe { s2 with heap := h3 } := by
        rw [hf]
        exact HandSPX.setFlight_upZ air3 fun h5 held5 up5 => wpAny_throw (tk _ _ ⟨a, B, s3, pins, σ3, H3, cls, d, rfl, J, inB, (upTo.trans up3).trans up5, .inr (.inr (by rw [hs]; exact held5)), free3, os3, ag3, passed rfl⟩)
      first
        | exact wpAny_bind (wpAny_pure (wpAny_bind last))
        | exact wpAny_bind last
  · cases f with
    | next =>
      obtain ⟨σ2, H2, J2, q⟩ := post
      exact wpAny_execs_nil ⟨σ2, H2, J2.ofTry ok, q⟩
    | brk =>
      obtain ⟨σ2, H2, J2, q⟩ := post
      exact ⟨σ2, H2, J2.ofTry ok, q⟩
    | cont =>
      obtain ⟨σ2, H2, J2, q⟩ := post
      exact ⟨σ2, H2, J2.ofTry ok, q⟩
    | ret u =>
      obtain ⟨v, σ2, H2, J2, r, q⟩ := post
      exact ⟨v, σ2, H2, J2.ofTry ok, r, q⟩
end
section
variable {X : Cx}
/-- an exception of the class at C, that was in the air, stands at a -/
def Kept (H : Hp) (a C : Addr) : Prop := H a = some (exz a (.ref C) none) ∨ ∃ dd fs, H a = some (exz a (.ref C) (some dd)) ∧ H dd = some (.xd fs)
def rIsiZ (K : PySem.W.Frag) : List V → Hp → VK → Prop := fun xs H Q => ∃ (a C : Addr) (c : V) (u : Value) (b : Bool), xs = [.ref a, c] ∧ ClsV c u ∧ Kept H a C ∧ ExcC K C ∧ PySem.W.kitOne K (.ref C) u = some b ∧ Q (.bl b) H
theorem call_isiZ : CallR X (.builtin "isinstance") (rIsiZ X.K) := by
  rintro pins s σ H xs us Q I rel ⟨a, C, c, w, b, rfl, k, held, T, e, q⟩
  obtain ⟨u1, u2, rfl, r1, r2⟩ := vals2 rel
  have e2 := k.eq r2
  subst e2
  cases (show u1 = Value.ref a from r1)
  have cl : (PySem.W.clsIn X.K C).isSome = true := by
    obtain ⟨cd, hc, _⟩ := PySem.W.any_some T.hd
    rw [hc]
    rfl
  rcases held with ea | ⟨dd, fs, ea, ed⟩
  · obtain ⟨o, vs, at_, z, dt⟩ := exz_at I.hok ea
    exact PySem.W.kia_one (PySem.W.kitx_exc (od := none) cl T.hg T.hk T.hs T.ha T.hn T.ht T.hm) I.kIn ⟨at_, z.1, by unfold PySem.W.notCls; rw [dt], by rw [z.2]; trivial⟩ e (fun z => nomatch z) fun tk => ⟨.bl b, H, I.tok tk, rfl, q⟩
  · obtain ⟨o, vs, at_, z, dt⟩ := exz_at I.hok ea
    obtain ⟨mA, ns, rel2⟩ := (show ObjOk X.prog X.w H s.heap dd (.xd fs) from I.hok _ _ ed)
    obtain ⟨od, ho, hl⟩ := lookIn_ns ns
    exact PySem.W.kia_one (PySem.W.kitx_exc (od := some od) cl T.hg T.hk T.hs T.ha T.hn T.ht T.hm) I.kIn ⟨at_, z.1, by unfold PySem.W.notCls; rw [dt], by rw [z.2]; exact ho⟩ e (fun z => nomatch z) fun tk => ⟨.bl b, H, I.tok tk, rfl, q⟩
def rIsiZT (K : PySem.W.Frag) : List V → Hp → VK → Prop := fun xs H Q => ∃ (a C tp : Addr) (cs : List V) (us : List Value) (b : Bool), xs = [.ref a, .ref tp] ∧ H tp = some (.tup cs) ∧ Paired ClsV cs us ∧ Kept H a C ∧ ExcC K C ∧ PySem.W.kitAny K (.ref C) us = some b ∧ Q (.bl b) H
theorem call_isiZT : CallR X (.builtin "isinstance") (rIsiZT X.K) := by
  rintro pins s σ H xs us Q I rel ⟨a, C, tp, cs, ws, b, rfl, hT, k, held, T, e, q⟩
  obtain ⟨u1, u2, rfl, r1, r2⟩ := vals2 rel
  cases (show u2 = Value.ref tp from r2)
  cases (show u1 = Value.ref a from r1)
  obtain ⟨_, its, rv, o, h1, h2, n, h3⟩ := (show ObjOk X.prog X.w H s.heap tp (.tup cs) from I.hok tp _ hT)
  have e3 := ClsV.all k rv
  subst e3
  obtain ⟨oc, od, dt, sl⟩ := o
  simp only at h2 h3
  subst h2 h3
  have cl : (PySem.W.clsIn X.K C).isSome = true := by
    obtain ⟨cd, hc, _⟩ := PySem.W.any_some T.hd
    rw [hc]
    rfl
  rcases held with ea | ⟨dd, fs, ea, ed⟩
  · obtain ⟨o, vs, at_, z, dt⟩ := exz_at I.hok ea
    exact PySem.W.kia_tup (PySem.W.kitx_exc (od := none) cl T.hg T.hk T.hs T.ha T.hn T.ht T.hm) I.kIn ⟨at_, z.1, by unfold PySem.W.notCls; rw [dt], by rw [z.2]; trivial⟩ h1 e (fun z => nomatch z) fun tk => ⟨.bl b, H, I.tok tk, rfl, q⟩
  · obtain ⟨o, vs, at_, z, dt⟩ := exz_at I.hok ea
    obtain ⟨mA, ns, rel2⟩ := (show ObjOk X.prog X.w H s.heap dd (.xd fs) from I.hok _ _ ed)
    obtain ⟨od, ho, hl⟩ := lookIn_ns ns
    exact PySem.W.kia_tup (PySem.W.kitx_exc (od := some od) cl T.hg T.hk T.hs T.ha T.hn T.ht T.hm) I.kIn ⟨at_, z.1, by unfold PySem.W.notCls; rw [dt], by rw [z.2]; exact ho⟩ h1 e (fun z => nomatch z) fun tk => ⟨.bl b, H, I.tok tk, rfl, q⟩
/-- err.f -/
def tEz (K : PySem.W.Frag) (f : Str) (te : TE) : TE := fun σ H Q => te σ H fun x H1 => ∃ (a C dd : Addr) (fs : List (Str × V)) (v : V), x = .ref a ∧ XfC K C ∧ PySem.W.findIn K (.ref C) f = some none ∧ H1 a = some (exz a (.ref C) (some dd)) ∧ H1 dd = some (.xd fs) ∧ fs.lookup f = some v ∧ Q v H1
theorem pe_ez {e : Expr} {te : TE} {pos : Pos} {f : Str} (he : PE X e te) (hb : attributeBase e f X.env (eval e X.env) = eval e X.env := by rfl) : PE X (.Attribute e f pos) (tEz X.K f te) := by
  constructor
  intro pins s σ H Q I want
  refine attr_of hb (thn (he.run pins s σ H _ I want) ?_)
  rintro u s1 ⟨x, H1, I1, rx, a, C, dd, fs, v, rfl, T, no, ea, ed, l, q⟩
  cases (show u = Value.ref a from rx)
  obtain ⟨o, vs, at_, z, dt⟩ := exz_at I1.hok ea
  obtain ⟨mA, ns, rel⟩ := (show ObjOk X.prog X.w H1 s1.heap dd (.xd fs) from I1.hok _ _ ed)
  obtain ⟨od, ho, hl⟩ := lookIn_ns ns
  obtain ⟨u2, hu, ru⟩ := RelO.some_of (v := v) (o := mA f) (by rw [← l]; exact rel f)
  have J : PySem.W.InstAt s1.heap a _ C (some od) := ⟨at_, z.1, by unfold PySem.W.notCls; rw [dt], by rw [z.2]; exact ho⟩
  exact HandSPX.exc_get I1.kIn J T.ga T.gg T.exC (PySem.W.findObj_own T.hdC no rfl (by rw [hl, hu])) (handed_of ru) ⟨v, H1, I1.tok _, ru, q⟩
end
end Ex
/-! raise C(e, ..) where C's __init__ says super().__init__(..): the promise is kept where no repr is under way. -/
namespace Ex
open PySem PySem.Spec PyProof.Rows L2 Gd
section
variable {X : Cx} {CX : CXT} {k : Nat} {fI C : Addr} {fd : FuncData} {ps : List Str} {sp : Sp} {x : Str} {p pos : Pos} {e : Expr} {es : List Expr} {ta tk : TA}
/-- what is wanted of the __init__ of an exception that is to be raised -/
def Raised (sp : Sp) (C : Addr) (vs : List V) (H1 : Hp) (Q : XK) : Prop := ∀ a, H1 a = none → sp (.ref a :: vs) (upd H1 a (exo a C none))
  (fun v H2 => v = .non ∧ ∃ (d : Addr) (fs : List (Str × V)), H2 a = some (exo a C (some d)) ∧ H2 d = some (exd d fs) ∧ H1 d = none ∧ Q (.ref C) (some d) (upd (del H2 a) d (.xd fs))) fun _ _ _ => False
theorem run_mkE {pins : List (Addr × Obj)} {σ : L2.St} {H : Hp} {s : Shared} {Q : XK} {us gs : List Value} {kw : List (Str × Value)} {vs : List V} (O : Own X.K C fI) (Fn : FnG X.prog X.w X.K X.mg X.base CX k fI fd ps sp) (room : Room (k + 1) X.A) (gd : X.A.guards = some [])
    (pass : Passes CX X fun _ _ _ => False) (bind : ∀ (s : Shared) (self : Value), X.K.In s.heap → BindsTo s fd ⟨self :: us, kw⟩ (ps.zip (self :: gs))) (I : Inv X pins σ H s) (rel : Vals vs gs) (few : us.length ≤ sizeLine) (want : Raised sp C vs H Q) :
    wpAny (model X.prog X.w) X.A (call (.ref C) us kw) (MkP X pins σ Q) X.xe s := by
  obtain ⟨nm, qn, N, bs, bm, sn, sub, ab, col, dd, k0, k1, k2, k3, k5, at_, ve⟩ := O.oex.cls
  obtain ⟨hp, g, dr, tk, os⟩ := s
  have le : hp.objs.size ≤ hp.objs.size + 1 := Nat.le_succ _
  have fresh : H (hp.objs.size + 1) = none := I.hok.fresh le
  have q := want (hp.objs.size + 1) fresh
  have kept : ∀ b o, hp.get? b = some o → ((hp.push (PySem.W.kdv_tup us)).push (PySem.HandSPX.excO C hp.objs.size)).get? b = some o := fun b o e => Heap.get?_push_of_some _ (Heap.get?_push_of_some _ e)
  have new : ((hp.push (PySem.W.kdv_tup us)).push (PySem.HandSPX.excO C hp.objs.size)).get? (hp.objs.size + 1) = some (PySem.HandSPX.excO C hp.objs.size) := by heap_get
  have I2 : Inv X pins σ (upd H (hp.objs.size + 1) (exo (hp.objs.size + 1) C none)) ⟨(hp.push (PySem.W.kdv_tup us)).push (PySem.HandSPX.excO C hp.objs.size), g, dr, tk, os⟩ :=
    I.laid (t' := tk) (o := exo (hp.objs.size + 1) C none) kept le (exo_ok new)
  refine wpAny_call (classCalled (fun Y => PySem.HandSPX.refsVE_contains Y bm ve) (I.kIn _ _ at_) (PySem.W.looks_findIn I.kIn O.ini) (fun self => PySem.W.bind_fn I.kIn self O.fn) few ?_)
  refine codeAny_mono (Fn.go _ (room.make C us kw) ?_ X.stack _ _ _ (.ref (hp.objs.size + 1) :: gs) _ _ (fun _ _ _ => False) (I2.env0.make C us kw) (bind _ _ I2.kIn) (.cons (show RelV (V.ref (hp.objs.size + 1)) (.ref (hp.objs.size + 1)) from rfl) rel) q) fun r s' got => ?_
  · rw [PySem.Around.under, gd]
    rfl
  · rcases r with er | fl
    · exact pass pins σ _ _ er s' I2 got
    · cases fl with
      | next => exact False.elim got
      | brk => exact False.elim got
      | cont => exact False.elim got
      | ret u =>
        obtain ⟨v, H2, os2, bare2, un2, hok2, rv, ev, d, fs, ea, ed, hd1, q2⟩ := got
        subst ev
        obtain ⟨h2, g2, d2, t2, os'⟩ := s'
        exact ⟨rv, mk_end (raises_own O.oex.exC O.oex.tyC) I le kept un2 hok2 os2 bare2 ea ed hd1 q2⟩
/-- C(e, ..) to be raised -/
def tMkE (C : Addr) (sp : Sp) (ta : TA) : L2.St → Hp → XK → Prop := fun σ H Q => ta σ H fun vs H1 => vs.length ≤ 1000 ∧ Raised sp C vs H1 Q
theorem pmk_newE (O : Own X.K C fI) (kC : PySem.W.keepIn X.K (.ref C) = true) (Fn : FnG X.prog X.w X.K X.mg X.base CX k fI fd ps sp) (room : Room (k + 1) X.A) (gd : X.A.guards = some []) (pass : Passes CX X fun _ _ _ => False)
    (isGl : Gl X x) (at_ : X.mg x = some (.ref C)) (bind : ∀ (s : Shared) (self : Value) (us : List Value), us.length + 1 = ps.length → X.K.In s.heap → BindsTo s fd ⟨self :: us, []⟩ (ps.zip (self :: us))) (args : PA X (e :: es) ta)
    (nodbg : (x == ("__debug__" : Str)) = false := by decide) (star : starEach (e :: es) X.env = (false, eval e X.env) :: starEach es X.env := by rfl) (plain : (backTo pos (starEach es X.env)).any (·.1) = false := by rfl) :
    PMk X (.Call (.Name x p) (e :: es) [] pos) (tMkE C sp ta) := by
  intro pins s σ H Q I want
  refine wpAny_Call_Name_kw (ld_glob I isGl at_ ?_ nodbg)
  refine PySem.W.callWith_K (h₀ := X.base) I.ok.mod.kin kC (thn (args.run pos pins s σ H _ I want) ?_) star plain
  rintro us s1 ⟨vs, H1, I1, rel, few, q⟩
  refine ⟨I1.kIn, run_mkE O Fn room gd pass (fun s self inK => bind s self us ?_ inK) I1 rel (few_of rel few) q⟩
  have n := Fn.arity _ _ _ _ (q (s1.heap.objs.size) (I1.hok.fresh (Nat.le_refl _)))
  rw [← n, List.length_cons, Paired.length rel]
end
end Ex
/-! NoLink(x), NoObject(x): any value that can be shown -/
namespace Sn
open PySem PySem.Spec PyProof.Rows L2 Evl Gd Ex
structure Shw (e : PyData) : Prop where
  sh : e.showable = true
  dp : e.depth ≤ 40
  ln : e.shown.length ≤ 10000000
theorem repA_of {K : PySem.W.Frag} {d : Addr → Prop} {x : V} {e : PyData} {H : Hp} {Q : VK} (h : Av K d H x e) (s : Shw e) (q : Q (.str e.shown) H) : rReprA K [x] H Q :=
  ⟨d, x, e, rfl, h, s.sh, s.dp, Nat.le_trans s.ln (by rw [sizeLine_eq]; decide), q⟩
section
variable {X : Cx}
/-- {x!r} -/
def tFmtA (K : PySem.W.Frag) (te : TE) : TE := fun σ H Q => te σ H fun x H1 => ∃ d e, Av K d H1 x e ∧ Shw e ∧ Q (.str e.shown) H1
theorem pe_fmtA {e : Expr} {te : TE} {pos : Pos} (gd : X.A.guards = some []) (un : X.A.units + 64 < cLine) (he : PE X e te) : PE X (.FormattedValue e 114 none pos) (tFmtA X.K te) := by
  constructor
  intro pins s σ H Q I want
  refine wpAny_FormattedValue_repr (thn (he.run pins s σ H _ I want) ?_)
  rintro u s1 ⟨x, H1, I1, rv, d, e, hd, ⟨sh, dep, sz'⟩, q⟩
  have sz : e.shown.length ≤ sizeLine := by rw [sizeLine_eq]; omega
  obtain ⟨as, reads, nsys⟩ := Av.reads I1 hd rv
  have big : ∀ {a : Addr}, u = .ref a → wpAny (model X.prog X.w) X.A (pyReprObj u) (fun v s2 => wpAny (model X.prog X.w) X.A (formatField v Str.empty) (EP X pins σ Q) X.xe s2) X.xe s1 := fun e => by
    subst e
    exact pyReprObj_of_reads reads sh (fun _ => nsys) gd (by omega) (fun _ _ e => e) (fun h2 u2 tk keep => wpAny_formatField_str ⟨.str _, H1, I1.kept keep, ⟨_, rfl⟩, q⟩ ⟨.str _, H1, I1.kept keep, ⟨_, rfl⟩, q⟩ sz) sz
  cases hd with
  | non =>
    cases rv
    exact pyReprObj_none (wpAny_formatField_str ⟨.str "None", H1, I1.tok _, ⟨_, rfl⟩, q⟩ ⟨.str "None", H1, I1.tok _, ⟨_, rfl⟩, q⟩ sz)
  | bl b =>
    cases rv
    exact pyReprObj_bool (wpAny_formatField_str ⟨.str (if b then "True" else "False"), H1, I1.tok _, ⟨_, rfl⟩, q⟩ ⟨.str (if b then "True" else "False"), H1, I1.tok _, ⟨_, rfl⟩, q⟩ sz)
  | int i =>
    obtain ⟨t, rfl⟩ := rv
    exact pyReprObj_int (by simpa [PyData.showable] using sh) (wpAny_formatField_str ⟨.str _, H1, I1.tok _, ⟨_, rfl⟩, q⟩ ⟨.str _, H1, I1.tok _, ⟨_, rfl⟩, q⟩ sz)
  | str z =>
    obtain ⟨t, rfl⟩ := rv
    exact pyReprObj_str (wpAny_formatField_str ⟨.str _, H1, I1.tok _, ⟨_, rfl⟩, q⟩ ⟨.str _, H1, I1.tok _, ⟨_, rfl⟩, q⟩ sz) sz
  | lst _ _ _ _ => exact big rv
  | tup _ _ _ => exact big rv
  | dnil _ _ => exact big rv
  | done _ _ _ => exact big rv
end
/-- C(x): x is kept under f -/
def spInitA (K : PySem.W.Frag) (C : Addr) (f : Str) : Sp := fun vs H Q _ => ∃ (a : Addr) (d : Addr → Prop) (x : V) (e : PyData), vs = [.ref a, x] ∧ H a = some (exo a C none) ∧ Av K d H x e ∧ Shw e ∧
  ∀ dx, H dx = none → dx ≠ a → Q .non (upd (upd H dx (exd dx [(f, x)])) a (exo a C (some dx)))
section
variable {P : Program} {w : World} {K : PySem.W.Frag} {mg : Str → Option Value} {base : Heap} {C f : Addr} {fd : FuncData}
abbrev sNoLink : Stmt := inClass (topS 4) 0
theorem scNoLink : FnScopeC ["self", "value"] ["self", "value"] (defScope sNoLink) := ⟨rfl, rfl, rfl, by decide +kernel, rfl, by decide +kernel, by decide +kernel, by decide +kernel, rfl, rfl⟩
theorem ok_NoLink (F : FunC P K "__init__" "NoLink.__init__" sNoLink C f fd) (T : OexC K C) (S : SupVE P K mg C C) (no : PySem.W.findIn K (.ref C) "value" = some none) : FnG P w K mg base CX0 1 f fd ["self", "value"] (spInitA K C "value") := by
  refine fngC_of F scNoLink (fun vs H Q E h => ?_) rfl rfl rfl rfl (fun cda cc A outer s H vs Q E hr gd h => ?_)
  · obtain ⟨a, d, x, e, rfl, _⟩ := h
    rfl
  · obtain ⟨a, d, x, e, rfl, ha, hA, hs, q⟩ := h
    refine ⟨_, _, a, C, [x], pa_cons (pe_joined (PJ.cons (pe_fmtA gd hr.units (pv 1)) (PJ.cons pe_str PJ.nil))) pa_nil, pss_one (ps_ost (pv 0) (pv 1)), rfl, T, S, ha, ?_⟩
    have l1 := hs.ln
    refine ⟨x, rfl, d, e, hA, hs, e.shown, rfl, ?_, ⟨_, rfl, ?_, ?_⟩⟩
    · rw [Str.length_append, sizeLine_eq, show (Str.empty).length = 0 from by decide +kernel]
      omega
    · rw [Str.length_append, Str.length_append, sizeLine_eq, show (Str.empty).length = 0 from by decide +kernel, show (" is no link" : Str).length = 11 from by decide +kernel]
      omega
    · exact ⟨by show 1 ≤ 1000; decide, ha, _, rfl, _, rfl, a, C, rfl, T, no, .inl ⟨ha, fun dx n1 n2 => q dx n1 n2⟩⟩
end
end Sn
namespace Sn
open PySem PySem.Spec PyProof.Rows L2 Evl Gd
abbrev sLed : Stmt := inClass (topS 11) 3
abbrev nLed : List Str := ["self", "link", "sort", "parts"]
theorem scLed : FnScope nLed ["self", "link"] (defScope sLed) := ⟨rfl, rfl, rfl, by decide +kernel, rfl, by decide +kernel, by decide +kernel⟩
/-- the table of the sorts that hold -/
structure Hold (K : PySem.W.Frag) (w : World) (mg : Str → Option Value) (hd : Addr) : Prop where
  g : mg "HOLDERS" = some (.ref hd)
  s : KDct K w hd "slot" (.str "record")
  e : KDct K w hd "entry" (.str "map")
theorem merge_fresh : ∀ (more acc : List (Key × V)), ((acc ++ more).map (·.1)).Nodup → mergeK acc more = acc ++ more
  | [], acc, _ => (List.append_nil acc).symm
  | kv :: more, acc, h => by
    show mergeK (putK acc kv.1 kv.2) more = _
    have hk : kv.1 ∉ acc.map (·.1) := fun m => by
      rw [List.map_append, List.nodup_append] at h
      exact h.2.2 _ m kv.1 (by simp) rfl
    rw [putK_new _ (key_none hk), merge_fresh more _ (by rw [List.append_assoc]; exact h), List.append_assoc]
    rfl
theorem Td.inv_key {K : PySem.W.Frag} {H : Hp} {x : V} : ∀ {k : Key}, Td K H x (kD k) → x = kV k
  | .inl _, h => h.inv_int
  | .inr _, h => h.inv_str
theorem td_pairs {K : PySem.W.Frag} {H : Hp} {β : Type} (k : β → Key) (v : β → Int) (d : β → PyData) (hd : ∀ b, d b = .tuple [kD (k b), .int (v b)]) : ∀ {l : List β} {xs : List V}, TdAll K H xs (l.map d) → ∃ ps, xs = ps.map V.ref ∧ Paired (fun p kv => SqT K H p [kV kv.1, kv.2]) ps (l.map fun b => (k b, V.int (v b)))
  | [], xs, h => ⟨[], h.inv_nil, .nil⟩
  | b :: l, xs, h => by
    obtain ⟨y, ys, rfl, h1, h2⟩ := TdAll.inv_cons h
    obtain ⟨ps, rfl, pr⟩ := td_pairs k v d hd h2
    rw [hd] at h1
    obtain ⟨p, u1, u2, rfl, s1, t1, t2⟩ := Td.inv2 h1
    rw [t1.inv_key, t2.inv_int] at s1
    exact ⟨p :: ps, rfl, .cons s1 pr⟩
theorem val_map {β : Type} {k : β → Key} {v : β → Int} : ∀ {l : List β}, (l.map k).Nodup → ∀ b ∈ l, valV (l.map fun b => (k b, V.int (v b))) (k b) = some (.int (v b))
  | [], _, b, h => absurd h List.not_mem_nil
  | c :: l, nd, b, h => by
    rw [List.map_cons, List.nodup_cons] at nd
    rw [List.map_cons]
    rcases List.mem_cons.mp h with rfl | h
    · exact valV_pos rfl
    · rw [valV_neg (fun e => nd.1 (by rw [show k c = k b from e]; exact List.mem_map_of_mem h))]
      exact val_map nd.2 b h
theorem rows_sub {N : NetM} {r : Row} (h : r ∈ N.rows) : (rowArcs r).Sublist (netArcs N) := by
  have e : (rowArcs r).Sublist (N.rows.flatMap rowArcs) := by
    obtain ⟨a, b, e⟩ := List.append_of_mem h
    rw [e, List.flatMap_append, List.flatMap_cons]
    exact (List.sublist_append_left _ _).trans (List.sublist_append_right _ _)
  exact e.trans (List.sublist_append_right _ _)
def spLed (K : PySem.W.Frag) (C : Addr) : Sp := fun vs H Q _ => ∃ (p l : Addr) (N : NetM) (α : Arc), vs = [.ref p, .ref l] ∧ PlNet K C H p N ∧ OkNet N ∧ ((netArcs N).map Arc.link).Nodup ∧ α ∈ netArcs N ∧ SqT K H l (α.link.map kV) ∧ ∀ H', Ex H H' → Q (.int α.tgt) H'
section
variable {P : Program} {w : World} {K : PySem.W.Frag} {mg : Str → Option Value} {base : Heap}
theorem ok_led {f C hd : Addr} {fd : FuncData} (F : Fun K "led_to" "Net.led_to" sLed f fd) (T : Txt K mg C) (hH : Hold K w mg hd) (mD : mg "dict" = none) : FnOk P w K mg base CX0 1 f fd ["self", "link"] (spLed K C) := by
  refine F.ok scLed (fun vs H Q E h => ?_) (fun cdv A outer s H vs Q E hr h => ?_)
  · obtain ⟨p, l, N, α, rfl, _⟩ := h
    rfl
  · obtain ⟨p, l, N, α, rfl, hN, ok, lnd, ha, hl, q⟩ := h
    have hu := hu_of hr
    refine ⟨_, pss_cons (ps_if (pt_cmpR op_eq (pe_ix ix_tup (pv 1) pe_int (fun _ _ => rfl)) pe_str (nomark _))
        (pss_one (ps_ret (pe_dget1 hu (pe_callTy (cr_dictP rfl) (by rfl) mD (by decide +kernel) (pa_cons (pe_fld (pv 0) rfl) pa_nil)) (pe_ix ix_tup (pv 1) pe_int (fun _ _ => rfl)) ⟨rfl, rfl, rfl, rfl⟩))) pss_nil) <|
      pss_cons (ps_if (pt_cmp (pc_dnotin hu (pe_ix ix_tup (pv 1) pe_int (fun _ _ => rfl)) (pe_fld (pv 0) rfl))) (pss_one (ps_ret pe_non)) pss_nil) <|
      pss_cons (ps_asg (pe_dget hu (pe_fld (pv 0) rfl) (pe_ix ix_tup (pv 1) pe_int (fun _ _ => rfl)) (fun _ _ => rfl)) (pg_tup (n := 2) rfl (pgs_cons (pg_name (i := 2) scLed.nd rfl (.inl rfl)) <| pgs_cons (pg_name (i := 3) scLed.nd rfl (.inl rfl)) pgs_nil))) <|
      pss_one (ps_ret (pe_ifExp (pt_cmpR op_eq (pv 2) (pe_ix ix_kdict (pe_glob (v := .ref hd) (by rfl) hH.g rfl) (pe_ix ix_tup (pv 1) pe_int (fun _ _ => rfl)) (fun _ _ => rfl)) (nomark _))
        (pe_dget1 hu (pe_callTy (cr_dictP rfl) (by rfl) mD (by decide +kernel) (pa_cons (pv 3) pa_nil)) (pe_ix ix_tup (pv 1) pe_int (fun _ _ => rfl)) ⟨rfl, rfl, rfl, rfl⟩) pe_non)), ?_⟩
    obtain ⟨dx, ra, rs, d, kvs, hp, hra, tra, hdd, hks, hrows⟩ := hN
    have n1 : decide (V.str "slot" = V.str "root") = false := by decide +kernel
    have n2 : decide (V.str "entry" = V.str "root") = false := by decide +kernel
    have cases' : (∃ r ∈ N.roots, α = rootArc r) ∨ ∃ (r : Row) (wd so : Str) (z : Int × Int) (ps : List (Int × Int)), r ∈ N.rows ∧ r.sort = so ∧ so ≠ "weak" ∧ α.link = [.inr wd, .inl r.n, .inl z.1] ∧ α.tgt = z.2 ∧ decide (V.str wd = V.str "root") = false ∧ KDct K w hd wd (.str so) ∧ r.parts = ps.map (fun p => Part.pair p.1 (some p.2)) ∧ (ps.map (·.1)).Nodup ∧ z ∈ ps := by
      rcases arc_cases ha with h | ⟨r, hr, hs, z, hz, rfl⟩ | ⟨r, hr, hs, z, hz, rfl⟩
      · exact .inl h
      · refine .inr ⟨r, "slot", "record", z, pairsOf r, hr, hs, by decide +kernel, rfl, rfl, n1, hH.s, ?_, ?_, hz⟩
        · rcases ok.rows r hr with ⟨_, ps, e⟩ | ⟨e, _⟩ | e
          · rw [pairs_of e]
            exact e
          · rw [hs] at e
            exact absurd e (by decide +kernel)
          · rw [hs] at e
            exact absurd e (by decide +kernel)
        · have := lnd.sublist ((rows_sub hr).map Arc.link)
          unfold rowArcs at this
          rw [if_pos hs, List.map_map] at this
          refine List.pairwise_map.mpr ((List.pairwise_map.mp this).imp fun {x y} ne e => ne ?_)
          show (slotA r.n x).link = (slotA r.n y).link
          unfold slotA
          rw [e]
      · have hs0 : ¬ r.sort = "record" := by
          rw [hs]
          decide +kernel
        refine .inr ⟨r, "entry", "map", z, pairsOf r, hr, hs, by decide +kernel, rfl, rfl, n2, hH.e, ?_, ?_, hz⟩
        · rcases ok.rows r hr with ⟨e, _⟩ | ⟨_, ps, e⟩ | e
          · exact absurd e hs0
          · rw [pairs_of e]
            exact e
          · rw [hs] at e
            exact absurd e (by decide +kernel)
        · have := lnd.sublist ((rows_sub hr).map Arc.link)
          unfold rowArcs at this
          rw [if_neg hs0, if_pos hs, List.map_map] at this
          refine List.pairwise_map.mpr ((List.pairwise_map.mp this).imp fun {x y} ne e => ne ?_)
          show (entryA r.n x).link = (entryA r.n y).link
          unfold entryA
          rw [e]
    rcases cases' with ⟨r, hr', rfl⟩ | ⟨r, wd, so, z, ps, hrr, hso, nw, el, et, nr, kd, epa, pnd, hz⟩
    · refine seq_of (ifS_of (test_of (op_of (op_of (v_of rfl (k_of ⟨l, _, 0, _, rfl, rfl, hl, atI_nat (j := 0) rfl, k_of ⟨rfl, _, rfl, ?_⟩⟩))))))
      rw [show decide (kV (.inr "root") = V.str "root") = true from decide_eq_true rfl, if_pos rfl]
      obtain ⟨qs, e1, pr⟩ := td_pairs (fun r : Str × Int => (Sum.inr r.1 : Key)) (fun r => r.2) dRoot (fun b => rfl) tra
      have rnd : (N.roots.map fun r => (Sum.inr r.1 : Key)).Nodup := by
        have := lnd.sublist ((List.sublist_append_left (N.roots.map rootArc) (N.rows.flatMap rowArcs)).map Arc.link)
        rw [List.map_map] at this
        refine List.pairwise_map.mpr ((List.pairwise_map.mp this).imp fun {x y} ne e => ne ?_)
        show (rootArc x).link = (rootArc y).link
        unfold rootArc
        rw [Sum.inr.inj e]
      rw [e1] at hra
      refine ret_of (cb_of (c_of ⟨.ref p, rfl, p, C, dx, _, _, rfl, hp, T.cl, T.nR, nf_roots _ _, n_of ⟨ra, qs, _, rfl, .inr hra, pr, fun D hD => ?_⟩⟩))
      rw [merge_fresh _ [] (by rw [List.nil_append, List.map_map]; exact rnd), List.nil_append]
      have e2 : Ex H (upd H D (.dK (N.roots.map fun b => (Sum.inr b.1, V.int b.2)))) := Ex.new hD
      refine ⟨D, rfl, .inl ⟨_, .inl upd_same⟩, op_of (v_of rfl (k_of ⟨l, _, 1, _, rfl, rfl, ex_t e2 hl, atI_nat (j := 1) rfl, _, DGet.k (k := Sum.inr r.1) upd_same, ?_⟩))⟩
      rw [show valV (N.roots.map fun b => (Sum.inr b.1, V.int b.2)) (Sum.inr r.1) = some (.int r.2) from val_map (k := fun r : Str × Int => (Sum.inr r.1 : Key)) (v := fun r => r.2) rnd r hr']
      exact q _ e2
    · rw [el] at hl
      rw [et] at q
      refine seq_of (ifS_of (test_of (op_of (op_of (v_of rfl (k_of ⟨l, _, 0, _, rfl, rfl, hl, atI_nat (j := 0) rfl, k_of ⟨rfl, _, rfl, ?_⟩⟩))))))
      rw [show decide (kV (.inr wd) = V.str "root") = false from nr, if_neg Bool.false_ne_true]
      dsimp only [tNext]
      obtain ⟨v, hv, t, pa, xs, rfl, st, spl, tdp⟩ := hrows r hrr
      refine seq_of (ifS_of (test_of (notin_of (op_of (v_of rfl (k_of ⟨l, _, 1, _, rfl, rfl, hl, atI_nat (j := 1) rfl, ⟨.ref p, rfl, p, C, dx, _, _, rfl, hp, T.cl, T.nW, nf_rows _ _, d, _, rfl, DGet.k (k := Sum.inl r.n) hdd, _, rfl, ?_⟩⟩))))))
      rw [hv, if_neg (show ¬ (!(some (V.ref t)).isSome) = true from Bool.false_ne_true)]
      dsimp only [tNext]
      have dg := DGet.k (k := Sum.inl r.n) hdd
      rw [hv] at dg
      refine seq_of (asgG_of (dget_of ⟨.ref p, rfl, p, C, dx, _, _, rfl, hp, T.cl, T.nW, nf_rows _ _, op_of (v_of rfl (k_of ⟨l, _, 1, _, rfl, rfl, hl, atI_nat (j := 1) rfl, d, .ref t, rfl, dg, t, _, rfl, st, rfl, .str r.sort, _, rfl, .ref pa, _, rfl, rfl, ?_⟩))⟩))
      dsimp only [gName]
      refine ret_of (if_of (test_of (op_of (v_of rfl (op_of (k_of (op_of (v_of rfl (k_of ⟨l, _, 0, _, rfl, rfl, hl, atI_nat (j := 0) rfl, hd, wd, .str so, rfl, rfl, kd, rfl, _, rfl, ?_⟩)))))))))
      rw [decide_eq_true (by rw [hso]), if_pos rfl]
      rw [epa, List.map_map] at tdp
      obtain ⟨qs, e1, pr⟩ := td_pairs (fun z : Int × Int => (Sum.inl z.1 : Key)) (fun z => z.2) (dPart ∘ fun p : Int × Int => Part.pair p.1 (some p.2)) (fun b => rfl) tdp
      have pnd2 : (ps.map fun z : Int × Int => (Sum.inl z.1 : Key)).Nodup := List.pairwise_map.mpr ((List.pairwise_map.mp pnd).imp fun {x y} ne e => ne (Sum.inl.inj e))
      have spl2 := spl (by rw [hso]; exact nw)
      rw [e1] at spl2
      refine cb_of (c_of (v_of rfl (n_of ⟨pa, qs, _, rfl, spl2, pr, fun D hD => ?_⟩)))
      rw [merge_fresh _ [] (by rw [List.nil_append, List.map_map]; exact pnd2), List.nil_append]
      have e2 : Ex H (upd H D (.dK (ps.map fun b => (Sum.inl b.1, V.int b.2)))) := Ex.new hD
      refine ⟨D, rfl, .inl ⟨_, .inl upd_same⟩, op_of (v_of rfl (k_of ⟨l, _, 2, _, rfl, rfl, ex_t e2 hl, atI_nat (j := 2) rfl, _, DGet.k (k := Sum.inl z.1) upd_same, ?_⟩))⟩
      rw [show valV (ps.map fun b => (Sum.inl b.1, V.int b.2)) (Sum.inl z.1) = some (.int z.2) from val_map (k := fun z : Int × Int => (Sum.inl z.1 : Key)) (v := fun z => z.2) pnd2 z hz]
      exact q _ e2
end
theorem all_dec {ns : List Int} {f : Int → Bool} {p : Int → Prop} [DecidablePred p] (h : ∀ n, f n = decide (p n)) : (ns.map f).all id = decide (∀ n ∈ ns, p n) := by
  by_cases q : ∀ n ∈ ns, p n
  · rw [decide_eq_true q, List.all_eq_true]
    intro b hb
    obtain ⟨n, hn, rfl⟩ := List.mem_map.mp hb
    show f n = true
    rw [h]
    exact decide_eq_true (q n hn)
  · rw [decide_eq_false q]
    cases hb : (ns.map f).all id with
    | false => rfl
    | true =>
      refine absurd (fun n hn => ?_) q
      have := List.all_eq_true.mp hb _ (List.mem_map.mpr ⟨n, hn, rfl⟩)
      rw [id, h] at this
      exact of_decide_eq_true this
end Sn
/-! lists of pairs of ints, and their sort -/
namespace Sn
open PySem PySem.Spec PyProof.Rows L2 Evl Gd
def PairsAt (H : Hp) (vs : List V) (fs : List (Int × Int)) : Prop := ∃ as : List Addr, vs = as.map V.ref ∧ as.length = fs.length ∧ ∀ (i : Nat) a z, as[i]? = some a → fs[i]? = some z → H a = some (.tup [.int z.1, .int z.2])
theorem PairsAt.nil (H : Hp) : PairsAt H [] [] := ⟨[], rfl, rfl, fun i a z h => by simp at h⟩
theorem PairsAt.len {H : Hp} {vs : List V} {fs : List (Int × Int)} (h : PairsAt H vs fs) : vs.length = fs.length := by
  obtain ⟨as, rfl, h1, _⟩ := h
  rw [List.length_map]
  exact h1
theorem PairsAt.keep {H H' : Hp} {vs : List V} {fs : List (Int × Int)} (h : PairsAt H vs fs) (e : ∀ a xs, H a = some (.tup xs) → H' a = some (.tup xs)) : PairsAt H' vs fs := by
  obtain ⟨as, h0, h1, h2⟩ := h
  exact ⟨as, h0, h1, fun i a z ha hz => e _ _ (h2 i a z ha hz)⟩
theorem PairsAt.ex {H H' : Hp} {vs : List V} {fs : List (Int × Int)} (h : PairsAt H vs fs) (e : Ex H H') : PairsAt H' vs fs := h.keep fun a xs => e a _
theorem PairsAt.off {H : Hp} {vs xs ys : List V} {fs : List (Int × Int)} {p : Addr} (h : PairsAt H vs fs) (hp : H p = some (.lst xs)) : PairsAt (upd H p (.lst ys)) vs fs := h.keep fun a zs q => by
  rw [upd_ne (ne_of q hp (fun z => nomatch z))]
  exact q
theorem PairsAt.snoc {H : Hp} {vs : List V} {fs : List (Int × Int)} {q : Addr} {z : Int × Int} (h : PairsAt H vs fs) (hq : H q = some (.tup [.int z.1, .int z.2])) : PairsAt H (vs ++ [.ref q]) (fs ++ [z]) := by
  obtain ⟨as, rfl, h1, h2⟩ := h
  refine ⟨as ++ [q], by rw [List.map_append]; rfl, by rw [List.length_append, List.length_append, h1]; rfl, fun i a w ha hw => ?_⟩
  by_cases il : i < as.length
  · rw [List.getElem?_append_left il] at ha
    rw [List.getElem?_append_left (by omega)] at hw
    exact h2 i a w ha hw
  · have ei : i = as.length := by
      have := (List.getElem?_eq_some_iff.mp ha).1
      rw [List.length_append, List.length_singleton] at this
      omega
    subst ei
    rw [List.getElem?_append_right (Nat.le_refl _), Nat.sub_self] at ha
    rw [h1, List.getElem?_append_right (Nat.le_refl _), Nat.sub_self] at hw
    cases ha
    cases hw
    exact hq
theorem PairsAt.at {H : Hp} {vs : List V} {fs : List (Int × Int)} (h : PairsAt H vs fs) {i : Nat} {x : V} (hx : vs[i]? = some x) : ∃ q z, x = .ref q ∧ fs[i]? = some z ∧ H q = some (.tup [.int z.1, .int z.2]) := by
  obtain ⟨as, rfl, h1, h2⟩ := h
  obtain ⟨a, ha, rfl⟩ := map_at hx
  have il : i < fs.length := by
    have := (List.getElem?_eq_some_iff.mp ha).1
    omega
  exact ⟨a, fs[i], rfl, List.getElem?_eq_getElem il, h2 i a _ ha (List.getElem?_eq_getElem il)⟩
theorem PairsAt.td {K : PySem.W.Frag} {H : Hp} : ∀ {vs : List V} {fs : List (Int × Int)}, PairsAt H vs fs → TdAll K H vs (fs.map fun z => .tuple [.int z.1, .int z.2]) := by
  intro vs fs h
  obtain ⟨as, rfl, h1, h2⟩ := h
  induction as generalizing fs with
  | nil =>
    cases fs with
    | nil => exact .nil
    | cons z fs => cases h1
  | cons a as ih =>
    cases fs with
    | nil => cases h1
    | cons z fs =>
      refine .cons (.tup (st_of (h2 0 a z rfl rfl)) (.cons (.int _) (.cons (.int _) .nil))) (ih (by simpa using h1) fun i b w hb hw => h2 (i + 1) b w (by simpa using hb) (by simpa using hw))
/-- the pair at a value -/
def kOf (H : Hp) (x : V) : Int × Int := match x with
  | .ref a => match H a with
    | some (.tup [.int i, .int j]) => (i, j)
    | _ => (0, 0)
  | _ => (0, 0)
theorem kOf_at {H : Hp} {a : Addr} {z : Int × Int} (h : H a = some (.tup [.int z.1, .int z.2])) : kOf H (.ref a) = z := by
  unfold kOf
  dsimp only
  rw [h]
theorem PairsAt.map {H : Hp} {vs : List V} {fs : List (Int × Int)} (h : PairsAt H vs fs) : vs.map (kOf H) = fs := by
  refine List.ext_getElem? fun i => ?_
  rw [List.getElem?_map]
  cases e : vs[i]? with
  | none =>
    have := List.getElem?_eq_none_iff.mp e
    rw [h.len] at this
    rw [List.getElem?_eq_none_iff.mpr this]
    rfl
  | some x =>
    obtain ⟨q, z, rfl, hz, hq⟩ := h.at e
    rw [hz]
    exact congrArg some (kOf_at hq)
theorem PairsAt.of_mem {H : Hp} {ys : List V} (h : ∀ x ∈ ys, ∃ a z, x = V.ref a ∧ H a = some (.tup [.int (z : Int × Int).1, .int z.2])) : PairsAt H ys (ys.map (kOf H)) := by
  have key : ∀ ys : List V, (∀ x ∈ ys, ∃ a z, x = V.ref a ∧ H a = some (.tup [.int (z : Int × Int).1, .int z.2])) → ∃ as : List Addr, ys = as.map V.ref := by
    intro ys
    induction ys with
    | nil => exact fun _ => ⟨[], rfl⟩
    | cons y ys ih =>
      intro h
      obtain ⟨as, e⟩ := ih fun x hx => h x (List.mem_cons_of_mem _ hx)
      obtain ⟨a, z, rfl, _⟩ := h y List.mem_cons_self
      exact ⟨a :: as, by rw [e]; rfl⟩
  obtain ⟨as, e⟩ := key ys h
  refine ⟨as, e, by rw [e, List.length_map, List.length_map], fun i a z ha hz => ?_⟩
  have hx : ys[i]? = some (.ref a) := by
    rw [e, List.getElem?_map, ha]
    rfl
  rw [List.getElem?_map, hx] at hz
  obtain ⟨a', z', e1, h1⟩ := h _ (List.mem_of_getElem? hx)
  cases e1
  have : z = z' := (Option.some.inj hz).symm.trans (kOf_at h1)
  rw [this]
  exact h1
def pLt (a b : Int × Int) : Prop := a.1 < b.1 ∨ (a.1 = b.1 ∧ a.2 < b.2)
theorem pLt_uniq : ∀ {a b : List (Int × Int)}, a.Pairwise pLt → b.Pairwise pLt → (∀ n, n ∈ a ↔ n ∈ b) → a = b
  | [], [], _, _, _ => rfl
  | [], y :: b, _, _, h => absurd ((h y).mpr List.mem_cons_self) List.not_mem_nil
  | x :: a, [], _, _, h => absurd ((h x).mp List.mem_cons_self) List.not_mem_nil
  | x :: a, y :: b, ha, hb, h => by
    have h1 := List.pairwise_cons.mp ha
    have h2 := List.pairwise_cons.mp hb
    have irr : ∀ z, ¬ pLt z z := fun z q => by
      unfold pLt at q
      omega
    have asy : ∀ u v, pLt u v → ¬ pLt v u := fun u v q r => by
      unfold pLt at q r
      omega
    have e : x = y := by
      rcases List.mem_cons.mp ((h x).mp List.mem_cons_self) with e | m
      · exact e
      · rcases List.mem_cons.mp ((h y).mpr List.mem_cons_self) with e | m2
        · exact e.symm
        · exact absurd (h2.1 x m) (asy _ _ (h1.1 y m2))
    subst e
    rw [pLt_uniq h1.2 h2.2 fun n => ?_]
    constructor
    · intro m
      rcases List.mem_cons.mp ((h n).mp (List.mem_cons_of_mem _ m)) with e | m2
      · exact absurd (e ▸ h1.1 n m) (irr _)
      · exact m2
    · intro m
      rcases List.mem_cons.mp ((h n).mpr (List.mem_cons_of_mem _ m)) with e | m2
      · exact absurd (e ▸ h2.1 n m) (irr _)
      · exact m2
/-- sorted(a list of pairs), no pair twice -/
theorem rd_sortP {K : PySem.W.Frag} {H : Hp} {fo : Addr} {vs : List V} {fs : List (Int × Int)} {Q : VK} (hf : H fo = some (.lst vs)) (hp : PairsAt H vs fs) (nd : fs.Nodup)
    (k : ∀ ys p zs, PairsAt H ys zs → zs.Perm fs → zs.Pairwise pLt → H p = none → Q (.ref p) (upd H p (.lst ys))) : rSortedPO K [.ref fo] H Q := by
  refine ⟨fo, vs, kOf H, rfl, sq_of hf, fun x hx => ?_, fun ys p srt stb hp0 => ?_⟩
  · obtain ⟨i, hi⟩ := List.mem_iff_getElem?.mp hx
    obtain ⟨q, z, rfl, hz, hq⟩ := hp.at hi
    exact ⟨q, rfl, by rw [kOf_at hq]; exact hq⟩
  · have perm : (ys.map (kOf H)).Perm fs := by
      rw [← hp.map]
      exact stb.perm.map _
    refine k ys p (ys.map (kOf H)) (PairsAt.of_mem fun x hx => ?_) perm ?_ hp0
    · obtain ⟨i, hi⟩ := List.mem_iff_getElem?.mp (stb.perm.mem_iff.mp hx)
      obtain ⟨q, z, rfl, hz, hq⟩ := hp.at hi
      exact ⟨q, z, rfl, hq⟩
    · have nd2 := perm.nodup_iff.mpr nd
      refine List.Pairwise.imp₂ (fun a b h1 h2 => ?_) (List.pairwise_map.mpr srt : (ys.map (kOf H)).Pairwise fun x y => SrtO.lexB y x = false) nd2
      have h3 : a ≠ b := h2
      have h4 := SrtO.lexB_no.mp h1
      unfold pLt
      by_cases e : a.1 = b.1
      · have : a.2 ≠ b.2 := fun z => h3 (Prod.ext e z)
        omega
      · omega
end Sn
/-! least costs: a derivation costs one and what its sources cost. -/
namespace Sn
mutual
inductive Der (as : List Arc) : Int → Int → Prop
  | mk {α : Arc} {c : Int} : α ∈ as → DerAll as α.src c → Der as α.tgt (1 + c)
inductive DerAll (as : List Arc) : List Int → Int → Prop
  | nil : DerAll as [] 0
  | cons {n c : Int} {ns : List Int} {d : Int} : Der as n c → DerAll as ns d → DerAll as (n :: ns) (c + d)
end
def IsCost (as : List Arc) (n c : Int) : Prop := Der as n c ∧ ∀ c', Der as n c' → c ≤ c'
theorem IsCost.uniq {as : List Arc} {n c d : Int} (h : IsCost as n c) (g : IsCost as n d) : c = d := by
  have := h.2 d g.1
  have := g.2 c h.1
  omega
mutual
theorem Der.pos {as : List Arc} : ∀ {n c : Int}, Der as n c → 1 ≤ c
  | _, _, .mk _ h => by
    have := h.nn
    omega
theorem DerAll.nn {as : List Arc} : ∀ {ns : List Int} {c : Int}, DerAll as ns c → 0 ≤ c
  | _, _, .nil => Int.le_refl _
  | _, _, .cons h g => by
    have := h.pos
    have := g.nn
    omega
end
/-- what a list of sources costs, where all are found -/
def payS (F : Int → Option Int) : List Int → Int
  | [] => 0
  | n :: ns => (F n).getD 0 + payS F ns
def Ready (F : Int → Option Int) (α : Arc) : Prop := ∀ n ∈ α.src, F n ≠ none
def pay (F : Int → Option Int) (α : Arc) : Int := 1 + payS F α.src
/-- a table that keeps what it has -/
def Grw (F F' : Int → Option Int) : Prop := ∀ n p, F n = some p → F' n = some p
theorem payS_grw {F F' : Int → Option Int} (g : Grw F F') : ∀ ns : List Int, (∀ n ∈ ns, F n ≠ none) → payS F' ns = payS F ns
  | [], _ => rfl
  | n :: ns, h => by
    rw [payS, payS, payS_grw g ns fun m hm => h m (List.mem_cons_of_mem _ hm)]
    cases e : F n with
    | none => exact absurd e (h n List.mem_cons_self)
    | some p => rw [g n p e]
theorem Ready.grw {F F' : Int → Option Int} {α : Arc} (h : Ready F α) (g : Grw F F') : Ready F' α := fun n hn => by
  cases e : F n with
  | none => exact absurd e (h n hn)
  | some p =>
    rw [g n p e]
    exact fun z => nomatch z
theorem pay_grw {F F' : Int → Option Int} {α : Arc} (h : Ready F α) (g : Grw F F') : pay F' α = pay F α := by
  unfold pay
  rw [payS_grw g _ h]
theorem payS_der {as : List Arc} {F : Int → Option Int} (hF : ∀ n p, F n = some p → Der as n p) : ∀ ns : List Int, (∀ n ∈ ns, F n ≠ none) → DerAll as ns (payS F ns)
  | [], _ => .nil
  | n :: ns, h => by
    rw [payS]
    cases e : F n with
    | none => exact absurd e (h n List.mem_cons_self)
    | some p => exact .cons (hF n p e) (payS_der hF ns fun m hm => h m (List.mem_cons_of_mem _ hm))
theorem pay_der {as : List Arc} {F : Int → Option Int} (hF : ∀ n p, F n = some p → Der as n p) {α : Arc} (ha : α ∈ as) (h : Ready F α) : Der as α.tgt (pay F α) := .mk ha (payS_der hF _ h)
structure CoInv (as : List Arc) (D : Arc → Prop) (F O : Int → Option Int) (lk : Int → List L2.Key) (G : List (Int × Int)) : Prop where
  closed : ∀ α ∈ as, D α → Ready F α → ∃ p, O α.tgt = some p ∧ p ≤ pay F α
  made : ∀ n p, O n = some p → ∃ α ∈ as, α.tgt = n ∧ α.link = lk n ∧ Ready F α ∧ pay F α = p
  fo : ∀ n p, F n = some p → O n = some p
  ahead : ∀ n p, O n = some p → F n = none → (p, n) ∈ G
  gd : ∀ z ∈ G, ∃ p, O z.2 = some p ∧ p ≤ z.1
  cost : ∀ n p, F n = some p → IsCost as n p
theorem CoInv.der {as : List Arc} {D : Arc → Prop} {F O : Int → Option Int} {lk : Int → List L2.Key} {G : List (Int × Int)} (h : CoInv as D F O lk G) : ∀ n p, F n = some p → Der as n p := fun n p e => (h.cost n p e).1
/-- the first state -/
theorem CoInv.init (as : List Arc) (lk : Int → List L2.Key) : CoInv as (fun _ => False) (fun _ => none) (fun _ => none) lk [] :=
  ⟨fun _ _ h => h.elim, fun _ _ h => (nomatch h), fun _ _ h => (nomatch h), fun _ _ h => (nomatch h), fun _ h => absurd h List.not_mem_nil, fun _ _ h => (nomatch h)⟩
def setO (O : Int → Option Int) (n p : Int) : Int → Option Int := fun k => if k = n then some p else O k
def setL (lk : Int → List L2.Key) (n : Int) (l : List L2.Key) : Int → List L2.Key := fun k => if k = n then l else lk k
/-- an arc is offered -/
theorem CoInv.offer {as : List Arc} {D : Arc → Prop} {F O O' : Int → Option Int} {lk lk' : Int → List L2.Key} {G G' : List (Int × Int)} {α : Arc} (h : CoInv as D F O lk G) (ha : α ∈ as) (hr : Ready F α)
    (hG : (O' = O ∧ lk' = lk ∧ (∃ q, O α.tgt = some q ∧ q ≤ pay F α) ∧ ∀ z, z ∈ G' ↔ z ∈ G) ∨ (O' = setO O α.tgt (pay F α) ∧ lk' = setL lk α.tgt α.link ∧ (∀ q, O α.tgt = some q → pay F α < q) ∧ ∀ z, z ∈ G' ↔ z = (pay F α, α.tgt) ∨ z ∈ G)) :
    CoInv as (fun β => D β ∨ β = α) F O' lk' G' := by
  rcases hG with ⟨e, el, ⟨q, hq, ql⟩, hG⟩ | ⟨e, el, hq, hG⟩
  · rw [e, el]
    refine ⟨fun β hb hd hrb => ?_, h.made, h.fo, fun n p a b => (hG _).mpr (h.ahead n p a b), fun z hz => h.gd z ((hG z).mp hz), h.cost⟩
    rcases hd with hd | rfl
    · exact h.closed β hb hd hrb
    · exact ⟨q, hq, ql⟩
  · rw [e, el]
    have dd := pay_der h.der ha hr
    have nf : F α.tgt = none := by
      cases z : F α.tgt with
      | none => rfl
      | some p =>
        have h1 := hq p (h.fo _ _ z)
        have h2 := (h.cost _ _ z).2 _ dd
        omega
    refine ⟨fun β hb hd hrb => ?_, fun n p hp => ?_, fun n p hf => ?_, fun n p ho hf => ?_, fun z hz => ?_, h.cost⟩
    · by_cases t : β.tgt = α.tgt
      · rw [t]
        refine ⟨pay F α, if_pos rfl, ?_⟩
        rcases hd with hd | rfl
        · obtain ⟨p, a, b⟩ := h.closed β hb hd hrb
          rw [t] at a
          have := hq p a
          omega
        · exact Int.le_refl _
      · rcases hd with hd | rfl
        · obtain ⟨p, a, b⟩ := h.closed β hb hd hrb
          exact ⟨p, (if_neg t).trans a, b⟩
        · exact absurd rfl t
    · by_cases t : n = α.tgt
      · subst t
        have e2 : some (pay F α) = some p := ((if_pos rfl : setO O α.tgt (pay F α) α.tgt = _).symm.trans hp)
        cases e2
        exact ⟨α, ha, rfl, (if_pos rfl).symm, hr, rfl⟩
      · obtain ⟨β, b1, b2, b3, b4⟩ := h.made n p ((if_neg t : setO O α.tgt (pay F α) n = _).symm.trans hp)
        exact ⟨β, b1, b2, b3.trans (if_neg t).symm, b4⟩
    · have t : n ≠ α.tgt := fun t => by
        rw [t, nf] at hf
        cases hf
      exact (if_neg t).trans (h.fo n p hf)
    · by_cases t : n = α.tgt
      · subst t
        have e2 : some (pay F α) = some p := ((if_pos rfl : setO O α.tgt (pay F α) α.tgt = _).symm.trans ho)
        cases e2
        exact (hG _).mpr (.inl rfl)
      · exact (hG _).mpr (.inr (h.ahead n p ((if_neg t : setO O α.tgt (pay F α) n = _).symm.trans ho) hf))
    · rcases (hG z).mp hz with rfl | hz
      · exact ⟨pay F α, if_pos rfl, Int.le_refl _⟩
      · obtain ⟨p, a, b⟩ := h.gd z hz
        by_cases t : z.2 = α.tgt
        · rw [t] at a
          have := hq p a
          exact ⟨pay F α, if_pos t, by omega⟩
        · exact ⟨p, (if_neg t).trans a, b⟩
mutual
/-- every derivation is beaten by what is found, or by what is ahead -/
theorem CoInv.beat {as : List Arc} {F O : Int → Option Int} {lk : Int → List L2.Key} {G : List (Int × Int)} (h : CoInv as (fun _ => True) F O lk G) : ∀ {n c : Int}, Der as n c → (∃ p, F n = some p ∧ p ≤ c) ∨ ∃ z ∈ G, F z.2 = none ∧ z.1 ≤ c
  | _, _, .mk (α := α) (c := c) ha hs => by
    rcases h.beats hs with ⟨a, b⟩ | ⟨z, hz, a, b⟩
    · obtain ⟨p, e, l⟩ := h.closed α ha trivial a
      unfold pay at l
      cases f : F α.tgt with
      | none => exact .inr ⟨(p, α.tgt), h.ahead _ _ e f, f, by show p ≤ 1 + c; omega⟩
      | some r =>
        have := h.fo _ _ f
        rw [e] at this
        cases this
        exact .inl ⟨p, rfl, by omega⟩
    · exact .inr ⟨z, hz, a, by omega⟩
theorem CoInv.beats {as : List Arc} {F O : Int → Option Int} {lk : Int → List L2.Key} {G : List (Int × Int)} (h : CoInv as (fun _ => True) F O lk G) : ∀ {ns : List Int} {c : Int}, DerAll as ns c → ((∀ n ∈ ns, F n ≠ none) ∧ payS F ns ≤ c) ∨ ∃ z ∈ G, F z.2 = none ∧ z.1 ≤ c
  | _, _, .nil => .inl ⟨fun _ h => absurd h List.not_mem_nil, Int.le_refl _⟩
  | _, _, .cons (n := n) (c := c) (ns := ns) (d := d) h1 h2 => by
    have nn := h2.nn
    have pp := h1.pos
    rcases h.beat h1 with ⟨p, e, l⟩ | ⟨z, hz, a, b⟩
    · rcases h.beats h2 with ⟨a, b⟩ | ⟨z, hz, a, b⟩
      · refine .inl ⟨fun m hm => ?_, ?_⟩
        · rcases List.mem_cons.mp hm with rfl | hm
          · rw [e]
            exact fun z => nomatch z
          · exact a m hm
        · rw [payS, e]
          show p + payS F ns ≤ c + d
          omega
      · exact .inr ⟨z, hz, a, by omega⟩
    · exact .inr ⟨z, hz, a, by omega⟩
end
/-- what was popped was found before -/
theorem CoInv.skip {as : List Arc} {D : Arc → Prop} {F O : Int → Option Int} {lk : Int → List L2.Key} {G G' : List (Int × Int)} {p n : Int} (h : CoInv as D F O lk G) (pm : ((p, n) :: G').Perm G) (hf : F n ≠ none) : CoInv as D F O lk G' := by
  refine ⟨h.closed, h.made, h.fo, fun m q a b => ?_, fun z hz => h.gd z (pm.mem_iff.mp (List.mem_cons_of_mem _ hz)), h.cost⟩
  rcases List.mem_cons.mp (pm.mem_iff.mpr (h.ahead m q a b)) with e | m
  · rw [show m = n from (Prod.mk.inj e).2] at b
    exact absurd b hf
  · exact m
/-- the least of what is ahead, not found yet, is found -/
theorem CoInv.find {as : List Arc} {F O : Int → Option Int} {lk : Int → List L2.Key} {G G' : List (Int × Int)} {p n : Int} (h : CoInv as (fun _ => True) F O lk G) (pm : ((p, n) :: G').Perm G) (least : ∀ y ∈ G', ¬ pLt y (p, n)) (hf : F n = none) : CoInv as (fun α => n ∉ α.src) (setO F n p) O lk G' := by
  have low : ∀ z ∈ G, p ≤ z.1 := fun z hz => by
    rcases List.mem_cons.mp (pm.mem_iff.mpr hz) with rfl | m
    · exact Int.le_refl _
    · have := least z m
      unfold pLt at this
      omega
  have g : Grw F (setO F n p) := fun m q e => by
    unfold setO
    rw [if_neg]
    · exact e
    · intro z
      rw [z, hf] at e
      cases e
  obtain ⟨q, ho, ql⟩ := h.gd (p, n) (pm.mem_iff.mp List.mem_cons_self)
  have eq : q = p := by
    have := low _ (h.ahead n q ho hf)
    have ql : q ≤ p := ql
    have : p ≤ q := this
    omega
  subst eq
  obtain ⟨α, ha, ht, _, hr, hp⟩ := h.made n q ho
  have dn : Der as n q := by
    rw [← ht, ← hp]
    exact pay_der h.der ha hr
  have ic : IsCost as n q := ⟨dn, fun c' hc => by
    rcases h.beat hc with ⟨r, e, _⟩ | ⟨z, hz, _, b⟩
    · rw [hf] at e
      cases e
    · have := low z hz
      omega⟩
  refine ⟨fun β hb hd hrb => ?_, fun m r hm => ?_, fun m r hm => ?_, fun m r hm hn => ?_, fun z hz => h.gd z (pm.mem_iff.mp (List.mem_cons_of_mem _ hz)), fun m r hm => ?_⟩
  · have hrb' : Ready F β := fun m hm => by
      have := hrb m hm
      unfold setO at this
      rw [if_neg (fun z : m = n => hd (z ▸ hm))] at this
      exact this
    obtain ⟨r, a, b⟩ := h.closed β hb trivial hrb'
    exact ⟨r, a, by rw [pay_grw hrb' g]; exact b⟩
  · obtain ⟨β, hb, htb, hlb, hrb, hpb⟩ := h.made m r hm
    exact ⟨β, hb, htb, hlb, hrb.grw g, (pay_grw hrb g).trans hpb⟩
  · unfold setO at hm
    by_cases t : m = n
    · rw [if_pos t] at hm
      cases hm
      rw [t]
      exact ho
    · rw [if_neg t] at hm
      exact h.fo m r hm
  · unfold setO at hn
    by_cases t : m = n
    · rw [if_pos t] at hn
      cases hn
    · rw [if_neg t] at hn
      rcases List.mem_cons.mp (pm.mem_iff.mpr (h.ahead m r hm hn)) with e | x
      · exact absurd (Prod.mk.inj e).2 t
      · exact x
  · unfold setO at hm
    by_cases t : m = n
    · rw [if_pos t] at hm
      cases hm
      rw [t]
      exact ic
    · rw [if_neg t] at hm
      exact h.cost m r hm
theorem CoInv.weak {as : List Arc} {D D' : Arc → Prop} {F O : Int → Option Int} {lk : Int → List L2.Key} {G : List (Int × Int)} (h : CoInv as D F O lk G) (d : ∀ α ∈ as, D' α → Ready F α → D α) : CoInv as D' F O lk G :=
  ⟨fun α ha hd hr => h.closed α ha (d α ha hd hr) hr, h.made, h.fo, h.ahead, h.gd, h.cost⟩
/-- nothing ahead: what is not found cannot be -/
theorem CoInv.none {as : List Arc} {F O : Int → Option Int} {lk : Int → List L2.Key} (h : CoInv as (fun _ => True) F O lk []) {n c : Int} (d : Der as n c) : F n ≠ none := by
  rcases h.beat d with ⟨p, e, _⟩ | ⟨z, hz, _⟩
  · rw [e]
    exact fun z => nomatch z
  · exact absurd hz List.not_mem_nil
end Sn
/-! binary heaps of pairs, as functions of the place. -/
namespace Sn
def swapF (f : Nat → Int × Int) (i j : Nat) : Nat → Int × Int := fun m => if m = j then f i else if m = i then f j else f m
def HeapF (f : Nat → Int × Int) (n : Nat) : Prop := ∀ i, 0 < i → i < n → ¬ pLt (f i) (f ((i - 1) / 2))
/-- a heap but for the item at p, which may be too far down -/
def UpF (f : Nat → Int × Int) (n p : Nat) : Prop := (∀ i, 0 < i → i < n → i ≠ p → ¬ pLt (f i) (f ((i - 1) / 2))) ∧ ∀ i, 0 < i → i < n → (i - 1) / 2 = p → 0 < p → ¬ pLt (f i) (f ((p - 1) / 2))
/-- a heap but for the item at p, which may stand anywhere -/
def DnF (f : Nat → Int × Int) (n p : Nat) : Prop := (∀ i, 0 < i → i < n → i ≠ p → (i - 1) / 2 ≠ p → ¬ pLt (f i) (f ((i - 1) / 2))) ∧ ∀ i, 0 < i → i < n → (i - 1) / 2 = p → 0 < p → ¬ pLt (f i) (f ((p - 1) / 2))
theorem pLt_as {a b : Int × Int} (h : pLt a b) : ¬ pLt b a := by
  unfold pLt at *
  omega
theorem pLt_tr {a b c : Int × Int} (h : ¬ pLt a b) (g : ¬ pLt b c) : ¬ pLt a c := by
  unfold pLt at *
  omega
theorem pLt_tl {a b c : Int × Int} (h : ¬ pLt a b) (g : pLt c b) : ¬ pLt a c := by
  unfold pLt at *
  omega
theorem swapF_l {f : Nat → Int × Int} {i j : Nat} : swapF f i j j = f i := if_pos rfl
theorem swapF_r {f : Nat → Int × Int} {i j : Nat} (h : i ≠ j) : swapF f i j i = f j := by
  unfold swapF
  rw [if_neg h, if_pos rfl]
theorem swapF_n {f : Nat → Int × Int} {i j m : Nat} (h : m ≠ i) (g : m ≠ j) : swapF f i j m = f m := by
  unfold swapF
  rw [if_neg g, if_neg h]
theorem up_step {f : Nat → Int × Int} {n p : Nat} (p0 : 0 < p) (pn : p < n) (h : UpF f n p) (l : pLt (f p) (f ((p - 1) / 2))) : UpF (swapF f ((p - 1) / 2) p) n ((p - 1) / 2) := by
  obtain ⟨h1, h2⟩ := h
  have npq : (p - 1) / 2 ≠ p := by omega
  refine ⟨fun i i0 il ne => ?_, fun i i0 il e q0 => ?_⟩
  · by_cases ip : i = p
    · rw [ip, swapF_l, swapF_r npq]
      exact pLt_as l
    · rw [swapF_n ne ip]
      by_cases a : (i - 1) / 2 = p
      · rw [a, swapF_l]
        exact h2 i i0 il a p0
      · by_cases b : (i - 1) / 2 = (p - 1) / 2
        · rw [b, swapF_r npq]
          have := h1 i i0 il ip
          rw [b] at this
          exact pLt_tl this l
        · rw [swapF_n b a]
          exact h1 i i0 il ip
  · have g2 : ((p - 1) / 2 - 1) / 2 ≠ p := by omega
    have g3 : ((p - 1) / 2 - 1) / 2 ≠ (p - 1) / 2 := by omega
    rw [swapF_n g3 g2]
    have hq := h1 ((p - 1) / 2) q0 (by omega) npq
    by_cases ip : i = p
    · rw [ip, swapF_l]
      exact hq
    · have ni : i ≠ (p - 1) / 2 := by omega
      rw [swapF_n ni ip]
      have := h1 i i0 il ip
      rw [e] at this
      exact pLt_tr this hq
theorem up_done {f : Nat → Int × Int} {n p : Nat} (h : UpF f n p) (l : 0 < p → ¬ pLt (f p) (f ((p - 1) / 2))) : HeapF f n := fun i i0 il => by
  by_cases e : i = p
  · rw [e]
    exact l (e ▸ i0)
  · exact h.1 i i0 il e
theorem dn_step {f : Nat → Int × Int} {n p c : Nat} (hc : (c - 1) / 2 = p) (c0 : 0 < c) (cn : c < n) (h : DnF f n p) (least : ∀ i, 0 < i → i < n → (i - 1) / 2 = p → i ≠ c → ¬ pLt (f i) (f c)) : DnF (swapF f c p) n c := by
  obtain ⟨h1, h2⟩ := h
  have npc : c ≠ p := by omega
  refine ⟨fun i i0 il ne nc => ?_, fun i i0 il e _ => ?_⟩
  · by_cases ip : i = p
    · rw [ip, swapF_l]
      have q0 : 0 < p := by omega
      have a1 : (p - 1) / 2 ≠ p := by omega
      have a2 : (p - 1) / 2 ≠ c := by omega
      rw [swapF_n a2 a1]
      exact h2 c c0 cn hc q0
    · rw [swapF_n ne ip]
      by_cases b : (i - 1) / 2 = p
      · rw [b, swapF_l]
        exact least i i0 il b ne
      · rw [swapF_n nc b]
        exact h1 i i0 il ip b
  · have ni : i ≠ c := by omega
    have nip : i ≠ p := by omega
    rw [hc, swapF_l, swapF_n ni nip]
    have := h1 i i0 il nip (by omega)
    rw [e] at this
    exact this
theorem dn_leaf {f : Nat → Int × Int} {n p : Nat} (h : DnF f n p) (l : ¬ p < n / 2) : UpF f n p :=
  ⟨fun i i0 il ne => h.1 i i0 il ne (by omega), fun i i0 il e _ => absurd e (by omega)⟩
theorem heap_least {f : Nat → Int × Int} {n : Nat} (h : HeapF f n) : ∀ i, i < n → ¬ pLt (f i) (f 0) := by
  intro i
  induction i using Nat.strongRecOn with
  | ind i ih =>
    intro il
    by_cases e : i = 0
    · rw [e]
      unfold pLt
      omega
    · have := h i (by omega) il
      exact pLt_tr this (ih ((i - 1) / 2) (by omega) (by omega))
theorem heap_push {f g : Nat → Int × Int} {n : Nat} (h : HeapF f n) (e : ∀ i, i < n → g i = f i) : UpF g (n + 1) n := by
  refine ⟨fun i i0 il ne => ?_, fun i i0 il e2 _ => absurd e2 (by omega)⟩
  rw [e i (by omega), e ((i - 1) / 2) (by omega)]
  exact h i i0 (by omega)
theorem heap_pop {f g : Nat → Int × Int} {n : Nat} (h : HeapF f (n + 1)) (e : ∀ i, 0 < i → i < n → g i = f i) : DnF g n 0 := by
  refine ⟨fun i i0 il ne ne2 => ?_, fun i i0 il e2 z => absurd z (by omega)⟩
  rw [e i i0 il, e ((i - 1) / 2) (by omega) (by omega)]
  exact h i i0 (by omega)
end Sn
/-! heappush and heappop of a list of pairs of ints. -/
namespace Hq
open PySem PySem.Spec PyProof.Rows PySem.W
theorem entry_push : entryFor table "_heapq.heappush" = some Builtin.«_heapq.heappush» := entryFor_of_tree (by kernel_rfl)
theorem entry_pop : entryFor table "_heapq.heappop" = some Builtin.«_heapq.heappop» := entryFor_of_tree (by kernel_rfl)
theorem entry_sift : entryFor table "_heapq.heapify.sift" = some Builtin.«_heapq.heapify.sift» := entryFor_of_tree (by kernel_rfl)
theorem kind_push : builtinKind "_heapq.heappush" = none := by decide +kernel
theorem kind_pop : builtinKind "_heapq.heappop" = none := by decide +kernel
theorem plain_push : plainId "_heapq.heappush" = true := by decide +kernel
theorem plain_pop : plainId "_heapq.heappop" = true := by decide +kernel
theorem plain_sift : plainId "_heapq.heapify.sift" = true := by decide +kernel
theorem args_push (a b : Value) : argsOk "_heapq.heappush" ⟨[a, b], []⟩ := by unfold argsOk; kernel_rfl
theorem args_pop (a : Value) : argsOk "_heapq.heappop" ⟨[a], []⟩ := by unfold argsOk; kernel_rfl
abbrev lobj (xs : Array Value) (n : Nat) : Obj := { cls := .type "list", data := .seq xs n }
/-- the key at a place -/
def fk (kv : Value → Int × Int) (xs : Array Value) : Nat → Int × Int := fun i => match xs[i]? with
  | some v => kv v
  | none => (0, 0)
theorem fk_at {kv : Value → Int × Int} {xs : Array Value} {i : Nat} (h : i < xs.size) : fk kv xs i = kv xs[i] := by
  unfold fk
  rw [Array.getElem?_eq_getElem h]
def swp (i j : Nat) (x y : Value) (xs : Array Value) : Array Value := (xs.setIfInBounds i y).setIfInBounds j x
theorem swp_size {i j : Nat} {x y : Value} {xs : Array Value} : (swp i j x y xs).size = xs.size := by
  unfold swp
  rw [Array.size_setIfInBounds, Array.size_setIfInBounds]
theorem swp_fk {kv : Value → Int × Int} {xs : Array Value} {i j : Nat} (hi : i < xs.size) (hj : j < xs.size) : fk kv (swp i j xs[i] xs[j] xs) = Sn.swapF (fk kv xs) i j := by
  funext m
  unfold fk swp Sn.swapF
  rw [Array.getElem?_setIfInBounds, Array.getElem?_setIfInBounds, Array.size_setIfInBounds]
  by_cases a : m = j
  · subst a
    rw [if_pos rfl, if_pos hj, if_pos rfl]
    dsimp only
    rw [Array.getElem?_eq_getElem hi]
  · rw [if_neg (fun z => a z.symm), if_neg a]
    by_cases b : m = i
    · subst b
      rw [if_pos rfl, if_pos hi, if_pos rfl]
      dsimp only
      rw [Array.getElem?_eq_getElem hj]
    · rw [if_neg (fun z => b z.symm), if_neg b]
theorem swp_perm {xs : Array Value} {i j : Nat} (hi : i < xs.size) (hj : j < xs.size) : (swp i j xs[i] xs[j] xs).toList.Perm xs.toList := by
  have e : swp i j xs[i] xs[j] xs = xs.swap i j hi hj := by
    unfold swp
    rw [Array.swap_def]
    simp only [Array.setIfInBounds, hi, hj, Array.size_set, dif_pos]
  rw [e]
  exact (Array.swap_perm hi hj).toList
def Fr (a : Addr) (h h' : Heap) : Prop := ∀ b u, b ≠ a → h.get? b = some u → h'.get? b = some u
theorem Fr.trans {a : Addr} {h h' h'' : Heap} (f : Fr a h h') (g : Fr a h' h'') : Fr a h h'' := fun b u n q => g b u n (f b u n q)
abbrev Post (prog : Program) (w : World) (A : Around) (R : Result → Shared → Prop) : PySem.Fin → Shared → Prop := fun fin s' => match fin with
  | .done f => R (.ok f) s'
  | .again c' => c'.quiet = true ∧ codeAny (model prog w) A c' R s'
/-- the items are pairs, by kv, none of them the list itself -/
def Its (h : Heap) (a : Addr) (kv : Value → Int × Int) (xs : Array Value) : Prop := ∀ v ∈ xs.toList, Srt.IsPair h v (kv v).1 (kv v).2
section
variable {prog : Program} {w : World} {A : Around} {E : Value → Shared → Prop} {s : Shared}
theorem Its.fr {h h' : Heap} {a : Addr} {n : Nat} {kv : Value → Int × Int} {xs zs : Array Value} (i : Its h a kv xs) (ha : h.get? a = some (lobj zs n)) (f : Fr a h h') : Its h' a kv xs := by
  intro v hv
  obtain ⟨b, o, t, u, n, e, ho, hc, hd⟩ := i v hv
  refine ⟨b, o, t, u, n, e, f b o (fun z => ?_) ho, hc, hd⟩
  rw [z, ha] at ho
  cases ho
  exact absurd (Value.type.inj hc) (by decide)
theorem Its.perm {h : Heap} {a : Addr} {kv : Value → Int × Int} {xs ys : Array Value} (i : Its h a kv xs) (p : ys.toList.Perm xs.toList) : Its h a kv ys := fun v hv => i v (p.mem_iff.mp hv)
theorem items_at {a : Addr} {xs : Array Value} {n : Nat} {Q : Array Value → Shared → Prop} (h : s.heap.get? a = some (lobj xs n)) (q : Q xs s) : wpAny (model prog w) A (do
    let some xs ← seqItems? (.ref a) | unsupported "internal:_heapq"
    return xs) Q E s := by
  refine wpAny_bind (wpAny_seqItems h rfl ?_)
  exact wpAny_pure q
theorem at_at {xs : Array Value} {i : Nat} {z : String} {Q : Value → Shared → Prop} (h : i < xs.size) (q : Q xs[i] s) : wpAny (model prog w) A (match xs[i]? with
    | some v => pure v
    | none => unsupported z) Q E s := by
  rw [Array.getElem?_eq_getElem h]
  exact wpAny_pure q
theorem lexLt_pair (a b c d : Int) : HT.lexLt [a, b] [c, d] = SrtO.lexB (a, b) (c, d) := by
  unfold SrtO.lexB
  simp only [HT.lexLt]
  by_cases e : a = c
  · subst e
    simp
    omega
  · simp [e]
theorem less_at {x y : Value} {p q : Int × Int} {Q : Bool → Shared → Prop} (hx : Srt.IsPair s.heap x p.1 p.2) (hy : Srt.IsPair s.heap y q.1 q.2) (hu : A.units < cLine) (h : Q (SrtO.lexB p q) s) : wpAny (model prog w) A (holding [x, y] (do truthOfDropped (← richCompare .Lt x y))) Q E s := by
  obtain ⟨a, o, t, u, n, rfl, ho, hc, hd⟩ := hx
  obtain ⟨a', o', t', u', n', rfl, ho', hc', hd'⟩ := hy
  refine wpAny_holding (wpAny_bind (HT.lt_tupInts (ns := [p.1, p.2]) (ms := [q.1, q.2]) ⟨o, ho, hc, n, hd⟩ ⟨o', ho', hc', n', hd'⟩ (L2.intsAre_of (.cons ⟨t, rfl⟩ (.cons ⟨u, rfl⟩ .nil))) (L2.intsAre_of (.cons ⟨t', rfl⟩ (.cons ⟨u', rfl⟩ .nil))) hu ?_))
  rw [lexLt_pair]
  exact wpAny_pure h
theorem up_ok {a : Addr} {kv : Value → Int × Int} {res : Value} {R : Result → Shared → Prop} (hu : A.in1.units < cLine) : ∀ (k pos : Nat), pos ≤ k → ∀ (s : Shared) (xs : Array Value) (n : Nat), s.heap.get? a = some (lobj xs n) → xs.size ≤ sizeLine → Its s.heap a kv xs → pos < xs.size → Sn.UpF (fk kv xs) xs.size pos →
    (∀ (h' : Heap) (ys : Array Value) (n' : Nat), h'.get? a = some (lobj ys n') → Fr a s.heap h' → ys.toList.Perm xs.toList → Sn.HeapF (fk kv ys) ys.size → R (.ok (.ret res)) { s with heap := h' }) →
    wpAny (model prog w) A.in1 (Builtin.«_heapq.heapify.sift» ⟨[.ref a, .bool false, .bool false, rawInt pos, rawInt 0, res, rawInt (-1)], []⟩) (Post prog w A R) (fun e s' => R (.error e) s') s := by
  intro k
  induction k with
  | zero =>
    intro pos hp s xs n h hz it hl up q
    obtain rfl : pos = 0 := Nat.le_zero.mp hp
    show wpAny _ _ (_ >>= _) _ _ _
    refine wpAny_bind (items_at h ?_)
    show wpAny _ _ (ret res) _ _ _
    exact wpAny_pure (q s.heap xs n h (fun _ _ _ e => e) (List.Perm.refl _) (Sn.up_done up fun z => absurd z (by decide)))
  | succ k ih =>
    intro pos hp s xs n h hz it hl up q
    show wpAny _ _ (_ >>= _) _ _ _
    refine wpAny_bind (items_at h ?_)
    have e1 : ((pos : Nat) : Int).toNat = pos := Int.toNat_natCast _
    by_cases p0 : 0 < pos
    · show wpAny _ _ (if _ > _ then _ else _) _ _ _
      rw [if_pos (show ((pos : Nat) : Int).toNat > Int.toNat 0 by rw [e1]; exact p0)]
      rw [e1]
      have hq : (pos - 1) / 2 < xs.size := by omega
      show wpAny _ _ (_ >>= _) _ _ _
      refine wpAny_bind (at_at hl ?_)
      refine wpAny_bind (at_at hq ?_)
      show wpAny _ _ (_ >>= _) _ _ _
      have hx := it xs[pos] (by simp)
      have hy := it xs[(pos - 1) / 2] (by simp)
      show wpAny _ _ ((holding _ _ >>= _) >>= _) _ _ _
      refine wpAny_bind (wpAny_bind (less_at hx hy hu ?_))
      refine wpAny_bind (items_at h ?_)
      show wpAny _ _ (if (xs.size != xs.size) = true then _ else _) _ _ _
      rw [if_neg (by simp)]
      refine wpAny_pure ?_
      show wpAny _ _ (if SrtO.lexB _ _ = true then _ else _) _ _ _
      by_cases lt : SrtO.lexB (kv xs[pos]) (kv xs[(pos - 1) / 2]) = true
      · rw [if_pos lt]
        show wpAny _ _ ((_ >>= _) >>= _) _ _ _
        refine wpAny_bind (wpAny_bind (items_at h ?_))
        refine wpAny_bind (at_at hq (wpAny_bind (at_at hl ?_)))
        refine wpAny_updateSeq h rfl (f := swp ((pos - 1) / 2) pos xs[(pos - 1) / 2] xs[pos]) ?_ hz (by rw [swp_size]; omega)
        refine wpAny_pure ⟨plainId_quiet plain_sift _, codeAny_builtin entry_sift ?_⟩
        rw [Around.under_plainId plain_sift _]
        have h' := PySem.IsL.update h (swp ((pos - 1) / 2) pos xs[(pos - 1) / 2] xs[pos])
        have fr : Fr a s.heap (s.heap.update a (Obj.mapSeq (swp ((pos - 1) / 2) pos xs[(pos - 1) / 2] xs[pos]))) := fun b u nb hb => (Heap.get?_update_other s.heap _ (Ne.symm nb)).trans hb
        have pm := swp_perm hq hl
        have ek := swp_fk (kv := kv) hq hl
        have lt2 : Sn.pLt (fk kv xs pos) (fk kv xs ((pos - 1) / 2)) := by
          rw [fk_at hl, fk_at hq]
          exact SrtO.lexB_iff.mp lt
        refine ih ((pos - 1) / 2) (by omega) { s with heap := _ } (swp ((pos - 1) / 2) pos xs[(pos - 1) / 2] xs[pos] xs) _ h' (by rw [swp_size]; exact hz) ((it.fr h fr).perm pm) (by rw [swp_size]; exact hq) ?_ fun h2 ys n' g1 g2 g3 g4 => q h2 ys n' g1 (fr.trans g2) (g3.trans pm) g4
        rw [ek, swp_size]
        exact Sn.up_step p0 hl up lt2
      · rw [if_neg lt]
        show wpAny _ _ (ret res) _ _ _
        refine wpAny_pure (q s.heap xs n h (fun _ _ _ e => e) (List.Perm.refl _) (Sn.up_done up fun _ z => lt ?_))
        rw [fk_at hl, fk_at hq] at z
        exact SrtO.lexB_iff.mpr z
    · obtain rfl : pos = 0 := by omega
      show wpAny _ _ (ret res) _ _ _
      exact wpAny_pure (q s.heap xs n h (fun _ _ _ e => e) (List.Perm.refl _) (Sn.up_done up fun z => absurd z (by decide)))
theorem dn_ok {a : Addr} {kv : Value → Int × Int} {res : Value} {R : Result → Shared → Prop} (hu : A.in1.units < cLine) : ∀ (k pos : Nat) (s : Shared) (xs : Array Value) (n : Nat), xs.size - pos ≤ k → s.heap.get? a = some (lobj xs n) → xs.size ≤ sizeLine → Its s.heap a kv xs → pos < xs.size → Sn.DnF (fk kv xs) xs.size pos →
    (∀ (h' : Heap) (ys : Array Value) (n' : Nat), h'.get? a = some (lobj ys n') → Fr a s.heap h' → ys.toList.Perm xs.toList → Sn.HeapF (fk kv ys) ys.size → R (.ok (.ret res)) { s with heap := h' }) →
    wpAny (model prog w) A.in1 (Builtin.«_heapq.heapify.sift» ⟨[.ref a, .bool false, .bool true, rawInt pos, rawInt 0, res, rawInt (-1)], []⟩) (Post prog w A R) (fun e s' => R (.error e) s') s := by
  intro k
  induction k with
  | zero =>
    intro pos s xs n hk h hz it hl
    omega
  | succ k ih =>
    intro pos s xs n hk h hz it hl dn q
    show wpAny _ _ (_ >>= _) _ _ _
    refine wpAny_bind (items_at h ?_)
    have e1 : ((pos : Nat) : Int).toNat = pos := Int.toNat_natCast _
    show wpAny _ _ (if true = true then _ else _) _ _ _
    rw [if_pos rfl]
    show wpAny _ _ (if _ < _ then _ else _) _ _ _
    by_cases pl : pos < xs.size / 2
    · rw [if_pos (show ((pos : Nat) : Int).toNat < xs.size / 2 by rw [e1]; exact pl)]
      rw [e1]
      have cl : 2 * pos + 1 < xs.size := by omega
      show wpAny _ _ (if 2 * pos + 1 + 1 < xs.size then _ else _) _ _ _
      by_cases cr : 2 * pos + 1 + 1 < xs.size
      · rw [if_pos cr]
        show wpAny _ _ (_ >>= _) _ _ _
        refine wpAny_bind (at_at cl ?_)
        refine wpAny_bind (at_at cr ?_)
        have hx := it xs[2 * pos + 1] (by simp)
        have hy := it xs[2 * pos + 1 + 1] (by simp)
        show wpAny _ _ ((holding _ _ >>= _) >>= _) _ _ _
        refine wpAny_bind (wpAny_bind (less_at hx hy hu ?_))
        refine wpAny_bind (items_at h ?_)
        show wpAny _ _ (if (xs.size != xs.size) = true then _ else _) _ _ _
        rw [if_neg (by simp)]
        refine wpAny_pure ?_
        show wpAny _ _ (if (!SrtO.lexB _ _) = true then _ else _) _ _ _
        by_cases lt : SrtO.lexB (kv xs[2 * pos + 1]) (kv xs[2 * pos + 1 + 1]) = true
        · rw [lt, if_neg (show ¬ (!true) = true from Bool.false_ne_true)]
          have lt2 : Sn.pLt (fk kv xs (2 * pos + 1)) (fk kv xs (2 * pos + 1 + 1)) := by
            rw [fk_at cl, fk_at cr]
            exact SrtO.lexB_iff.mp lt
          show wpAny _ _ ((_ >>= _) >>= _) _ _ _
          refine wpAny_bind (wpAny_bind (items_at h ?_))
          refine wpAny_bind (at_at cl (wpAny_bind (at_at hl ?_)))
          refine wpAny_updateSeq h rfl (f := swp (2 * pos + 1) pos xs[2 * pos + 1] xs[pos]) ?_ hz (by rw [swp_size]; omega)
          refine wpAny_pure ⟨plainId_quiet plain_sift _, codeAny_builtin entry_sift ?_⟩
          rw [Around.under_plainId plain_sift _]
          have h' := PySem.IsL.update h (swp (2 * pos + 1) pos xs[2 * pos + 1] xs[pos])
          have fr : Fr a s.heap (s.heap.update a (Obj.mapSeq (swp (2 * pos + 1) pos xs[2 * pos + 1] xs[pos]))) := fun b u nb hb => (Heap.get?_update_other s.heap _ (Ne.symm nb)).trans hb
          have pm := swp_perm cl hl
          have ek := swp_fk (kv := kv) cl hl
          refine ih (2 * pos + 1) { s with heap := _ } (swp (2 * pos + 1) pos xs[2 * pos + 1] xs[pos] xs) _ (by rw [swp_size]; omega) h' (by rw [swp_size]; exact hz) ((it.fr h fr).perm pm) (by rw [swp_size]; exact cl) ?_ fun h2 ys n' g1 g2 g3 g4 => q h2 ys n' g1 (fr.trans g2) (g3.trans pm) g4
          rw [ek, swp_size]
          exact Sn.dn_step (by omega) (by omega) cl dn fun i i0 il e ne => by
                      obtain rfl : i = 2 * pos + 1 + 1 := by omega
                      exact Sn.pLt_as lt2
        · rw [show (!SrtO.lexB (kv xs[2 * pos + 1]) (kv xs[2 * pos + 1 + 1])) = true by simpa using lt, if_pos rfl]
          have lt2 : ¬ Sn.pLt (fk kv xs (2 * pos + 1)) (fk kv xs (2 * pos + 1 + 1)) := by
            rw [fk_at cl, fk_at cr]
            exact fun z => lt (SrtO.lexB_iff.mpr z)
          show wpAny _ _ ((_ >>= _) >>= _) _ _ _
          refine wpAny_bind (wpAny_bind (items_at h ?_))
          refine wpAny_bind (at_at cr (wpAny_bind (at_at hl ?_)))
          refine wpAny_updateSeq h rfl (f := swp (2 * pos + 1 + 1) pos xs[2 * pos + 1 + 1] xs[pos]) ?_ hz (by rw [swp_size]; omega)
          refine wpAny_pure ⟨plainId_quiet plain_sift _, codeAny_builtin entry_sift ?_⟩
          rw [Around.under_plainId plain_sift _]
          have h' := PySem.IsL.update h (swp (2 * pos + 1 + 1) pos xs[2 * pos + 1 + 1] xs[pos])
          have fr : Fr a s.heap (s.heap.update a (Obj.mapSeq (swp (2 * pos + 1 + 1) pos xs[2 * pos + 1 + 1] xs[pos]))) := fun b u nb hb => (Heap.get?_update_other s.heap _ (Ne.symm nb)).trans hb
          have pm := swp_perm cr hl
          have ek := swp_fk (kv := kv) cr hl
          refine ih (2 * pos + 1 + 1) { s with heap := _ } (swp (2 * pos + 1 + 1) pos xs[2 * pos + 1 + 1] xs[pos] xs) _ (by rw [swp_size]; omega) h' (by rw [swp_size]; exact hz) ((it.fr h fr).perm pm) (by rw [swp_size]; exact cr) ?_ fun h2 ys n' g1 g2 g3 g4 => q h2 ys n' g1 (fr.trans g2) (g3.trans pm) g4
          rw [ek, swp_size]
          exact Sn.dn_step (by omega) (by omega) cr dn fun i i0 il e ne => by
                      obtain rfl : i = 2 * pos + 1 := by omega
                      exact lt2
      · rw [if_neg cr]
        show wpAny _ _ ((_ >>= _) >>= _) _ _ _
        refine wpAny_bind (wpAny_bind (items_at h ?_))
        refine wpAny_bind (at_at cl (wpAny_bind (at_at hl ?_)))
        refine wpAny_updateSeq h rfl (f := swp (2 * pos + 1) pos xs[2 * pos + 1] xs[pos]) ?_ hz (by rw [swp_size]; omega)
        refine wpAny_pure ⟨plainId_quiet plain_sift _, codeAny_builtin entry_sift ?_⟩
        rw [Around.under_plainId plain_sift _]
        have h' := PySem.IsL.update h (swp (2 * pos + 1) pos xs[2 * pos + 1] xs[pos])
        have fr : Fr a s.heap (s.heap.update a (Obj.mapSeq (swp (2 * pos + 1) pos xs[2 * pos + 1] xs[pos]))) := fun b u nb hb => (Heap.get?_update_other s.heap _ (Ne.symm nb)).trans hb
        have pm := swp_perm cl hl
        have ek := swp_fk (kv := kv) cl hl
        refine ih (2 * pos + 1) { s with heap := _ } (swp (2 * pos + 1) pos xs[2 * pos + 1] xs[pos] xs) _ (by rw [swp_size]; omega) h' (by rw [swp_size]; exact hz) ((it.fr h fr).perm pm) (by rw [swp_size]; exact cl) ?_ fun h2 ys n' g1 g2 g3 g4 => q h2 ys n' g1 (fr.trans g2) (g3.trans pm) g4
        rw [ek, swp_size]
        exact Sn.dn_step (by omega) (by omega) cl dn fun i i0 il e ne => by
                  exact absurd e (by omega)
    · rw [if_neg (show ¬ ((pos : Nat) : Int).toNat < xs.size / 2 by rw [e1]; exact pl)]
      rw [e1]
      refine wpAny_pure ⟨plainId_quiet plain_sift _, codeAny_builtin entry_sift ?_⟩
      rw [Around.under_plainId plain_sift _]
      exact up_ok hu pos pos (Nat.le_refl _) s xs n h hz it hl (Sn.dn_leaf dn pl) q
theorem push_ok {a : Addr} {kv : Value → Int × Int} {xs : Array Value} {n : Nat} {v : Value} {Q : Value → Shared → Prop} (hu : A.in1.units < cLine) (h : s.heap.get? a = some (lobj xs n)) (hz : xs.size < sizeLine) (it : Its s.heap a kv xs) (iv : Srt.IsPair s.heap v (kv v).1 (kv v).2) (hp : Sn.HeapF (fk kv xs) xs.size)
    (q : ∀ (h' : Heap) (ys : Array Value) (n' : Nat), h'.get? a = some (lobj ys n') → Fr a s.heap h' → ys.toList.Perm (xs.push v).toList → Sn.HeapF (fk kv ys) ys.size → Q .none { s with heap := h' }) :
    wpAny (model prog w) A (call (.builtin "_heapq.heappush") [.ref a, v]) Q E s := by
  refine call_function_tree kind_push plain_push entry_push (args_push _ _) ?_
  show wpAny _ A.in1 (_ >>= _) _ _ _
  refine wpAny_bind ?_
  show wpAny _ A.in1 (_ >>= _) _ _ _
  refine wpAny_bind (wpAny_of_eq (a := ()) rfl ?_)
  refine wpAny_bind (wpAny_of_eq (a := ()) rfl ?_)
  show wpAny _ A.in1 (_ >>= _) _ _ _
  refine wpAny_bind ?_
  show wpAny _ A.in1 (_ >>= _) _ _ _
  refine wpAny_bind (wpAny_isInstance (T := "list") ⟨_, h, rfl⟩ AutoSeq1.sub_list_list ?_)
  show wpAny _ A.in1 (pure a) _ _ _
  refine wpAny_pure (wpAny_pure ?_)
  show wpAny _ A.in1 (_ >>= _) _ _ _
  refine wpAny_bind (wpAny_updateSeq h rfl (f := fun x => x.push v) ?_ (by omega) (by rw [Array.size_push]; omega))
  have h' := PySem.IsL.update h (fun x => x.push v)
  have fr : Fr a s.heap (s.heap.update a (Obj.mapSeq fun x => x.push v)) := fun b u nb hb => (Heap.get?_update_other s.heap _ (Ne.symm nb)).trans hb
  have iv' : Its s.heap a kv (xs.push v) := fun u hu => by
    rw [Array.toList_push] at hu
    rcases List.mem_append.mp hu with m | m
    · exact it u m
    · rw [List.mem_singleton.mp m]
      exact iv
  refine wpAny_bind (items_at h' ?_)
  refine wpAny_pure ⟨plainId_quiet plain_sift _, codeAny_builtin entry_sift ?_⟩
  rw [Around.under_plainId plain_sift _]
  have e1 : (xs.push v).size - 1 = xs.size := by rw [Array.size_push]; omega
  rw [e1]
  refine up_ok (R := fun r s' => match r with
    | .ok (.ret v) => Q v s'
    | .ok _ => False
    | .error e => E e s') hu xs.size xs.size (Nat.le_refl _) { s with heap := _ } (xs.push v) _ h' (by rw [Array.size_push]; omega) (iv'.fr h fr) (by rw [Array.size_push]; omega) ?_ fun h2 ys n' g1 g2 g3 g4 => q h2 ys n' g1 (fr.trans g2) g3 g4
  rw [Array.size_push]
  refine Sn.heap_push hp fun i hi => ?_
  unfold fk
  rw [Array.getElem?_push_lt hi, Array.getElem?_eq_getElem hi]
theorem pop_ok {a : Addr} {kv : Value → Int × Int} {xs : Array Value} {n : Nat} {Q : Value → Shared → Prop} (hu : A.in1.units < cLine) (h : s.heap.get? a = some (lobj xs n)) (hz : xs.size ≤ sizeLine) (h0 : 0 < xs.size) (it : Its s.heap a kv xs) (hp : Sn.HeapF (fk kv xs) xs.size)
    (q : ∀ (h' : Heap) (ys : Array Value) (n' : Nat), h'.get? a = some (lobj ys n') → Fr a s.heap h' → (xs[0] :: ys.toList).Perm xs.toList → Sn.HeapF (fk kv ys) ys.size → Q xs[0] { s with heap := h' }) :
    wpAny (model prog w) A (call (.builtin "_heapq.heappop") [.ref a]) Q E s := by
  refine call_function_tree kind_pop plain_pop entry_pop (args_pop _) ?_
  show wpAny _ A.in1 (_ >>= _) _ _ _
  refine wpAny_bind ?_
  show wpAny _ A.in1 (_ >>= _) _ _ _
  refine wpAny_bind (wpAny_of_eq (a := Value.ref a) rfl ?_)
  show wpAny _ A.in1 (_ >>= _) _ _ _
  refine wpAny_bind ?_
  show wpAny _ A.in1 (_ >>= _) _ _ _
  refine wpAny_bind (wpAny_isInstance (T := "list") ⟨_, h, rfl⟩ AutoSeq1.sub_list_list ?_)
  show wpAny _ A.in1 (pure a) _ _ _
  refine wpAny_pure (wpAny_pure ?_)
  show wpAny _ A.in1 (_ >>= _) _ _ _
  refine wpAny_bind (items_at h ?_)
  obtain ⟨L⟩ := xs
  cases L with
  | nil => exact absurd h0 (by decide)
  | cons x0 t =>
    by_cases tn : t = []
    · subst tn
      show wpAny _ A.in1 (_ >>= _) _ _ _
      refine wpAny_bind (wpAny_updateSeq h rfl (f := fun x => x.pop) ?_ hz (by rw [Array.size_pop]; omega))
      show wpAny _ A.in1 (ret x0) _ _ _
      have h' := PySem.IsL.update h (fun x => x.pop)
      refine wpAny_pure (q _ #[] _ h' (fun b u nb hb => (Heap.get?_update_other s.heap _ (Ne.symm nb)).trans hb) (List.Perm.refl _) fun i i0 il => absurd il (Nat.not_lt_zero _))
    · obtain ⟨m, z, rfl⟩ := Sn.snoc_of tn
      have sz : (Array.mk (x0 :: (m ++ [z]))).size = m.length + 2 := by simp
      have eb : (Array.mk (x0 :: (m ++ [z]))).back? = some z := by simp [Array.back?]
      have pp : (Array.mk (x0 :: (m ++ [z]))).pop = Array.mk (x0 :: m) := by
        rw [← Array.toList_inj, Array.toList_pop]
        show (x0 :: (m ++ [z])).dropLast = x0 :: m
        rw [← List.cons_append, List.dropLast_concat]
      rw [eb]
      show wpAny _ A.in1 (_ >>= _) _ _ _
      refine wpAny_bind (wpAny_updateSeq h rfl (f := fun x => x.pop) ?_ hz (by rw [Array.size_pop]; omega))
      show wpAny _ A.in1 (if ((Array.mk (x0 :: (m ++ [z]))).size == 1) = true then _ else _) _ _ _
      rw [if_neg (by rw [sz]; simp)]
      refine wpAny_bind (at_at (i := 0) (z := "_heapq.index") h0 ?_)
      show wpAny _ A.in1 (updateSeq a _ >>= _) _ _ _
      have h1 := PySem.IsL.update h (fun x => x.pop)
      rw [pp] at h1
      have fr1 : Fr a s.heap (s.heap.update a (Obj.mapSeq fun x => x.pop)) := fun b u nb hb => (Heap.get?_update_other s.heap _ (Ne.symm nb)).trans hb
      generalize s.heap.update a (Obj.mapSeq fun x => x.pop) = hp1 at h1 fr1 ⊢
      have ez : (Array.mk (x0 :: m)).setIfInBounds 0 z = Array.mk (z :: m) := by
        rw [← Array.toList_inj, Array.toList_setIfInBounds]
        rfl
      show wpAny _ A.in1 (_ >>= _) _ _ _
      refine wpAny_bind (wpAny_updateSeq (s := { s with heap := hp1 }) h1 rfl (f := fun x => x.setIfInBounds 0 z) ?_ (by show m.length + 1 ≤ _; omega) (by rw [Array.size_setIfInBounds]; show m.length + 1 ≤ _; omega))
      have h2 := PySem.IsL.update h1 (fun x => x.setIfInBounds 0 z)
      rw [ez] at h2
      have fr2 : Fr a hp1 (hp1.update a (Obj.mapSeq fun x => x.setIfInBounds 0 z)) := fun b u nb hb => (Heap.get?_update_other hp1 _ (Ne.symm nb)).trans hb
      refine wpAny_pure ⟨plainId_quiet plain_sift _, codeAny_builtin entry_sift ?_⟩
      rw [Around.under_plainId plain_sift _]
      have pm : (x0 :: (z :: m)).Perm (x0 :: (m ++ [z])) := List.Perm.cons x0 (List.perm_append_singleton z m).symm
      have it2 : Its s.heap a kv (Array.mk (z :: m)) := fun v hv => it v (pm.mem_iff.mp (List.mem_cons_of_mem _ hv))
      refine dn_ok (R := fun r s' => match r with
        | .ok (.ret v) => Q v s'
        | .ok _ => False
        | .error e => E e s') hu (m.length + 1) 0 { s with heap := hp1.update a (Obj.mapSeq fun x => x.setIfInBounds 0 z) } (Array.mk (z :: m)) _ (by show m.length + 1 - 0 ≤ _; omega) h2 (by show m.length + 1 ≤ _; omega) (it2.fr h (fr1.trans fr2)) (by show 0 < m.length + 1; omega) ?_ fun h3 ys n' g1 g2 g3 g4 => q h3 ys n' g1 ((fr1.trans fr2).trans g2) ((List.Perm.cons x0 g3).trans pm) g4
      rw [sz] at hp
      refine Sn.heap_pop (n := m.length + 1) hp fun i i0 il => ?_
      unfold fk
      obtain ⟨j, rfl⟩ : ∃ j, i = j + 1 := ⟨i - 1, by omega⟩
      have e : (Array.mk (z :: m))[j + 1]? = (Array.mk (x0 :: (m ++ [z])))[j + 1]? := by
        simp only [List.getElem?_toArray, List.getElem?_cons_succ]
        rw [List.getElem?_append_left (by omega)]
      rw [e]
end
end Hq
/-! heappush and heappop as rules of the layer. -/
namespace Sn
open PySem PySem.Spec PyProof.Rows L2 Evl Gd Hq
/-- a list of pairs that is a heap -/
def HeapL (fs : List (Int × Int)) : Prop := HeapF (fun i => fs.getD i (0, 0)) fs.length
theorem heapL_nil : HeapL [] := fun i _ il => absurd il (Nat.not_lt_zero _)
theorem kOf_key {H : Hp} {xs : List V} {us : List Value} {fs : List (Int × Int)} (hp : PairsAt H xs fs) (e1 : xs = us.map backV) : fs = us.map fun u => kOf H (backV u) := by
  rw [← hp.map, e1, List.map_map]
  rfl
theorem fk_get {kv : Value → Int × Int} (us : List Value) (i : Nat) : fk kv us.toArray i = (us.map kv).getD i (0, 0) := by
  unfold fk
  rw [List.getD_eq_getElem?_getD, List.getElem?_map, List.getElem?_toArray]
  cases us[i]? <;> rfl
theorem heap_fk {kv : Value → Int × Int} {us : List Value} : HeapL (us.map kv) ↔ HeapF (fk kv us.toArray) us.toArray.size := by
  unfold HeapL
  rw [List.length_map, List.size_toArray]
  rw [show (fun i => (us.map kv).getD i (0, 0)) = fk kv us.toArray from funext fun i => (fk_get us i).symm]
def rPush : List V → Hp → VK → Prop := fun vs H Q => ∃ (l t : Addr) (xs : List V) (fs : List (Int × Int)) (z : Int × Int), vs = [.ref l, .ref t] ∧ H l = some (.lst xs) ∧ PairsAt H xs fs ∧ H t = some (.tup [.int z.1, .int z.2]) ∧ HeapL fs ∧ xs.length < sizeLine ∧
  ∀ ys gs, PairsAt H ys gs → gs.Perm (fs ++ [z]) → HeapL gs → Q .non (upd H l (.lst ys))
def rPop : List V → Hp → VK → Prop := fun vs H Q => ∃ (l : Addr) (xs : List V) (fs : List (Int × Int)), vs = [.ref l] ∧ H l = some (.lst xs) ∧ PairsAt H xs fs ∧ HeapL fs ∧ fs ≠ [] ∧
  ∀ t z ys gs, H t = some (.tup [.int (z : Int × Int).1, .int z.2]) → PairsAt H ys gs → (z :: gs).Perm fs → (∀ y ∈ gs, ¬ pLt y z) → HeapL gs → Q (.ref t) (upd H l (.lst ys))
section
variable {X : Cx}
theorem its_of {pins : List (Addr × Obj)} {s : Shared} {σ : L2.St} {H : Hp} {xs : List V} {us : List Value} {fs : List (Int × Int)} (I : Inv X pins σ H s) (rv : Vals xs us) (hp : PairsAt H xs fs) (a : Addr) : Its s.heap a (fun u => kOf H (backV u)) us.toArray := by
  obtain ⟨e1, e2⟩ := refs_back rv fun x m => by
    obtain ⟨i, hi⟩ := List.mem_iff_getElem?.mp m
    obtain ⟨q, z, rfl, _, _⟩ := hp.at hi
    exact ⟨q, rfl⟩
  intro v hv
  have hv : v ∈ us := hv
  obtain ⟨t, rfl⟩ := e2 v hv
  have hm : V.ref t ∈ xs := by rw [e1]; exact List.mem_map.mpr ⟨_, hv, rfl⟩
  obtain ⟨i, hi⟩ := List.mem_iff_getElem?.mp hm
  obtain ⟨q, z, e, _, ht⟩ := hp.at hi
  cases e
  obtain ⟨_, its2, r2, o, ho, hc, n, hd⟩ := I.hok _ _ ht
  obtain ⟨u1, u2, rfl, ri, rj⟩ := vals2 r2
  obtain ⟨t1, rfl⟩ := ri
  obtain ⟨t2, rfl⟩ := rj
  refine ⟨t, o, t1, t2, n, rfl, ho, hc, ?_⟩
  show o.data = .seq #[.int (kOf H (.ref t)).1 t1, .int (kOf H (.ref t)).2 t2] n
  rw [kOf_at ht]
  exact hd
/-- the pairs of a rearrangement -/
theorem back_pairs {H : Hp} {xs : List V} {us ws : List Value} {fs : List (Int × Int)} (rv : Vals xs us) (hp : PairsAt H xs fs) (sub : ∀ v ∈ ws, v ∈ us) : PairsAt H (ws.map backV) (ws.map fun u => kOf H (backV u)) ∧ Vals (ws.map backV) ws := by
  obtain ⟨e1, e2⟩ := refs_back rv fun x m => by
    obtain ⟨i, hi⟩ := List.mem_iff_getElem?.mp m
    obtain ⟨q, z, rfl, _, _⟩ := hp.at hi
    exact ⟨q, rfl⟩
  refine ⟨?_, vals_back fun u hu => e2 u (sub u hu)⟩
  have h := PairsAt.of_mem (H := H) (ys := ws.map backV) fun x hx => by
    obtain ⟨v, hv, rfl⟩ := List.mem_map.mp hx
    have hm : backV v ∈ xs := by rw [e1]; exact List.mem_map.mpr ⟨_, sub v hv, rfl⟩
    obtain ⟨i, hi⟩ := List.mem_iff_getElem?.mp hm
    obtain ⟨q, z, e, _, ht⟩ := hp.at hi
    exact ⟨q, z, e, ht⟩
  rw [List.map_map] at h
  exact h
theorem cr_push (hu : X.A.in1.units < cLine) : CallR X (.builtin "_heapq.heappush") rPush := by
  intro pins s σ H vs us Q I r h
  obtain ⟨l, t, xs, fs, z, rfl, hl, hp, ht, hh, hz, q⟩ := h
  obtain ⟨u1, u2, rfl, r1, r2⟩ := vals2 r
  obtain rfl : u1 = Value.ref l := r1
  obtain rfl : u2 = Value.ref t := r2
  obtain ⟨z0, its, n, rv, le, hg⟩ := I.lstM hl
  have rv2 : Vals (xs ++ [.ref t]) (its ++ [.ref t]) := rv.append (.cons rfl .nil)
  have hp2 : PairsAt H (xs ++ [.ref t]) (fs ++ [z]) := hp.snoc ht
  have i1 := its_of I rv hp l
  have i2 := its_of I rv2 hp2 l
  obtain ⟨e1, e2⟩ := refs_back rv2 fun x m => by
    obtain ⟨i, hi⟩ := List.mem_iff_getElem?.mp m
    obtain ⟨q, z, rfl, _, _⟩ := hp2.at hi
    exact ⟨q, rfl⟩
  have ef := kOf_key hp (refs_back rv fun x m => by
    obtain ⟨i, hi⟩ := List.mem_iff_getElem?.mp m
    obtain ⟨q, z, rfl, _, _⟩ := hp.at hi
    exact ⟨q, rfl⟩).1
  have ef2 := kOf_key hp2 e1
  refine push_ok (kv := fun u => kOf H (backV u)) (xs := its.toArray) hu hg (by rw [List.size_toArray]; omega) i1 (i2 (.ref t) (by simp)) (by rw [ef] at hh; exact heap_fk.mp hh) fun h' ys n' g1 g2 g3 g4 => ?_
  have pm : ys.toList.Perm (its ++ [.ref t]) := by
    rw [Array.toList_push] at g3
    exact g3
  obtain ⟨b1, b2⟩ := back_pairs (ws := ys.toList) rv2 hp2 fun v hv => pm.mem_iff.mp hv
  refine ⟨.non, upd H l (.lst (ys.toList.map backV)), ?_, rfl, q _ _ b1 ?_ ?_⟩
  · refine I.write (x := l) (e := l) (t' := s.toks) (by rw [hl]; exact trivial) (.inl rfl) g2 ⟨_, g1⟩ ?_
    refine ⟨?_, ys.toList, n', b2, g1⟩
    rw [List.length_map, pm.length_eq, List.length_append, ← le]
    show xs.length + 1 ≤ sizeLine
    omega
  · rw [ef2]
    exact pm.map _
  · exact heap_fk.mpr g4
theorem cr_pop (hu : X.A.in1.units < cLine) : CallR X (.builtin "_heapq.heappop") rPop := by
  intro pins s σ H vs us Q I r h
  obtain ⟨l, xs, fs, rfl, hl, hp, hh, ne, q⟩ := h
  obtain ⟨u1, rfl, r1⟩ := vals1 r
  obtain rfl : u1 = Value.ref l := r1
  obtain ⟨z0, its, n, rv, le, hg⟩ := I.lstM hl
  have i1 := its_of I rv hp l
  obtain ⟨e1, e2⟩ := refs_back rv fun x m => by
    obtain ⟨i, hi⟩ := List.mem_iff_getElem?.mp m
    obtain ⟨q, z, rfl, _, _⟩ := hp.at hi
    exact ⟨q, rfl⟩
  have ef := kOf_key hp e1
  cases its with
  | nil =>
    exact absurd ef ne
  | cons v its =>
    have hf : HeapF (fk (fun u => kOf H (backV u)) (v :: its).toArray) (v :: its).toArray.size := by
      rw [ef] at hh
      exact heap_fk.mp hh
    refine pop_ok (kv := fun u => kOf H (backV u)) (xs := (v :: its).toArray) hu hg (by rw [List.size_toArray]; omega) (by simp) i1 hf fun h' ys n' g1 g2 g3 g4 => ?_
    have pm : (v :: ys.toList).Perm (v :: its) := g3
    obtain ⟨t, rfl⟩ := e2 v List.mem_cons_self
    obtain ⟨b1, b2⟩ := back_pairs (ws := ys.toList) rv hp fun x hx => pm.mem_iff.mp (List.mem_cons_of_mem _ hx)
    have hx0 : xs[0]? = some (.ref t) := by
      rw [e1]
      rfl
    obtain ⟨t0, z, e, hz, ht⟩ := hp.at hx0
    cases e
    have ez : kOf H (backV (.ref t)) = z := kOf_at ht
    refine ⟨.ref t, upd H l (.lst (ys.toList.map backV)), ?_, rfl, q t z _ _ ht b1 ?_ (fun y hy => ?_) (heap_fk.mpr g4)⟩
    · refine I.write (x := l) (e := l) (t' := s.toks) (by rw [hl]; exact trivial) (.inl rfl) g2 ⟨_, g1⟩ ?_
      refine ⟨?_, ys.toList, n', b2, g1⟩
      rw [List.length_map]
      have := pm.length_eq
      rw [List.length_cons] at this
      rw [← le] at this
      omega
    · rw [ef, ← ez]
      exact pm.map fun u => kOf H (backV u)
    · obtain ⟨v, hv, rfl⟩ := List.mem_map.mp hy
      have hv2 := pm.mem_iff.mp (List.mem_cons_of_mem _ hv)
      obtain ⟨i, hi⟩ := List.mem_iff_getElem?.mp hv2
      have il := (List.getElem?_eq_some_iff.mp hi).1
      have := heap_least hf i (by rw [List.size_toArray]; exact il)
      rw [fk_get, fk_get, List.getD_eq_getElem?_getD, List.getD_eq_getElem?_getD, List.getElem?_map, List.getElem?_map, hi] at this
      rw [← ez]
      exact this
/-- f(e, ..), f a function of a C module that the module names -/
theorem pe_callMB {x : Str} {e : Expr} {es : List Expr} {t : TA} {p pos : Pos} {id : String} {r : List V → Hp → VK → Prop} (hc : CallR X (.builtin id) r) (hg : Gl X x) (hm : X.mg x = some (.builtin id)) (ha : PA X (e :: es) t) (hdb : (x == ("__debug__" : Str)) = false := by decide)
    (he : starEach (e :: es) X.env = (false, eval e X.env) :: starEach es X.env := by rfl) (hpl : (backTo pos (starEach es X.env)).any (·.1) = false := by rfl) : PE X (.Call (.Name x p) (e :: es) [] pos) (tCB r t) := by
  refine ⟨fun pins s σ H Q I h => ?_⟩
  refine wpAny_Call_Name_kw (ld_glob I hg hm ?_ hdb)
  exact PyProof.Rows.callWith_builtin1 (thn (ha.run pos pins s σ H _ I h) fun us s1 ⟨vs, H1, I1, r1, q1⟩ => hc pins s1 σ H1 vs us Q I1 r1 q1) he hpl
end
end Sn
/-! tables of prices, and lists of pairs by number, as they lie in the heap -/
namespace Sn
open PySem PySem.Spec PyProof.Rows L2 Evl Gd
abbrev tabI (F : List (Int × Int)) : List (Key × V) := F.map fun z => (Sum.inl z.1, V.int z.2)
theorem tab_cons (z : Int × Int) (F : List (Int × Int)) : tabI (z :: F) = (Sum.inl z.1, V.int z.2) :: tabI F := rfl
def look (F : List (Int × Int)) (n : Int) : Option Int := (F.find? fun z => decide (z.1 = n)).map (·.2)
theorem valV_tab (n : Int) : ∀ F : List (Int × Int), valV (tabI F) (.inl n) = (look F n).map V.int
  | [] => rfl
  | z :: F => by
    have ih := valV_tab n F
    unfold look at ih ⊢
    by_cases h : z.1 = n
    · rw [List.find?_cons_of_pos (by simpa using h)]
      unfold valV
      rw [tab_cons, List.find?_cons_of_pos (by simpa using h)]
      rfl
    · rw [List.find?_cons_of_neg (by simpa using h), ← ih]
      unfold valV
      rw [tab_cons, List.find?_cons_of_neg (by simpa using h)]
def putI (F : List (Int × Int)) (n p : Int) : List (Int × Int) := if (F.any fun z => decide (z.1 = n)) = true then F.map fun z => if z.1 = n then (z.1, p) else z else F ++ [(n, p)]
theorem tab_put (F : List (Int × Int)) (n p : Int) : putK (tabI F) (.inl n) (.int p) = tabI (putI F n p) := by
  unfold putK putI
  have e : ((tabI F).any fun kv => decide (kv.1 = (Sum.inl n : Key))) = F.any fun z => decide (z.1 = n) := by
    induction F with
    | nil => rfl
    | cons z F ih =>
      rw [tab_cons, List.any_cons, List.any_cons, ih]
      congr 1
      exact decide_eq_decide.mpr ⟨fun h => Sum.inl.inj h, fun h => congrArg Sum.inl h⟩
  rw [e]
  split
  · show List.map _ (List.map _ _) = List.map _ (List.map _ _)
    rw [List.map_map, List.map_map]
    refine List.map_congr_left fun z _ => ?_
    show (if (Sum.inl z.1 : Key) = Sum.inl n then _ else _) = _
    by_cases h : z.1 = n
    · rw [if_pos (congrArg Sum.inl h)]
      show _ = ((Sum.inl (if z.1 = n then (z.1, p) else z).1 : Key), V.int (if z.1 = n then (z.1, p) else z).2)
      rw [if_pos h]
    · rw [if_neg (fun q => h (Sum.inl.inj q))]
      show _ = ((Sum.inl (if z.1 = n then (z.1, p) else z).1 : Key), V.int (if z.1 = n then (z.1, p) else z).2)
      rw [if_neg h]
  · show List.map _ _ ++ _ = List.map _ (_ ++ _)
    rw [List.map_append]
    rfl
theorem look_put (F : List (Int × Int)) (n p m : Int) : look (putI F n p) m = if m = n then some p else look F m := by
  have h1 := valV_tab m (putI F n p)
  rw [← tab_put, valV_put, valV_tab] at h1
  by_cases e : m = n
  · rw [if_pos e]
    rw [if_pos (by rw [e])] at h1
    cases h : look (putI F n p) m with
    | none =>
      rw [h] at h1
      cases h1
    | some q =>
      rw [h] at h1
      cases h1
      rfl
  · rw [if_neg e]
    rw [if_neg (fun z => e (Sum.inl.inj z))] at h1
    cases h : look (putI F n p) m with
    | none =>
      rw [h] at h1
      cases g : look F m with
      | none => rfl
      | some q =>
        rw [g] at h1
        cases h1
    | some q =>
      rw [h] at h1
      cases g : look F m with
      | none =>
        rw [g] at h1
        cases h1
      | some r =>
        rw [g] at h1
        cases h1
        rfl
theorem look_fun (F : List (Int × Int)) (n p : Int) : look (putI F n p) = setO (look F) n p := funext fun m => look_put F n p m
theorem putI_new {F : List (Int × Int)} {n : Int} (p : Int) (h : look F n = none) : putI F n p = F ++ [(n, p)] := by
  unfold putI
  rw [if_neg]
  intro q
  obtain ⟨z, hz, e⟩ := List.any_eq_true.mp q
  unfold look at h
  cases g : F.find? fun z => decide (z.1 = n) with
  | none => exact (List.find?_eq_none.mp g) z hz e
  | some y =>
    rw [g] at h
    cases h
theorem putI_len (F : List (Int × Int)) (n p : Int) : (putI F n p).length ≤ F.length + 1 := by
  unfold putI
  split
  · rw [List.length_map]
    omega
  · rw [List.length_append]
    exact Nat.le_refl _
theorem look_mem {F : List (Int × Int)} {n : Int} : look F n ≠ none ↔ n ∈ F.map (·.1) := by
  unfold look
  constructor
  · intro h
    cases g : F.find? fun z => decide (z.1 = n) with
    | none =>
      rw [g] at h
      exact absurd rfl h
    | some y =>
      exact List.mem_map.mpr ⟨y, List.mem_of_find?_eq_some g, of_decide_eq_true (p := y.1 = n) (by simpa using List.find?_some g)⟩
  · intro h
    obtain ⟨z, hz, e⟩ := List.mem_map.mp h
    cases g : F.find? fun z => decide (z.1 = n) with
    | none => exact absurd (decide_eq_true e) ((List.find?_eq_none.mp g) z hz)
    | some y => exact fun q => nomatch q
/-- what waits for a number: pairs -/
def wkOf (P : List (Int × (Int × Int))) (n : Int) : List (Int × Int) := (P.filter fun p => decide (p.1 = n)).map (·.2)
theorem wkOf_snoc (P : List (Int × (Int × Int))) (s : Int) (v : Int × Int) (n : Int) : wkOf (P ++ [(s, v)]) n = wkOf P n ++ (if s = n then [v] else []) := by
  unfold wkOf
  rw [List.filter_append, List.map_append]
  by_cases h : s = n
  · rw [if_pos h, List.filter_cons_of_pos (p := fun p : Int × (Int × Int) => decide (p.1 = n)) (decide_eq_true h)]
    rfl
  · rw [if_neg h, List.filter_cons_of_neg (p := fun p : Int × (Int × Int) => decide (p.1 = n)) (by simpa using h)]
    rfl
theorem wkOf_mem {P : List (Int × (Int × Int))} {n : Int} {v : Int × Int} : v ∈ wkOf P n ↔ (n, v) ∈ P := by
  unfold wkOf
  constructor
  · intro h
    obtain ⟨p, hp, rfl⟩ := List.mem_map.mp h
    have := List.mem_filter.mp hp
    have e : p.1 = n := of_decide_eq_true this.2
    rw [← e]
    exact this.1
  · intro h
    exact List.mem_map.mpr ⟨(n, v), List.mem_filter.mpr ⟨h, decide_eq_true rfl⟩, rfl⟩
/-- the dict of what waits -/
def PWait (S : Addr → Prop) (H : Hp) (d : Addr) (W : Int → List (Int × Int)) (b : Nat) : Prop := ∃ kvs : List (Key × V), H d = some (.dK kvs) ∧ kvs.length ≤ b ∧
  (∀ n, (valV kvs (.inl n) = none ∧ W n = []) ∨ ∃ q vs, valV kvs (.inl n) = some (.ref q) ∧ S q ∧ H q = some (.lst vs) ∧ PairsAt H vs (W n)) ∧
  (∀ n m q, valV kvs (.inl n) = some (.ref q) → valV kvs (.inl m) = some (.ref q) → n = m)
theorem PWait.frame {S : Addr → Prop} {H H' : Hp} {d : Addr} {W : Int → List (Int × Int)} {b : Nat} (h : PWait S H d W b) (kd : ∀ o, H d = some o → H' d = some o) (kt : ∀ a xs, H a = some (.tup xs) → H' a = some (.tup xs)) (k : ∀ a o, S a → H a = some o → H' a = some o) : PWait S H' d W b := by
  obtain ⟨kvs, h1, h3, h4, h5⟩ := h
  refine ⟨kvs, kd _ h1, h3, fun n => ?_, h5⟩
  rcases h4 n with h | ⟨q, vs, e1, e2, e3, e4⟩
  · exact .inl h
  · exact .inr ⟨q, vs, e1, e2, k _ _ e2 e3, e4.keep kt⟩
/-- one more in a list that is there -/
theorem PWait.old {S : Addr → Prop} {H H' : Hp} {d q : Addr} {P : List (Int × (Int × Int))} {b : Nat} {z : Int × Int} {n : Int} {kvs : List (Key × V)} {ws : List V} (h : PWait S H d (wkOf P) b) (hd : H d = some (.dK kvs)) (hv : valV kvs (.inl n) = some (.ref q))
    (kd : H' d = some (.dK kvs)) (kt : ∀ a xs, H a = some (.tup xs) → H' a = some (.tup xs)) (k : ∀ a o, S a → a ≠ q → H a = some o → H' a = some o) (hq : H' q = some (.lst ws)) (hw : PairsAt H' ws (wkOf P n ++ [z])) : PWait S H' d (wkOf (P ++ [(n, z)])) (b + 1) := by
  obtain ⟨kvs', h1, h3, h4, h5⟩ := h
  rw [hd] at h1
  cases h1
  refine ⟨kvs, kd, by omega, fun m => ?_, h5⟩
  by_cases e : n = m
  · subst e
    refine .inr ⟨q, ws, hv, ?_, hq, ?_⟩
    · rcases h4 n with ⟨z, _⟩ | ⟨q', _, e1, e2, e3⟩
      · rw [hv] at z
        cases z
      · rw [hv] at e1
        cases e1
        exact e2
    · rw [wkOf_snoc, if_pos rfl]
      exact hw
  · rcases h4 m with ⟨z1, z2⟩ | ⟨q', vs', e1, e2, e3, e4⟩
    · refine .inl ⟨z1, ?_⟩
      rw [wkOf_snoc, if_neg e, z2]
      rfl
    · have nq : q' ≠ q := fun z => by
        subst z
        exact e (h5 n m q' hv e1)
      refine .inr ⟨q', vs', e1, e2, k _ _ e2 nq e3, ?_⟩
      rw [wkOf_snoc, if_neg e, List.append_nil]
      exact e4.keep kt
/-- a number more -/
theorem PWait.new {S : Addr → Prop} {H H' : Hp} {d y : Addr} {P : List (Int × (Int × Int))} {b : Nat} {z : Int × Int} {n : Int} {kvs : List (Key × V)} {ws : List V} (h : PWait S H d (wkOf P) b) (hd : H d = some (.dK kvs)) (hv : valV kvs (.inl n) = none) (hy : H y = none) (sy : S y)
    (kt : ∀ a xs, H a = some (.tup xs) → H' a = some (.tup xs)) (k : ∀ a o, S a → a ≠ d → H a = some o → H' a = some o) (h1 : H' d = some (.dK (putK kvs (.inl n) (.ref y)))) (h2 : H' y = some (.lst ws)) (hw : PairsAt H' ws [z]) : PWait S H' d (wkOf (P ++ [(n, z)])) (b + 1) := by
  obtain ⟨kvs', h1', h3, h4, h5⟩ := h
  rw [hd] at h1'
  cases h1'
  have wn : wkOf P n = [] := by
    rcases h4 n with ⟨_, e⟩ | ⟨q, _, e1, _⟩
    · exact e
    · rw [hv] at e1
      cases e1
  refine ⟨_, h1, by have := length_putK kvs (.inl n) (.ref y); omega, fun m => ?_, fun a c q ha hc => ?_⟩
  · rw [valV_put]
    by_cases e : n = m
    · subst e
      rw [if_pos rfl]
      refine .inr ⟨y, ws, rfl, sy, h2, ?_⟩
      rw [wkOf_snoc, if_pos rfl, wn]
      exact hw
    · rw [if_neg (fun x => e (Sum.inl.inj x).symm)]
      rcases h4 m with ⟨z1, z2⟩ | ⟨q', vs', e1, e2, e3, e4⟩
      · refine .inl ⟨z1, ?_⟩
        rw [wkOf_snoc, if_neg e, z2]
        rfl
      · refine .inr ⟨q', vs', e1, e2, k _ _ e2 (ne_of e3 hd (fun x => nomatch x)) e3, ?_⟩
        rw [wkOf_snoc, if_neg e, List.append_nil]
        exact e4.keep kt
  · have key : ∀ x : Int, valV (putK kvs (.inl n) (.ref y)) (.inl x) = some (.ref q) → (x = n ∧ q = y) ∨ (x ≠ n ∧ q ≠ y ∧ valV kvs (.inl x) = some (.ref q)) := by
      intro x hx
      rw [valV_put] at hx
      by_cases e : x = n
      · rw [if_pos (by rw [e])] at hx
        cases hx
        exact .inl ⟨e, rfl⟩
      · rw [if_neg (fun y => e (Sum.inl.inj y))] at hx
        refine .inr ⟨e, fun w => ?_, hx⟩
        subst w
        rcases h4 x with ⟨z1, _⟩ | ⟨q', _, e1, e2, e3, _⟩
        · rw [hx] at z1
          cases z1
        · rw [hx] at e1
          cases e1
          rw [hy] at e3
          cases e3
    rcases key a ha with ⟨a1, a2⟩ | ⟨a1, a2, a3⟩
    · rcases key c hc with ⟨c1, c2⟩ | ⟨c1, c2, c3⟩
      · rw [a1, c1]
      · exact absurd a2 c2
    · rcases key c hc with ⟨c1, c2⟩ | ⟨c1, c2, c3⟩
      · exact absurd c2 a2
      · exact h5 a c q a3 c3
end Sn
/-! the run of the prices -/
namespace Sn
open PySem PySem.Spec PyProof.Rows L2 Evl Gd
structure CoSt where
  F : List (Int × Int)
  O : List (Int × Int)
  lk : Int → List Key
  G : List (Int × Int)
  P : List (Int × (Int × Int))
/-- what an offer of a price for n makes of it -/
def OffStep (S : CoSt) (n price : Int) (l : List Key) (O' : List (Int × Int)) (lk' : Int → List Key) (G' : List (Int × Int)) : Prop :=
  (look O' = look S.O ∧ lk' = S.lk ∧ (∃ q, look S.O n = some q ∧ q ≤ price) ∧ ∀ z, z ∈ G' ↔ z ∈ S.G) ∨ (look O' = setO (look S.O) n price ∧ lk' = setL S.lk n l ∧ (∀ q, look S.O n = some q → price < q) ∧ ∀ z, z ∈ G' ↔ z = (price, n) ∨ z ∈ S.G)
theorem OffStep.inv {as : List Arc} {D : Arc → Prop} {S : CoSt} {α : Arc} {O' G' : List (Int × Int)} {lk' : Int → List Key} (h : CoInv as D (look S.F) (look S.O) S.lk S.G) (ha : α ∈ as) (hr : Ready (look S.F) α) (st : OffStep S α.tgt (pay (look S.F) α) α.link O' lk' G') :
    CoInv as (fun β => D β ∨ β = α) (look S.F) (look O') lk' G' := h.offer ha hr st
/-- how much waits for what is not found -/
def unf (F : List (Int × Int)) (P : List (Int × (Int × Int))) : Nat := (P.filter fun p => decide (look F p.1 = none)).length
theorem unf_snoc (F : List (Int × Int)) (P : List (Int × (Int × Int))) (z : Int × (Int × Int)) : unf F (P ++ [z]) ≤ unf F P + 1 := by
  unfold unf
  rw [List.filter_append, List.length_append]
  have := List.length_filter_le (fun p : Int × (Int × Int) => decide (look F p.1 = none)) [z]
  rw [List.length_singleton] at this
  omega
theorem unf_le (F : List (Int × Int)) (P : List (Int × (Int × Int))) : unf F P ≤ P.length := List.length_filter_le _ _
/-- what waits for n moves out when n is found -/
theorem unf_find (F : List (Int × Int)) (P : List (Int × (Int × Int))) {n p : Int} (h : look F n = none) : unf (F ++ [(n, p)]) P + (wkOf P n).length = unf F P := by
  have e : ∀ m, look (F ++ [(n, p)]) m = if m = n then some p else look F m := fun m => by
    rw [← putI_new p h, look_put]
  unfold unf wkOf
  rw [List.length_map]
  induction P with
  | nil => rfl
  | cons z P ih =>
    by_cases c : z.1 = n
    · rw [List.filter_cons_of_neg (by simp [e, c]), List.filter_cons_of_pos (by simp [c]), List.filter_cons_of_pos (by simp [c, h]), List.length_cons, List.length_cons]
      omega
    · rw [List.filter_cons_of_neg (p := fun p : Int × (Int × Int) => decide (p.1 = n)) (by simp [c])]
      by_cases d : look F z.1 = none
      · rw [List.filter_cons_of_pos (by simp [e, c, d]), List.filter_cons_of_pos (by simp [d]), List.length_cons, List.length_cons]
        omega
      · rw [List.filter_cons_of_neg (by simp [e, c, d]), List.filter_cons_of_neg (by simp [d])]
        exact ih
/-- what waits is right -/
def WaitT (N : NetM) (F : List (Int × Int)) (P : List (Int × (Int × Int))) : Prop := ∀ k z, (k, z) ∈ P → look F z.1 ≠ none ∧ entryA z.1 (k, z.2) ∈ netArcs N
/-- .. and all that waits for what is not found (but for the maps at x) -/
def WaitA (N : NetM) (F : List (Int × Int)) (P : List (Int × (Int × Int))) : Prop := ∀ r ∈ N.rows, r.sort = "map" → look F r.n ≠ none → ∀ q ∈ pairsOf r, look F q.1 = none → (q.1, (r.n, q.2)) ∈ P
structure RunOk (N : NetM) (S : CoSt) : Prop where
  inv : CoInv (netArcs N) (fun _ => True) (look S.F) (look S.O) S.lk S.G
  wt : WaitT N S.F S.P
  wa : WaitA N S.F S.P
/-- the state when n was just found -/
structure GoPre (N : NetM) (S : CoSt) (n : Int) : Prop where
  inv : CoInv (netArcs N) (fun α => n ∉ α.src) (look S.F) (look S.O) S.lk S.G
  wt : WaitT N S.F S.P
  wa : ∀ r ∈ N.rows, r.sort = "map" → r.n ≠ n → look S.F r.n ≠ none → ∀ q ∈ pairsOf r, look S.F q.1 = none ∨ q.1 = n → (q.1, (r.n, q.2)) ∈ S.P
/-- all arcs at n are offered -/
theorem go_cover {N : NetM} {S : CoSt} {n : Int} {r : Row} (ok : OkNet N) (h : GoPre N S n) (hr : r ∈ N.rows) (hn : r.n = n) {P : List (Int × (Int × Int))} (sub : ∀ z ∈ S.P, z ∈ P) {α : Arc} (ha : α ∈ netArcs N) (rd : Ready (look S.F) α) :
    n ∉ α.src ∨ α ∈ rowArcs r ∨ ∃ z ∈ wkOf P n, α = entryA z.1 (n, z.2) := by
  rcases arc_cases ha with ⟨r', _, rfl⟩ | ⟨r', hr', hs, q, hq, rfl⟩ | ⟨r', hr', hs, q, hq, rfl⟩
  · exact .inl List.not_mem_nil
  · by_cases e : r'.n = n
    · have := row_uniq ok.nodup hr' hr (e.trans hn.symm)
      subst this
      refine .inr (.inl ?_)
      unfold rowArcs
      rw [if_pos hs]
      exact List.mem_map.mpr ⟨q, hq, rfl⟩
    · refine .inl fun m => e ?_
      exact (List.mem_singleton.mp m).symm
  · by_cases e : r'.n = n
    · have := row_uniq ok.nodup hr' hr (e.trans hn.symm)
      subst this
      refine .inr (.inl ?_)
      unfold rowArcs
      rw [if_neg (by rw [hs]; decide +kernel), if_pos hs]
      exact List.mem_map.mpr ⟨q, hq, rfl⟩
    · by_cases e2 : q.1 = n
      · refine .inr (.inr ⟨(r'.n, q.2), wkOf_mem.mpr (sub _ ?_), ?_⟩)
        · have := h.wa r' hr' hs e (rd r'.n List.mem_cons_self) q hq (.inr e2)
          rw [e2] at this
          exact this
        · show entryA r'.n q = entryA r'.n (n, q.2)
          rw [← e2]
      · refine .inl fun m => ?_
        rcases List.mem_cons.mp m with m | m
        · exact e m.symm
        · exact e2 (List.mem_singleton.mp m).symm
theorem pay_slot {F : Int → Option Int} {n pr : Int} (h : F n = some pr) (q : Int × Int) : pay F (slotA n q) = pr + 1 := by
  show 1 + ((F n).getD 0 + 0) = pr + 1
  rw [h]
  show 1 + (pr + 0) = pr + 1
  omega
theorem pay_entry {F : Int → Option Int} {n pr ps : Int} (h : F n = some pr) {q : Int × Int} (g : F q.1 = some ps) : pay F (entryA n q) = pr + 1 + ps := by
  show 1 + ((F n).getD 0 + ((F q.1).getD 0 + 0)) = pr + 1 + ps
  rw [h, g]
  show 1 + (pr + (ps + 0)) = pr + 1 + ps
  omega
end Sn
namespace Sn
open PySem PySem.Spec PyProof.Rows L2 Evl Gd
/-- the least cost, or none -/
def CostIs (as : List Arc) (n : Int) : Option Int → Prop
  | some c => IsCost as n c
  | none => ∀ c, ¬ Der as n c
theorem CostIs.uniq {as : List Arc} {n : Int} : ∀ {o o' : Option Int}, CostIs as n o → CostIs as n o' → o = o'
  | none, none, _, _ => rfl
  | some c, none, h, g => absurd h.1 (g c)
  | none, some c, h, g => absurd g.1 (h c)
  | some c, some d, h, g => congrArg some (IsCost.uniq h g)
def vOpt : Option Int → V
  | none => .non
  | some c => .int c
/-- what a run tells -/
theorem RunOk.cost {N : NetM} {S : CoSt} {n : Int} (h : RunOk N S) (e : S.G = [] ∨ look S.F n ≠ none) : CostIs (netArcs N) n (look S.F n) := by
  cases g : look S.F n with
  | some c => exact h.inv.cost n c g
  | none =>
    rcases e with e | e
    · intro c d
      have i := h.inv
      rw [e] at i
      exact i.none d g
    · exact absurd g e
end Sn
/-! Net.led_to of any link, there or not -/
namespace Sn
open PySem PySem.Spec PyProof.Rows L2 Evl Gd
theorem mem_row {N : NetM} {α : Arc} {r : Row} (hr : r ∈ N.rows) (h : α ∈ rowArcs r) : α ∈ netArcs N := List.mem_append_right _ (List.mem_flatMap.mpr ⟨r, hr, h⟩)
theorem led_root {N : NetM} {z : Str} {m : Int} : (∃ α ∈ netArcs N, α.link = [.inr "root", .inr z] ∧ α.tgt = m) ↔ (z, m) ∈ N.roots := by
  have n1 : ("slot" : Str) ≠ "root" := by decide +kernel
  have n2 : ("entry" : Str) ≠ "root" := by decide +kernel
  constructor
  · rintro ⟨α, ha, hl, ht⟩
    rcases arc_cases ha with ⟨r, hr, rfl⟩ | ⟨r, hr, hs, y, hy, rfl⟩ | ⟨r, hr, hs, y, hy, rfl⟩
    · have e : r.1 = z := by
        have := (List.cons.inj (List.cons.inj hl).2).1
        exact Sum.inr.inj this
      have e2 : r.2 = m := ht
      rw [← e, ← e2]
      exact hr
    · exact absurd (Sum.inr.inj (List.cons.inj hl).1) n1
    · exact absurd (Sum.inr.inj (List.cons.inj hl).1) n2
  · intro h
    exact ⟨rootArc (z, m), List.mem_append_left _ (List.mem_map_of_mem h), rfl, rfl⟩
/-- one of the two sorts that hold -/
structure Kind2 (wd so : Str) (mk : Int → Int × Int → Arc) : Prop where
  nr : wd ≠ "root"
  lk : ∀ n z, (mk n z).link = [.inr wd, .inl n, .inl z.1]
  tg : ∀ n z, (mk n z).tgt = z.2
  nw : so ≠ "weak"
  arcs : ∀ r : Row, r.sort = so → rowArcs r = (pairsOf r).map (mk r.n)
  of : ∀ {N : NetM} {α : Arc}, α ∈ netArcs N → α.link.head? = some (.inr wd) → ∃ r ∈ N.rows, r.sort = so ∧ ∃ p ∈ pairsOf r, α = mk r.n p
theorem kind_slot : Kind2 "slot" "record" slotA := by
  have n1 : ("root" : Str) ≠ "slot" := by decide +kernel
  have n2 : ("entry" : Str) ≠ "slot" := by decide +kernel
  refine ⟨by decide +kernel, fun _ _ => rfl, fun _ _ => rfl, by decide +kernel, fun r h => by unfold rowArcs; rw [if_pos h], fun {N α} ha hl => ?_⟩
  rcases arc_cases ha with ⟨r, hr, rfl⟩ | ⟨r, hr, hs, y, hy, rfl⟩ | ⟨r, hr, hs, y, hy, rfl⟩
  · exact absurd (Sum.inr.inj (Option.some.inj hl)) n1
  · exact ⟨r, hr, hs, y, hy, rfl⟩
  · exact absurd (Sum.inr.inj (Option.some.inj hl)) n2
theorem kind_entry : Kind2 "entry" "map" entryA := by
  have n1 : ("root" : Str) ≠ "entry" := by decide +kernel
  have n2 : ("slot" : Str) ≠ "entry" := by decide +kernel
  have n3 : ("map" : Str) ≠ "record" := by decide +kernel
  refine ⟨by decide +kernel, fun _ _ => rfl, fun _ _ => rfl, by decide +kernel, fun r h => by unfold rowArcs; rw [if_neg (by rw [h]; exact n3), if_pos h], fun {N α} ha hl => ?_⟩
  rcases arc_cases ha with ⟨r, hr, rfl⟩ | ⟨r, hr, hs, y, hy, rfl⟩ | ⟨r, hr, hs, y, hy, rfl⟩
  · exact absurd (Sum.inr.inj (Option.some.inj hl)) n1
  · exact absurd (Sum.inr.inj (Option.some.inj hl)) n2
  · exact ⟨r, hr, hs, y, hy, rfl⟩
theorem led_kind {wd so : Str} {mk : Int → Int × Int → Arc} (kd : Kind2 wd so mk) {N : NetM} {n k m : Int} : (∃ α ∈ netArcs N, α.link = [.inr wd, .inl n, .inl k] ∧ α.tgt = m) ↔ ∃ r ∈ N.rows, r.n = n ∧ r.sort = so ∧ (k, m) ∈ pairsOf r := by
  constructor
  · rintro ⟨α, ha, hl, ht⟩
    obtain ⟨r, hr, hs, p, hp, rfl⟩ := kd.of ha (by rw [hl]; rfl)
    rw [kd.lk] at hl
    rw [kd.tg] at ht
    have e1 : r.n = n := Sum.inl.inj (List.cons.inj (List.cons.inj hl).2).1
    have e2 : p.1 = k := Sum.inl.inj (List.cons.inj (List.cons.inj (List.cons.inj hl).2).2).1
    exact ⟨r, hr, e1, hs, by rw [← e2, ← ht]; exact hp⟩
  · rintro ⟨r, hr, rfl, hs, hp⟩
    exact ⟨mk r.n (k, m), mem_row hr (by rw [kd.arcs r hs]; exact List.mem_map_of_mem hp), kd.lk _ _, kd.tg _ _⟩
def Linky (ks : List Key) : Prop := (∃ z, ks = [.inr "root", .inr z]) ∨ (∃ n k, ks = [.inr "slot", .inl n, .inl k]) ∨ ∃ n k, ks = [.inr "entry", .inl n, .inl k]
def spLedA (K : PySem.W.Frag) (C : Addr) : Sp := fun vs H Q _ => ∃ (p l : Addr) (N : NetM) (ks : List Key), vs = [.ref p, .ref l] ∧ PlNet K C H p N ∧ OkNet N ∧ ((netArcs N).map Arc.link).Nodup ∧ Linky ks ∧ SqT K H l (ks.map kV) ∧
  ∀ H' (r : Option Int), Ex H H' → (∀ m, r = some m ↔ ∃ α ∈ netArcs N, α.link = ks ∧ α.tgt = m) → Q (vOpt r) H'
theorem val_find {β : Type} {k : β → Key} {v : β → Int} {l : List β} (nd : (l.map k).Nodup) (x : Key) : ∃ r : Option Int, valV (l.map fun b => (k b, V.int (v b))) x = r.map V.int ∧ ∀ m, r = some m ↔ ∃ b ∈ l, k b = x ∧ v b = m := by
  by_cases h : ∃ b ∈ l, k b = x
  · obtain ⟨b, hb, rfl⟩ := h
    refine ⟨some (v b), val_map nd b hb, fun m => ⟨fun e => ⟨b, hb, rfl, Option.some.inj e⟩, ?_⟩⟩
    rintro ⟨c, hc, ek, ev⟩
    have e1 := val_map (v := v) nd b hb
    have e2 := val_map (v := v) nd c hc
    rw [ek, e1] at e2
    have := V.int.inj (Option.some.inj e2)
    rw [this, ev]
  · refine ⟨none, key_none ?_, fun m => ⟨(fun e => nomatch e), fun ⟨b, hb, e, _⟩ => absurd ⟨b, hb, e⟩ h⟩⟩
    rw [List.map_map]
    intro z
    obtain ⟨b, hb, e⟩ := List.mem_map.mp z
    exact h ⟨b, hb, e⟩
theorem vOpt_get (r : Option Int) : (r.map V.int).getD .non = vOpt r := by cases r <;> rfl
section
variable {P : Program} {w : World} {K : PySem.W.Frag} {mg : Str → Option Value} {base : Heap}
theorem ok_ledA {f C hd : Addr} {fd : FuncData} (F : Fun K "led_to" "Net.led_to" sLed f fd) (T : Txt K mg C) (hH : Hold K w mg hd) (mD : mg "dict" = none) : FnOk P w K mg base CX0 1 f fd ["self", "link"] (spLedA K C) := by
  refine F.ok scLed (fun vs H Q E h => ?_) (fun cdv A outer s H vs Q E hr h => ?_)
  · obtain ⟨p, l, N, ks, rfl, _⟩ := h
    rfl
  · obtain ⟨p, l, N, ks, rfl, hN, ok, lnd, lk, hl, q⟩ := h
    have hu := hu_of hr
    refine ⟨_, pss_cons (ps_if (pt_cmpR op_eq (pe_ix ix_tup (pv 1) pe_int (fun _ _ => rfl)) pe_str (nomark _))
        (pss_one (ps_ret (pe_dget1 hu (pe_callTy (cr_dictP rfl) (by rfl) mD (by decide +kernel) (pa_cons (pe_fld (pv 0) rfl) pa_nil)) (pe_ix ix_tup (pv 1) pe_int (fun _ _ => rfl)) ⟨rfl, rfl, rfl, rfl⟩))) pss_nil) <|
      pss_cons (ps_if (pt_cmp (pc_dnotin hu (pe_ix ix_tup (pv 1) pe_int (fun _ _ => rfl)) (pe_fld (pv 0) rfl))) (pss_one (ps_ret pe_non)) pss_nil) <|
      pss_cons (ps_asg (pe_dget hu (pe_fld (pv 0) rfl) (pe_ix ix_tup (pv 1) pe_int (fun _ _ => rfl)) (fun _ _ => rfl)) (pg_tup (n := 2) rfl (pgs_cons (pg_name (i := 2) scLed.nd rfl (.inl rfl)) <| pgs_cons (pg_name (i := 3) scLed.nd rfl (.inl rfl)) pgs_nil))) <|
      pss_one (ps_ret (pe_ifExp (pt_cmpR op_eq (pv 2) (pe_ix ix_kdict (pe_glob (v := .ref hd) (by rfl) hH.g rfl) (pe_ix ix_tup (pv 1) pe_int (fun _ _ => rfl)) (fun _ _ => rfl)) (nomark _))
        (pe_dget1 hu (pe_callTy (cr_dictP rfl) (by rfl) mD (by decide +kernel) (pa_cons (pv 3) pa_nil)) (pe_ix ix_tup (pv 1) pe_int (fun _ _ => rfl)) ⟨rfl, rfl, rfl, rfl⟩) pe_non)), ?_⟩
    obtain ⟨dx, ra, rs, d, kvs, hp, hra, tra, hdd, hks, hrows⟩ := hN
    have two : (∃ z, ks = [.inr "root", .inr z]) ∨ ∃ (wd so : Str) (mk : Int → Int × Int → Arc) (n k : Int), ks = [.inr wd, .inl n, .inl k] ∧ Kind2 wd so mk ∧ KDct K w hd wd (.str so) := by
      rcases lk with h | ⟨n, k, rfl⟩ | ⟨n, k, rfl⟩
      · exact .inl h
      · exact .inr ⟨_, _, _, n, k, rfl, kind_slot, hH.s⟩
      · exact .inr ⟨_, _, _, n, k, rfl, kind_entry, hH.e⟩
    rcases two with ⟨z, rfl⟩ | ⟨wd, so, mk, n, k, rfl, kd, kh⟩
    · refine seq_of (ifS_of (test_of (op_of (op_of (v_of rfl (k_of ⟨l, _, 0, _, rfl, rfl, hl, atI_nat (j := 0) rfl, k_of ⟨rfl, _, rfl, ?_⟩⟩))))))
      rw [show decide (kV (.inr "root") = V.str "root") = true from decide_eq_true rfl, if_pos rfl]
      obtain ⟨qs, e1, pr⟩ := td_pairs (fun r : Str × Int => (Sum.inr r.1 : Key)) (fun r => r.2) dRoot (fun b => rfl) tra
      have rnd : (N.roots.map fun r => (Sum.inr r.1 : Key)).Nodup := by
        have := lnd.sublist ((List.sublist_append_left (N.roots.map rootArc) (N.rows.flatMap rowArcs)).map Arc.link)
        rw [List.map_map] at this
        refine List.pairwise_map.mpr ((List.pairwise_map.mp this).imp fun {x y} ne e => ne ?_)
        show (rootArc x).link = (rootArc y).link
        unfold rootArc
        rw [Sum.inr.inj e]
      rw [e1] at hra
      refine ret_of (cb_of (c_of ⟨.ref p, rfl, p, C, dx, _, _, rfl, hp, T.cl, T.nR, nf_roots _ _, n_of ⟨ra, qs, _, rfl, .inr hra, pr, fun D hD => ?_⟩⟩))
      rw [merge_fresh _ [] (by rw [List.nil_append, List.map_map]; exact rnd), List.nil_append]
      have e2 : Ex H (upd H D (.dK (N.roots.map fun b => (Sum.inr b.1, V.int b.2)))) := Ex.new hD
      refine ⟨D, rfl, .inl ⟨_, .inl upd_same⟩, op_of (v_of rfl (k_of ⟨l, _, 1, _, rfl, rfl, ex_t e2 hl, atI_nat (j := 1) rfl, _, DGet.k (k := Sum.inr z) upd_same, ?_⟩))⟩
      obtain ⟨r, er, rm⟩ := val_find (k := fun r : Str × Int => (Sum.inr r.1 : Key)) (v := fun r => r.2) rnd (Sum.inr z)
      rw [show valV (N.roots.map fun b => (Sum.inr b.1, V.int b.2)) (Sum.inr z) = r.map V.int from er, vOpt_get]
      refine q _ r e2 fun m => ((rm m).trans ?_).trans led_root.symm
      constructor
      · rintro ⟨b, hb, e1, e2⟩
        have e1 : b.1 = z := Sum.inr.inj e1
        have e2 : b.2 = m := e2
        rw [← e1, ← e2]
        exact hb
      · intro h
        exact ⟨(z, m), h, rfl, rfl⟩
    · refine seq_of (ifS_of (test_of (op_of (op_of (v_of rfl (k_of ⟨l, _, 0, _, rfl, rfl, hl, atI_nat (j := 0) rfl, k_of ⟨rfl, _, rfl, ?_⟩⟩))))))
      rw [show decide (kV (.inr wd) = V.str "root") = false from decide_eq_false fun z => kd.nr (V.str.inj z), if_neg Bool.false_ne_true]
      dsimp only [tNext]
      refine seq_of (ifS_of (test_of (notin_of (op_of (v_of rfl (k_of ⟨l, _, 1, _, rfl, rfl, hl, atI_nat (j := 1) rfl, ⟨.ref p, rfl, p, C, dx, _, _, rfl, hp, T.cl, T.nW, nf_rows _ _, d, _, rfl, DGet.k (k := Sum.inl n) hdd, _, rfl, ?_⟩⟩))))))
      by_cases hn : ¬ ∃ r ∈ N.rows, r.n = n
      · have hv : valV kvs (.inl n) = none := key_none (by
          rw [hks]
          intro z
          obtain ⟨r, hr, e⟩ := List.mem_map.mp z
          exact hn ⟨r, hr, Sum.inl.inj e⟩)
        rw [hv, if_pos (show (!(none : Option V).isSome) = true from rfl)]
        refine ret_of (k_of (q H none (Ex.refl H) fun m => ⟨(fun e => nomatch e), fun h => ?_⟩))
        obtain ⟨r, hr, e, _⟩ := (led_kind kd).mp h
        exact absurd ⟨r, hr, e⟩ hn
      obtain ⟨r, hrr, rfl⟩ := Decidable.of_not_not hn
      obtain ⟨v, hv, t, pa, xs, rfl, st, spl, tdp⟩ := hrows r hrr
      rw [hv, if_neg (show ¬ (!(some (V.ref t)).isSome) = true from Bool.false_ne_true)]
      dsimp only [tNext]
      have dg := DGet.k (k := Sum.inl r.n) hdd
      rw [hv] at dg
      refine seq_of (asgG_of (dget_of ⟨.ref p, rfl, p, C, dx, _, _, rfl, hp, T.cl, T.nW, nf_rows _ _, op_of (v_of rfl (k_of ⟨l, _, 1, _, rfl, rfl, hl, atI_nat (j := 1) rfl, d, .ref t, rfl, dg, t, _, rfl, st, rfl, .str r.sort, _, rfl, .ref pa, _, rfl, rfl, ?_⟩))⟩))
      dsimp only [gName]
      refine ret_of (if_of (test_of (op_of (v_of rfl (op_of (k_of (op_of (v_of rfl (k_of ⟨l, _, 0, _, rfl, rfl, hl, atI_nat (j := 0) rfl, hd, wd, .str so, rfl, rfl, kh, rfl, _, rfl, ?_⟩)))))))))
      have uniq : ∀ r' ∈ N.rows, r'.n = r.n → r' = r := fun r' h e => row_uniq ok.nodup h hrr e
      by_cases hso : r.sort ≠ so
      · rw [decide_eq_false (fun z => hso (V.str.inj z)), if_neg Bool.false_ne_true]
        refine k_of (q H none (Ex.refl H) fun m => ⟨(fun e => nomatch e), fun h => ?_⟩)
        obtain ⟨r', hr', e, hs, _⟩ := (led_kind kd).mp h
        rw [uniq r' hr' e] at hs
        exact absurd hs hso
      have hso := Decidable.of_not_not hso
      rw [decide_eq_true (by rw [hso]), if_pos rfl]
      obtain ⟨ps, epa⟩ : ∃ ps : List (Int × Int), r.parts = ps.map fun p => Part.pair p.1 (some p.2) := by
        rcases ok.rows r hrr with ⟨_, h⟩ | ⟨_, h⟩ | h
        · exact h
        · exact h
        · rw [hso] at h
          exact absurd h kd.nw
      have epr := pairs_of epa
      have pnd2 : (ps.map fun z : Int × Int => (Sum.inl z.1 : Key)).Nodup := by
        have := lnd.sublist ((rows_sub hrr).map Arc.link)
        rw [kd.arcs r hso, epr, List.map_map] at this
        refine List.pairwise_map.mpr ((List.pairwise_map.mp this).imp fun {x y} ne e => ne ?_)
        show (mk r.n x).link = (mk r.n y).link
        rw [kd.lk, kd.lk, Sum.inl.inj e]
      rw [epa, List.map_map] at tdp
      obtain ⟨qs, e1, pr⟩ := td_pairs (fun z : Int × Int => (Sum.inl z.1 : Key)) (fun z => z.2) (dPart ∘ fun p : Int × Int => Part.pair p.1 (some p.2)) (fun b => rfl) tdp
      have spl2 := spl (by rw [hso]; exact kd.nw)
      rw [e1] at spl2
      refine cb_of (c_of (v_of rfl (n_of ⟨pa, qs, _, rfl, spl2, pr, fun D hD => ?_⟩)))
      rw [merge_fresh _ [] (by rw [List.nil_append, List.map_map]; exact pnd2), List.nil_append]
      have e2 : Ex H (upd H D (.dK (ps.map fun b => (Sum.inl b.1, V.int b.2)))) := Ex.new hD
      refine ⟨D, rfl, .inl ⟨_, .inl upd_same⟩, op_of (v_of rfl (k_of ⟨l, _, 2, _, rfl, rfl, ex_t e2 hl, atI_nat (j := 2) rfl, _, DGet.k (k := Sum.inl k) upd_same, ?_⟩))⟩
      obtain ⟨o, er, rm⟩ := val_find (k := fun z : Int × Int => (Sum.inl z.1 : Key)) (v := fun z => z.2) pnd2 (Sum.inl k)
      rw [show valV (ps.map fun b => (Sum.inl b.1, V.int b.2)) (Sum.inl k) = o.map V.int from er, vOpt_get]
      refine q _ o e2 fun m => ((rm m).trans ?_).trans (led_kind kd).symm
      constructor
      · rintro ⟨b, hb, e1, e2⟩
        have e1 : b.1 = k := Sum.inl.inj e1
        have e2 : b.2 = m := e2
        exact ⟨r, hrr, rfl, hso, by rw [epr, ← e1, ← e2]; exact hb⟩
      · rintro ⟨r', hr', e, hs, hp'⟩
        rw [uniq r' hr' e, epr] at hp'
        exact ⟨(k, m), hp', rfl, rfl⟩
end
end Sn
/-! {k: v for .. in ..} with tuples of ints and texts as keys -/
namespace L2
open PySem PySem.Spec PyProof.Rows
/-- what a turn of the display must leave: the pair is put at Z -/
abbrev PutAt (Z : Addr) (N : Hp → Prop) (y z : V) (H : Hp) : Prop := ∃ H', DPut H Z y z H' ∧ N H'
def tDcT (wi : TI) (g : TG) (tt : TT) (tk tv : TE) (vs : List Nat) : TE := fun σ H Q => wi σ H fun J H1 => ∀ Z, H1 Z = none → ∃ W : Nat → Nat → Hp → Prop, (∃ m, W 0 m (upd H1 Z (.dT []))) ∧ ∀ i m H, W i m H →
  (J.stop i H ∧ Q (.ref Z) H) ∨ (J.go i H ∧ ∃ Nx : Hp → Prop, (∀ H', Nx H' → ∃ m', m' < m ∧ W (i + 1) m' H') ∧ ∀ x H', J.yld i H x H' → g x (wipe σ vs) H' fun σ2 H2 => wipe σ2 vs = wipe σ vs ∧ tt σ2 H2 fun b H3 =>
    if b = true then tk σ2 H3 fun y H4 => tv σ2 H4 fun z H5 => PutAt Z Nx y z H5 else Nx H3)
theorem d_dictSet_at {X : Cx} {pins : List (Addr × Obj)} {σ : St} {H : Hp} {s : Shared} {A : Around} {E : Value → Shared → Prop} {Z : Addr} {kvs : List (Key × V)} {k : Key} {z : V} {u r : Value} {Q : Unit → Shared → Prop} (I : Inv X pins σ H s) (at1 : H Z = some (.dK kvs)) (few : kvs.length < sizeLine)
    (ry : RelV (kV k) u) (rz : RelV z r) (h : ∀ s2, Inv X pins σ (upd H Z (.dK (putK kvs k z))) s2 → Q () s2) : wpAny (model X.prog X.w) A (dictSet Z u r) Q E s := by
  obtain ⟨most, low, vs, rel, dd⟩ := dk_of I.hok at1
  have more := length_putK kvs k z
  refine wpAny_dictSet_pairs (hsz := by rw [← rel.length]; exact most) (kV_is ry) dd fun h2 dd2 same => h _ ?_
  obtain ⟨ob, es, ep, there, r2⟩ := id dd2
  exact d_write I (by rw [at1]; exact True.intro) same ⟨ob, there⟩ (dk_new (by omega) low (rel.put k rz) dd2)
/-- a pair is put where a comprehension makes its dict -/
theorem put_dict {X : Cx} {pins : List (Addr × Obj)} {σ : St} {H H' : Hp} {s : Shared} {A : Around} {E : Value → Shared → Prop} {Z : Addr} {y z : V} {u r : Value} {Q : Unit → Shared → Prop} (room : A.units + 1 < cLine) (I : Inv X pins σ H s) (g : DPut H Z y z H') (ry : RelV y u) (rz : RelV z r)
    (h : ∀ s2, Inv X pins σ H' s2 → Q () s2) : wpAny (model X.prog X.w) A (dictSet Z u r) Q E s := by
  rcases g with ⟨kvs, k, at1, ey, few, eH⟩ | ⟨kvs, k, b, at1, ey, key, few, eH⟩
  · rw [ey] at ry
    rw [eH] at h
    exact d_dictSet_at I at1 few ry rz h
  · rw [ey] at ry
    rw [eH] at h
    obtain rfl : u = Value.ref b := ry
    obtain ⟨most, low, xs, rel, dd⟩ := dt_of I.hok at1
    have more := length_putK kvs k z
    refine wpAny_dictSet_heap (hsz := by rw [← Paired.length rel]; exact most) (Nat.lt_of_succ_lt room) (key_of I.hok key) dd fun h2 dd2 same => h _ ?_
    obtain ⟨ob, es, ep, there, f1, f2, f3, _, f4⟩ := dd2
    refine d_write I (by rw [at1]; exact True.intro) same ⟨ob, there⟩ ⟨by omega, low, _, (rel.put k key rz).keeps fun c ys ec => ?_, ob, es, ep, there, f1, f2, f3, f4⟩
    exact (upd_ne (ne_of ec at1 (fun q => nomatch q))).trans ec
section
variable {X : Cx}
theorem pe_dcT {kx vx tg iter : Expr} {ifs : List Expr} {scope : Scope} {own : List (Str × Nat)} {pos : Pos} {wi : TI} {g : TG} {tt : TT} {tk tv : TE} (calm : X.calm = true) (room : X.A.units + 1 < cLine) (nodup : X.N.Nodup) (walk : PI X tg iter wi) (ok : BlkOk X.N X.env.scope scope own)
    (pg : ∀ (s : Shared) (H : Hp) (C : Addr) (cl : List (Str × Addr)) (fp : List Addr), PG (X.blk s H scope (compEnvC scope cl C X.env) fp) tg g)
    (pt : ∀ (s : Shared) (H : Hp) (C : Addr) (cl : List (Str × Addr)) (fp : List Addr), PTs (X.blk s H scope (compEnvC scope cl C X.env) fp) ifs tt)
    (pk : ∀ (s : Shared) (H : Hp) (C : Addr) (cl : List (Str × Addr)) (fp : List Addr), PE (X.blk s H scope (compEnvC scope cl C X.env) fp) kx tk)
    (pw : ∀ (s : Shared) (H : Hp) (C : Addr) (cl : List (Str × Addr)) (fp : List Addr), PE (X.blk s H scope (compEnvC scope cl C X.env) fp) vx tv)
    (plain : ∀ x, foldedSetIterable iter X.env x = pure x := by intro _; rfl) : PE X (.DictComp kx vx [⟨tg, iter, ifs, 0⟩] scope pos) (tDcT wi g tt tk tv (own.map (·.2))) := by
  refine ⟨fun pins s σ H Q I want => ?_⟩
  rw [arm_eval_DictComp]
  have cellOf : ∀ y ∈ scope.names, y.2 = .free → ∃ c, X.env.cells.lookup y.1 = some c := by
    intro y hy e
    rcases ok.free y hy e with k | k
    · exact I.ok.has _ (.inl k)
    · exact I.ok.has _ (.inr k)
  refine wpAny_comprehension_free (use := none) rfl plain (closure_ok cellOf) ok.kind (fun y hy e => by rw [ok.uniq y hy, e]) (thn (walk.run pins s σ H _ I want) ?_)
  intro xv s1 first
  refine thn first ?_
  rintro itv s2 ⟨it, fp, tn, J, H2, rfl, I2, T, st2, f2, q⟩
  refine wpAny_newObj_type (newEnv_comp ?_)
  generalize hZ : s2.heap.objs.size = Z
  have newZ : H2 Z = none := I2.hok.fresh (Nat.le_of_eq hZ)
  obtain ⟨W, ⟨m0, w0⟩, turn⟩ := q Z newZ
  generalize hs3 : ({ s2 with heap := s2.heap.push { cls := .type "dict", data := .dict #[] } } : Shared) = s3
  have I3 : Inv X pins σ (upd H2 Z (.dT [])) s3 := by
    rw [← hs3, ← hZ]
    exact I2.laid (t' := s2.toks) (fun b o e => Heap.get?_push_of_some _ e) (Nat.le_refl _) (dt_empty s2.heap I2.big)
  have h3 : s3.heap = s2.heap.push { cls := .type "dict", data := .dict #[] } := by rw [← hs3]
  have f3 : ∀ b ∈ fp, FpOk X pins (upd H2 Z (.dT [])) b ∧ b < s3.heap.objs.size := by
    intro b hb
    obtain ⟨o, e, _⟩ := T.obj _ _ st2 b hb
    have low := Heap.lt_size e
    have ne : b ≠ Z := by
      rw [← hZ]
      exact Nat.ne_of_lt low
    exact ⟨⟨(upd_ne ne).trans (f2 b hb).1, (f2 b hb).2⟩, by rw [h3, Heap.size_push]; exact Nat.lt_succ_of_lt low⟩
  have st3 : tn 0 s3.heap := T.keep _ _ _ st2 fun b _ o e => by
    rw [h3]
    exact Heap.get?_push_of_some _ e
  have I4 := block_start I3 ok nodup f3
  have g1 := pg s3 (upd H2 Z (.dT [])) s3.heap.objs.size (cellsFrom (s3.heap.objs.size + 1) scope.names (cloFrom X.env.cells scope.names [])) fp
  have g2 := pt s3 (upd H2 Z (.dT [])) s3.heap.objs.size (cellsFrom (s3.heap.objs.size + 1) scope.names (cloFrom X.env.cells scope.names [])) fp
  have g3 := pk s3 (upd H2 Z (.dT [])) s3.heap.objs.size (cellsFrom (s3.heap.objs.size + 1) scope.names (cloFrom X.env.cells scope.names [])) fp
  have g4 := pw s3 (upd H2 Z (.dT [])) s3.heap.objs.size (cellsFrom (s3.heap.objs.size + 1) scope.names (cloFrom X.env.cells scope.names [])) fp
  have none3 : ∀ b ∈ fp, (upd H2 Z (.dT [])) b = none := fun b hb => (f3 b hb).1.1
  refine (?_ : codeAny (model X.prog X.w) X.A (.compStart (.DictComp kx vx [⟨tg, iter, ifs, 0⟩] scope pos) 0 (.ref it) (.ref Z) (compEnvC scope (cellsFrom (s3.heap.objs.size + 1) scope.names (cloFrom X.env.cells scope.names [])) s3.heap.objs.size X.env)) _
    { s3 with heap := pushCells (s3.heap.push { cls := .type "dict", data := .dict #[] }) scope.names })
  generalize hce : compEnvC scope (cellsFrom (s3.heap.objs.size + 1) scope.names (cloFrom X.env.cells scope.names [])) s3.heap.objs.size X.env = ce at I4 g1 g2 g3 g4 ⊢
  have cL : ce.locals = s3.heap.objs.size := by
    subst hce
    rfl
  generalize hH3 : upd H2 Z (.dT []) = H3 at I3 I4 g1 g2 g3 g4 w0 none3 f3
  generalize hs4 : ({ s3 with heap := pushCells (s3.heap.push { cls := .type "dict", data := .dict #[] }) scope.names } : Shared) = s4 at I4 ⊢
  have st4 : tn 0 s4.heap := T.keep _ _ _ st3 fun b _ o e => by
    rw [← hs4]
    exact pushCells_keeps _ _ _ _ (Heap.get?_push_of_some _ e)
  have foot : ∀ {σ1 : St} {H1 : Hp} {t1 : Shared}, Inv (X.blk s3 H3 scope ce fp) [] σ1 H1 t1 → (∀ b ∈ fp, H1 b = none) → ∀ b ∈ fp, FpOk (X.blk s3 H3 scope ce fp) [] H1 b := by
    intro σ1 H1 t1 J1 off b hb
    exact ⟨off b hb, (J1.ok.exf b hb).1, J1.ok.exfs b hb, .inl hb, (fun x c e => (J1.ok.exf b hb).2 x c e), fun p hp => absurd (show p ∈ ([] : List (Addr × Obj)) ++ [] from hp) (by simp)⟩
  have whole : codeAny (model X.prog X.w) X.A (.compLoop (.DictComp kx vx [⟨tg, iter, ifs, 0⟩] scope pos) 0 (.ref it) (.ref Z) ce) (compPost (model X.prog X.w) X.A X.xe none (EP X pins σ Q) (.ref Z) s3.heap.objs.size) s4 := by
    refine compLoop_anyD (fun n t1 => ∃ i H1, Inv (X.blk s3 H3 scope ce fp) [] (wipe σ (own.map (·.2))) H1 t1 ∧ tn i t1.heap ∧ (∀ b ∈ fp, H1 b = none) ∧ W i n H1) ?_ m0 ⟨0, H3, I4, st4, none3, w0⟩
    rintro n t5 ⟨i, H5, I5, st5, off5, w5⟩
    rcases turn i n H5 w5 with ⟨halt, fin⟩ | ⟨more, Nx, less, step⟩
    · refine thnF (T.done (X.blk s3 H3 scope ce fp) rfl rfl rfl calm i [] t5 _ H5 (fun _ _ => False) I5 (foot I5 off5) st5 halt) ?_
      rintro r t6 ⟨rfl, I6⟩
      have I7 : Inv X pins σ H5 t6 := I3.call' (ch := fp) I6.os I6.base I6.hok I6.bare fun b hb => ⟨(f3 b hb).1.2.2.2.1, (f3 b hb).1.2.1, (f3 b hb).1.2.2.2.2.1, (f3 b hb).1.2.2.2.2.2⟩
      have free7 : H5 s3.heap.objs.size = none := by
        rw [← cL]
        exact I6.free
      obtain ⟨m, hn, _⟩ := I6.loc
      have hn2 : t6.heap.Ns s3.heap.objs.size m := by
        rw [← cL]
        exact hn
      obtain ⟨p0, p1, p2, p3, p4, p5⟩ := I3.fpOk (Nat.le_refl _) free7
      exact ⟨m, hn2, fun h2 same => ⟨.ref Z, H5, I7.turned (t' := t6.toks) (fun b o hb e => (same.2 b hb).trans e) p0 p1 p3 p4 p5, rfl, fin⟩⟩
    · refine thnF (T.item (X.blk s3 H3 scope ce fp) rfl rfl rfl calm i [] t5 _ H5 (fun _ _ => False) I5 (foot I5 off5) st5 more) ?_
      rintro r t6 ⟨u, rfl, h6⟩
      refine thnF h6 ?_
      rintro _ t7 ⟨x, H7, I7, rx, yl, st7, off7⟩
      have pinned := I7.pinned (foot I7 off7) (T.obj _ _ st7)
      refine thnF (g1.run _ t7 _ H7 x u _ pinned rx (step x H7 yl)) ?_
      rintro _ t8 ⟨σ8, H8, I8, same8, q8⟩
      refine thnF (g2.run _ t8 σ8 H8 _ I8 q8) ?_
      rintro b t9 ⟨H9, I9, q9⟩
      have next : ∀ {t1 : Shared} {H1 : Hp}, Inv (X.blk s3 H3 scope ce fp) ([] ++ pinsAt fp t7.heap) σ8 H1 t1 → Nx H1 → ∃ m, m < n ∧ ∃ i H1, Inv (X.blk s3 H3 scope ce fp) [] (wipe σ (own.map (·.2))) H1 t1 ∧ tn i t1.heap ∧ (∀ b ∈ fp, H1 b = none) ∧ W i m H1 := by
        intro t1 H1 J1 nx
        obtain ⟨m', lt, w'⟩ := less H1 nx
        have there : ∀ b ∈ fp, ∀ o, t7.heap.get? b = some o → t1.heap.get? b = some o ∧ H1 b = none := by
          intro b hb o e
          have z := J1.pin (b, o) (List.mem_append_right _ (List.mem_append_right _ (mem_pinsAt hb e)))
          exact ⟨z.1, z.2.1⟩
        refine ⟨m', lt, i + 1, H1, (J1.unpinned (pins := [])).weak (by rw [← same8, wipe_length]) (fun j v e => ?_), T.keep _ _ _ st7 fun b hb o e => (there b hb o e).1, fun b hb => ?_, w'⟩
        · rw [← same8] at e
          exact (wipe_some e).1
        · obtain ⟨o, e, _⟩ := T.obj _ _ st7 b hb
          exact (there b hb o e).2
      cases b with
      | false =>
        rw [if_neg Bool.false_ne_true] at q9 ⊢
        exact next I9 q9
      | true =>
        rw [if_pos rfl] at q9 ⊢
        refine thnF (g3.run _ t9 σ8 H9 _ I9 q9) ?_
        rintro k1 t10 ⟨yk, H10, I10, r10, q10⟩
        refine thnF (g4.run _ t10 σ8 H10 _ I10 q10) ?_
        rintro v1 t11 ⟨yv, H11, I11, r11, H12, put, nx⟩
        exact put_dict (X := X.blk s3 H3 scope ce fp) room I11 put r10 r11 fun t12 I12 => next I12 nx
  exact codeAny_compStart_dict whole (T.self X.A 0 _ _ _ st4 whole)
end
end L2
namespace Sn
open PySem PySem.Spec PyProof.Rows L2 Evl Gd
theorem dcT_of {wi : TI} {g : TG} {tt : TT} {tk tv : TE} {vs : List Nat} {σ : L2.St} {H : Hp} {Q : VK} (h : wi σ H fun J H1 => ∀ Z, H1 Z = none → ∃ W : Nat → Nat → Hp → Prop, (∃ m, W 0 m (upd H1 Z (.dT []))) ∧ ∀ i m H, W i m H →
  (J.stop i H ∧ Q (.ref Z) H) ∨ (J.go i H ∧ ∃ Nx : Hp → Prop, (∀ H', Nx H' → ∃ m', m' < m ∧ W (i + 1) m' H') ∧ ∀ x H', J.yld i H x H' → g x (wipe σ vs) H' fun σ2 H2 => wipe σ2 vs = wipe σ vs ∧ tt σ2 H2 fun b H3 =>
    if b = true then tk σ2 H3 fun y H4 => tv σ2 H4 fun z H5 => PutAt Z Nx y z H5 else Nx H3)) : tDcT wi g tt tk tv vs σ H Q := h
/-- over any walk -/
theorem dcT_it {J : It} {n : Nat} {G : Hp → Prop} {Y : Nat → Hp → V → Hp → Prop} (w : Walk J n G Y) {g : TG} {tt : TT} {tk tv : TE} {vs : List Nat} {σ : L2.St} {H1 : Hp} {Z : Addr} {Qd : Hp → Prop} (Pv : Nat → Hp → Prop) (h0 : Pv 0 (upd H1 Z (.dT []))) (hG : ∀ i H, i ≤ n → Pv i H → G H)
    (hs : ∀ i x H H', i < n → Pv i H → Y i H x H' → g x (wipe σ vs) H' fun σ2 H2 => wipe σ2 vs = wipe σ vs ∧ tt σ2 H2 fun b H3 => if b = true then tk σ2 H3 fun y H4 => tv σ2 H4 fun z H5 => PutAt Z (Pv (i + 1)) y z H5 else Pv (i + 1) H3)
    (hd : ∀ H, Pv n H → Qd H) :
    ∃ W : Nat → Nat → Hp → Prop, (∃ m, W 0 m (upd H1 Z (.dT []))) ∧ ∀ i m H, W i m H → (J.stop i H ∧ Qd H) ∨ (J.go i H ∧ ∃ Nx : Hp → Prop, (∀ H', Nx H' → ∃ m', m' < m ∧ W (i + 1) m' H') ∧ ∀ x H', J.yld i H x H' → g x (wipe σ vs) H' fun σ2 H2 => wipe σ2 vs = wipe σ vs ∧ tt σ2 H2 fun b H3 =>
        if b = true then tk σ2 H3 fun y H4 => tv σ2 H4 fun z H5 => PutAt Z Nx y z H5 else Nx H3) := by
  refine ⟨fun i m H => m = n - i ∧ i ≤ n ∧ Pv i H, ⟨n, by omega, by omega, h0⟩, ?_⟩
  rintro i m H ⟨rfl, hi, pv⟩
  rcases Nat.lt_or_eq_of_le hi with lt | rfl
  · refine .inr ⟨w.goes i H lt (hG i H hi pv), Pv (i + 1), fun H' p' => ⟨n - (i + 1), by omega, rfl, lt, p'⟩, fun x H' y => ?_⟩
    exact hs i x H H' lt pv (w.yields i H x H' lt (hG i H hi pv) y)
  · exact .inl ⟨w.stops H (hG i H hi pv), hd H pv⟩
end Sn
namespace L2
open PySem PySem.Spec PyProof.Rows
/-- a dict with tuple keys that was just made, locked from here on -/
def tLockT (td : TE) : TE := fun σ H Q => td σ H fun x H1 => ∃ d kvs, x = .ref d ∧ H1 d = some (.dT kvs) ∧ ∀ od, Q x (upd H1 d (.frz od (.dT kvs)))
theorem pe_lockT {X : Cx} {e : Expr} {td : TE} (he : PE X e td) : PE X e (tLockT td) := by
  refine ⟨fun pins s σ H Q I h => ?_⟩
  refine thn (he.run pins s σ H _ I h) fun u s1 ⟨x, H1, I1, rx, d, kvs, ex, hd, q⟩ => ?_
  subst ex
  obtain ⟨od, I2⟩ := I1.lock hd trivial
  exact ⟨_, _, I2, rx, q od⟩
end L2
namespace Sn
open PySem PySem.Spec PyProof.Rows L2 Evl Gd
/-- the keys of a tuple that lies there -/
def keyV : V → Option Key
  | .int i => some (.inl i)
  | .str x => some (.inr x)
  | _ => none
theorem keyV_k : ∀ k : Key, keyV (kV k) = some k
  | .inl _ => rfl
  | .inr _ => rfl
theorem keyV_ks (ks : List Key) : (ks.map kV).filterMap keyV = ks := by
  induction ks with
  | nil => rfl
  | cons k ks ih => rw [List.map_cons, List.filterMap_cons_some (keyV_k k), ih]
def keysOf (H : Hp) (x : V) : List Key := match x with
  | .ref a => match H a with
    | some (.tup vs) => vs.filterMap keyV
    | _ => []
  | _ => []
theorem keysOf_at {H : Hp} {a : Addr} {ks : List Key} (h : H a = some (.tup (ks.map kV))) : keysOf H (.ref a) = ks := by
  unfold keysOf
  dsimp only
  rw [h]
  exact keyV_ks ks
end Sn
namespace Sn
open PySem PySem.Spec PyProof.Rows L2 Evl Gd
abbrev sWout : Stmt := inClass (topS 11) 4
abbrev nWout : List Str := ["self", "links", "gone", "link", "roots", "pair", "rows", "sort", "parts", "part"]
theorem scWout : FnScope nWout ["self", "links"] (defScope sWout) := ⟨rfl, rfl, rfl, by decide +kernel, rfl, by decide +kernel, by decide +kernel⟩
instance memLinks (a : List Key) (ls : List (List Key)) : Decidable (a ∈ ls) := decidable_of_iff (∃ b ∈ ls, b = a) (by simp)
def keyP : Part → Option Int
  | .pair k _ => some k
  | .tgt _ => none
def hitL (n : Int) (p : Part) (l : List Key) : Bool := match l with
  | [_, .inl m, .inl k] => decide (m = n) && decide (keyP p = some k)
  | _ => false
def hitP (ls : List (List Key)) (n : Int) (p : Part) : Bool := ls.any (hitL n p)
def hitR (ls : List (List Key)) (r : Str × Int) : Bool := decide (([Sum.inr "root", Sum.inr r.1] : List Key) ∈ ls)
def cutRow (ls : List (List Key)) (r : Row) : Row := ⟨r.n, r.sort, r.parts.filter fun p => !hitP ls r.n p⟩
def cutNet (ls : List (List Key)) (N : NetM) : NetM := ⟨N.roots.filter fun r => !hitR ls r, N.rows.map (cutRow ls)⟩
/-! the net without links: its arcs -/
theorem pairs_filt (q : Part → Bool) : ∀ ps : List (Int × Int), ((ps.map fun p => Part.pair p.1 (some p.2)).filter q) = (ps.filter fun p => q (.pair p.1 (some p.2))).map fun p => Part.pair p.1 (some p.2)
  | [] => rfl
  | p :: ps => by
    rw [List.map_cons]
    cases h : q (.pair p.1 (some p.2)) with
    | true => rw [List.filter_cons_of_pos h, List.filter_cons_of_pos (by exact h), List.map_cons, pairs_filt q ps]
    | false => rw [List.filter_cons_of_neg (by rw [h]; exact Bool.false_ne_true), List.filter_cons_of_neg (by rw [h]; exact Bool.false_ne_true), pairs_filt q ps]
theorem cut_ok {ls : List (List Key)} {r : Row} (h : OkRow r) : OkRow (cutRow ls r) := by
  rcases h with ⟨a, ps, e⟩ | ⟨a, ps, e⟩ | a
  · exact .inl ⟨a, _, by show r.parts.filter _ = _; rw [e]; exact pairs_filt _ ps⟩
  · exact .inr (.inl ⟨a, _, by show r.parts.filter _ = _; rw [e]; exact pairs_filt _ ps⟩)
  · exact .inr (.inr a)
/-- the links are of the net -/
def OfNet (N : NetM) (ls : List (List Key)) : Prop := ∀ l ∈ ls, ∃ α ∈ netArcs N, α.link = l
theorem hit_slot {N : NetM} (ok : OkNet N) {ls : List (List Key)} (of : OfNet N ls) {r : Row} (hr : r ∈ N.rows) (hs : r.sort = "record") (z : Int × Int) : hitP ls r.n (.pair z.1 (some z.2)) = decide ((slotA r.n z).link ∈ ls) := by
  cases h : hitP ls r.n (.pair z.1 (some z.2)) with
  | true =>
    obtain ⟨l, hl, e⟩ := List.any_eq_true.mp h
    refine (decide_eq_true ?_).symm
    obtain ⟨α, ha, el⟩ := of l hl
    rcases arc_cases ha with ⟨r', _, rfl⟩ | ⟨r', hr', hs', z', hz', rfl⟩ | ⟨r', hr', hs', z', hz', rfl⟩
    · rw [← el] at e
      cases e
    · rw [← el] at e
      have e' : (decide (r'.n = r.n) && decide (some z.1 = some z'.1)) = true := e
      obtain ⟨a, b⟩ := Bool.and_eq_true_iff.mp e'
      have a := of_decide_eq_true a
      have b := Option.some.inj (of_decide_eq_true b)
      have e2 : (slotA r.n z).link = l := by
        rw [← el]
        unfold slotA
        rw [a, b]
      rw [e2]
      exact hl
    · rw [← el] at e
      have e' : (decide (r'.n = r.n) && decide (some z.1 = some z'.1)) = true := e
      obtain ⟨a, b⟩ := Bool.and_eq_true_iff.mp e'
      have er := row_uniq ok.nodup hr' hr (of_decide_eq_true a)
      rw [er, hs] at hs'
      exact absurd hs' (by decide +kernel)
  | false =>
    refine (decide_eq_false fun m => ?_).symm
    have := List.any_eq_false.mp h _ m
    exact this (by
      show (decide (r.n = r.n) && decide (some z.1 = some z.1)) = true
      simp)
theorem hit_entry {N : NetM} (ok : OkNet N) {ls : List (List Key)} (of : OfNet N ls) {r : Row} (hr : r ∈ N.rows) (hs : r.sort = "map") (z : Int × Int) : hitP ls r.n (.pair z.1 (some z.2)) = decide ((entryA r.n z).link ∈ ls) := by
  cases h : hitP ls r.n (.pair z.1 (some z.2)) with
  | true =>
    obtain ⟨l, hl, e⟩ := List.any_eq_true.mp h
    refine (decide_eq_true ?_).symm
    obtain ⟨α, ha, el⟩ := of l hl
    rcases arc_cases ha with ⟨r', _, rfl⟩ | ⟨r', hr', hs', z', hz', rfl⟩ | ⟨r', hr', hs', z', hz', rfl⟩
    · rw [← el] at e
      cases e
    · rw [← el] at e
      have e' : (decide (r'.n = r.n) && decide (some z.1 = some z'.1)) = true := e
      obtain ⟨a, b⟩ := Bool.and_eq_true_iff.mp e'
      have er := row_uniq ok.nodup hr' hr (of_decide_eq_true a)
      rw [er, hs] at hs'
      exact absurd hs' (by decide +kernel)
    · rw [← el] at e
      have e' : (decide (r'.n = r.n) && decide (some z.1 = some z'.1)) = true := e
      obtain ⟨a, b⟩ := Bool.and_eq_true_iff.mp e'
      have a := of_decide_eq_true a
      have b := Option.some.inj (of_decide_eq_true b)
      have e2 : (entryA r.n z).link = l := by
        rw [← el]
        unfold entryA
        rw [a, b]
      rw [e2]
      exact hl
  | false =>
    refine (decide_eq_false fun m => ?_).symm
    have := List.any_eq_false.mp h _ m
    exact this (by
      show (decide (r.n = r.n) && decide (some z.1 = some z.1)) = true
      simp)
def keptA (ls : List (List Key)) (as : List Arc) : List Arc := as.filter fun α => decide (α.link ∉ ls)
theorem keep_map {β : Type} (f : β → Arc) (q : β → Bool) (ls : List (List Key)) : ∀ (l : List β), (∀ b ∈ l, q b = decide ((f b).link ∈ ls)) → (l.filter fun b => !q b).map f = keptA ls (l.map f)
  | [], _ => rfl
  | b :: l, h => by
    have ih := keep_map f q ls l fun c hc => h c (List.mem_cons_of_mem _ hc)
    have e := h b List.mem_cons_self
    unfold keptA at ih ⊢
    rw [List.map_cons]
    by_cases m : (f b).link ∈ ls
    · rw [decide_eq_true m] at e
      rw [List.filter_cons_of_neg (by rw [e]; exact Bool.false_ne_true), List.filter_cons_of_neg (by simpa using m), ih]
    · rw [decide_eq_false m] at e
      rw [List.filter_cons_of_pos (by rw [e]; rfl), List.filter_cons_of_pos (by simpa using m), List.map_cons, ih]
theorem row_cut {N : NetM} (ok : OkNet N) {ls : List (List Key)} (of : OfNet N ls) {r : Row} (hr : r ∈ N.rows) : rowArcs (cutRow ls r) = keptA ls (rowArcs r) := by
  unfold rowArcs
  by_cases h1 : r.sort = "record"
  · rw [if_pos (show (cutRow ls r).sort = "record" from h1), if_pos h1]
    rcases ok.rows r hr with ⟨_, ps, e⟩ | ⟨a, _⟩ | a
    · rw [pairs_of e, pairs_of (r := cutRow ls r) (ps := ps.filter fun p => !hitP ls r.n (.pair p.1 (some p.2))) (by show r.parts.filter _ = _; rw [e]; exact pairs_filt _ ps)]
      exact keep_map _ _ ls ps fun b _ => hit_slot ok of hr h1 b
    · rw [h1] at a
      exact absurd a (by decide +kernel)
    · rw [h1] at a
      exact absurd a (by decide +kernel)
  · rw [if_neg (show ¬ (cutRow ls r).sort = "record" from h1), if_neg h1]
    by_cases h2 : r.sort = "map"
    · rw [if_pos (show (cutRow ls r).sort = "map" from h2), if_pos h2]
      rcases ok.rows r hr with ⟨a, _⟩ | ⟨_, ps, e⟩ | a
      · exact absurd a h1
      · rw [pairs_of e, pairs_of (r := cutRow ls r) (ps := ps.filter fun p => !hitP ls r.n (.pair p.1 (some p.2))) (by show r.parts.filter _ = _; rw [e]; exact pairs_filt _ ps)]
        exact keep_map _ _ ls ps fun b _ => hit_entry ok of hr h2 b
      · rw [h2] at a
        exact absurd a (by decide +kernel)
    · rw [if_neg (show ¬ (cutRow ls r).sort = "map" from h2), if_neg h2]
      rfl
theorem cut_arcs {N : NetM} (ok : OkNet N) {ls : List (List Key)} (of : OfNet N ls) : netArcs (cutNet ls N) = keptA ls (netArcs N) := by
  unfold netArcs cutNet
  dsimp only
  unfold keptA
  rw [List.filter_append]
  congr 1
  · exact keep_map rootArc (hitR ls) ls N.roots fun b _ => rfl
  · rw [List.flatMap_map, List.filter_flatMap]
    exact flat_congr fun r hr => row_cut ok of hr
theorem cut_net_ok {N : NetM} (ok : OkNet N) {ls : List (List Key)} (of : OfNet N ls) : OkNet (cutNet ls N) := by
  have rn : (cutNet ls N).rows.map Row.n = N.rows.map Row.n := by
    show (N.rows.map (cutRow ls)).map Row.n = _
    rw [List.map_map]
    rfl
  refine ⟨fun r hr => ?_, by rw [rn]; exact ok.nodup, fun α ha => ?_, ?_, ?_⟩
  · obtain ⟨r', hr', rfl⟩ := List.mem_map.mp hr
    exact cut_ok (ok.rows r' hr')
  · rw [rn]
    rw [cut_arcs ok of] at ha
    exact ok.there α (List.mem_filter.mp ha).1
  · rw [cut_arcs ok of]
    exact Nat.le_trans (List.length_filter_le _ _) ok.many
  · show (N.rows.map (cutRow ls)).length ≤ 1000
    rw [List.length_map]
    exact ok.len
/-- an address of a link's tuple -/
def LnkA (H : Hp) (y : V) (α : Arc) : Prop := ∃ l, y = .ref l ∧ H l = some (.tup (α.link.map kV))
theorem LnkA.ex {H H' : Hp} {y : V} {α : Arc} (e : Ex H H') (h : LnkA H y α) : LnkA H' y α := by
  obtain ⟨l, a, b⟩ := h
  exact ⟨l, a, e _ _ b⟩
abbrev kTrueT (ls : List (List Key)) : List (List Key × V) := ls.map fun l => (l, V.bl true)
theorem val_kTrueT (k : List Key) : ∀ ls : List (List Key), (valV (kTrueT ls) k).isSome = decide (k ∈ ls)
  | [] => rfl
  | l :: ls => by
    have ih := val_kTrueT k ls
    show (valV ((l, V.bl true) :: kTrueT ls) k).isSome = _
    by_cases e : l = k
    · rw [valV_pos e, decide_eq_true (by rw [e]; exact List.mem_cons_self)]
      rfl
    · rw [valV_neg e, ih]
      exact decide_eq_decide.mpr ⟨fun h => List.mem_cons_of_mem _ h, fun h => by
        rcases List.mem_cons.mp h with q | q
        · exact absurd q.symm e
        · exact q⟩
theorem isSome_put {κ : Type} [DecidableEq κ] (kvs : List (κ × V)) (k k' : κ) (v : V) : (valV (putK kvs k v) k').isSome = (decide (k' = k) || (valV kvs k').isSome) := by
  rw [valV_put]
  by_cases e : k' = k
  · rw [if_pos e, decide_eq_true e]
    rfl
  · rw [if_neg e, decide_eq_false e]
    rfl
def spWout (K : PySem.W.Frag) (C : Addr) : Sp := fun vs H Q _ => ∃ (p t : Addr) (N : NetM) (ys : List V) (gs : List Arc), vs = [.ref p, .ref t] ∧ NetAt K C H p N ∧ OkNet N ∧ SqT K H t ys ∧ Paired (LnkA H) ys gs ∧ gs.length ≤ 1000 ∧ (∀ g ∈ gs, g ∈ netArcs N) ∧
  ∀ (H' : Hp) (p' : Addr), Ex H H' → NetAt K C H' p' (cutNet (gs.map Arc.link) N) → Q (.ref p') H'
/-- a row set anew -/
theorem RowsAt.set {K : PySem.W.Frag} {H H' : Hp} {d : Addr} {kvs : List (Key × V)} {rs : List Row} {v : V} {r r' : Row} (h : RowsAt K H kvs rs) (hd : H d = some (.dK kvs)) (e : ∀ a o, a ≠ d → H a = some o → H' a = some o) (hr : r ∈ rs) (hn : r'.n = r.n) (hv : RowAt K H v r') :
    RowsAt K H' (putK kvs (.inl r.n) v) (rs.map fun x => if x.n = r.n then r' else x) := by
  have mem : (Sum.inl r.n : Key) ∈ kvs.map (·.1) := by
    rw [h.1]
    exact List.mem_map_of_mem hr
  refine ⟨?_, fun x hx => ?_⟩
  · have e1 : (putK kvs (.inl r.n) v).map (·.1) = kvs.map (·.1) := by
      unfold putK
      rw [if_pos]
      · rw [List.map_map]
        refine List.map_congr_left fun y _ => ?_
        show (if y.1 = _ then (y.1, v) else y).1 = y.1
        split <;> rfl
      · obtain ⟨z, hz, ez⟩ := List.mem_map.mp mem
        exact List.any_eq_true.mpr ⟨z, hz, decide_eq_true ez⟩
    rw [e1, h.1, List.map_map]
    refine List.map_congr_left fun y _ => ?_
    show (Sum.inl y.n : Key) = Sum.inl (if y.n = r.n then r' else y).n
    by_cases q : y.n = r.n
    · rw [if_pos q, hn, q]
    · rw [if_neg q]
  · obtain ⟨y, hy, rfl⟩ := List.mem_map.mp hx
    rw [valV_put]
    by_cases q : y.n = r.n
    · rw [if_pos q, if_pos (by rw [hn])]
      exact ⟨v, rfl, hv.keep hd e⟩
    · rw [if_neg q, if_neg (fun z => q (Sum.inl.inj z))]
      obtain ⟨u, h1, h2⟩ := h.2 y hy
      exact ⟨u, h1, h2.keep hd e⟩
theorem cut_snoc_other {ls : List (List Key)} {l : List Key} {r : Row} (h : ∀ p, hitL r.n p l = false) : cutRow (ls ++ [l]) r = cutRow ls r := by
  unfold cutRow
  congr 1
  refine List.filter_congr fun p _ => ?_
  unfold hitP
  rw [List.any_append, List.any_cons, List.any_nil, h p]
  simp
theorem cut_snoc_this {ls : List (List Key)} {l : List Key} {r : Row} : (cutRow (ls ++ [l]) r).parts = (cutRow ls r).parts.filter fun p => !hitL r.n p l := by
  show r.parts.filter _ = (r.parts.filter _).filter _
  rw [List.filter_filter]
  refine List.filter_congr fun p _ => ?_
  unfold hitP
  rw [List.any_append, List.any_cons, List.any_nil, Bool.or_false, Bool.not_or, Bool.and_comm]
section
variable {P : Program} {w : World} {K : PySem.W.Frag} {mg : Str → Option Value} {base : Heap}
theorem ok_wout {f C : Addr} {fd : FuncData} (F : Fun K "without" "Net.without" sWout f fd) (N : NetD P w K mg base C) (mD : mg "dict" = none) : FnOk P w K mg base CX0 3 f fd ["self", "links"] (spWout K C) := by
  obtain ⟨T, fI, fdI, MK, GI, bI⟩ := N
  refine F.ok scWout (fun vs H Q E h => ?_) (fun cdv A outer s H vs Q E hr h => ?_)
  · obtain ⟨p, t, N, ys, gs, rfl, _⟩ := h
    rfl
  · obtain ⟨p, t, N, ys, gs, rfl, hN, ok, hys, prs, gl, hg, q⟩ := h
    have hu := hu_of hr
    refine ⟨_, pss_cons (ps_set (i := 2) scWout.nd rfl (.inr rfl) (pe_dcT (own := [("link", 3)]) (g := gName 3) (tt := tYes) (tk := tVar 3) (tv := tC (.bl true)) rfl hu scWout.nd (pi_tup (pv 1)) (blkOk_by (N := nWout) (sc := defScope sWout) (by decide +kernel))
        (fun _ _ _ _ _ => pg_name (i := 3) scWout.nd rfl (.inl rfl)) (fun _ _ _ _ _ => pts_nil) (fun _ _ _ _ _ => pv 3) (fun _ _ _ _ _ => pe_bl))) <|
      pss_cons (ps_setLc (i := 4) (own := [("pair", 5)]) (g := gName 5) (tt := tTest (tDNotIn (tTup (tCons (tC (.str "root")) (tCons (tOp (rIxT K) (tVar 5) (tC (.int 0))) tNil))) (tVar 2))) (te := tVar 5) rfl scWout.nd rfl rfl (sw_true rfl rfl rfl (by decide +kernel)) (pi_seq (pe_fld (pv 0) rfl)) (blkOk_by (N := nWout) (sc := defScope sWout) (by decide +kernel))
        (fun _ _ _ _ _ => pg_name (i := 5) scWout.nd rfl (.inl rfl)) (fun _ _ _ _ _ => pts_one (pt_cmp (pc_dnotin hu (pe_tup (pa_cons pe_str <| pa_cons (pe_ix ix_tup (pv 5) pe_int (fun _ _ => rfl)) pa_nil)) (pv 2)))) (fun _ _ _ _ _ => pv 5)) <|
      pss_cons (ps_set (i := 6) scWout.nd rfl (.inl rfl) (pe_callTy call_dictD (by rfl) mD (by decide +kernel) (pa_cons (pe_fld (pv 0) rfl) pa_nil))) <|
      pss_cons (ps_for PassesOwn.never rfl (pi_tup (pv 1)) (pg_name (i := 3) scWout.nd rfl (.inr rfl))
        (pss_one (ps_if (pt_cmpR op_ne (pe_ix ix_tup (pv 3) pe_int (fun _ _ => rfl)) pe_str (nomark _))
          (pss_cons (ps_asg (pe_dget hu (pv 6) (pe_ix ix_tup (pv 3) pe_int (fun _ _ => rfl)) (fun _ _ => rfl)) (pg_tup (n := 2) rfl (pgs_cons (pg_name (i := 7) scWout.nd rfl (.inl rfl)) <| pgs_cons (pg_name (i := 8) scWout.nd rfl (.inl rfl)) pgs_nil))) <|
          pss_one (ps_dput hu (pv 6) (pe_ix ix_tup (pv 3) pe_int (fun _ _ => rfl)) (pe_tup (pa_cons (pv 7) <| pa_cons (pe_lc (own := [("part", 9)]) (g := gName 9) (tt := tTest (tOp rNe (tOp (rIxT K) (tVar 9) (tC (.int 0))) (tOp (rIxT K) (tVar 3) (tC (.int 2))))) (te := tVar 9) rfl scWout.nd (pi_seq (pv 8)) (blkOk_by (N := nWout) (sc := defScope sWout) (by decide +kernel))
            (fun _ _ _ _ _ => pg_name (i := 9) scWout.nd rfl (.inl rfl)) (fun _ _ _ _ _ => pts_one (pt_cmpR op_ne (pe_ix ix_tup (pv 9) pe_int (fun _ _ => rfl)) (pe_ix ix_tup (pv 3) pe_int (fun _ _ => rfl)) (nomark _))) (fun _ _ _ _ _ => pv 9)) pa_nil)) rfl)) pss_nil))) <|
      pss_one (ps_ret (pe_make MK GI hr rfl T.mgC bI .nil pass0 (pa_cons (pv 4) (pa_cons (pv 6) pa_nil)))), ?_⟩
    obtain ⟨dx, ra, rs, d, kvs, hp, hra, tra, hd, hR⟩ := id hN
    have yl : ys.length = gs.length := Paired.length prs
    refine seq_of (asg_of (dcT_of (iT_of (v_of rfl ⟨t, rfl, ⟨_, hys⟩, fun Z hZ => dcT_it (walk_tup (K := K) (a := t) (xs := ys)) (fun i H' => Ex H H' ∧ ∃ kv2, H' Z = some (.dT kv2) ∧ kv2.length ≤ i ∧ ∀ k, (valV kv2 k).isSome = decide (k ∈ (gs.take i).map Arc.link)) ⟨Ex.new hZ, [], upd_same, Nat.le_refl _, fun k => rfl⟩ (fun i H' _ h => ex_t h.1 hys) ?_ ?_⟩))))
    · rintro i x H0 H' hi ⟨e, kv2, hz, kl, hk⟩ ⟨rfl, hx⟩
      obtain ⟨g, hg1, l, rfl, hl⟩ := paired_at prs hx
      refine ⟨rfl, ?_⟩
      dsimp only [tYes]
      rw [if_pos rfl]
      refine v_of rfl (k_of ⟨_, .t hz (e _ _ hl) (sz_lt (by omega)), Ex.mut e hZ, _, upd_same, Nat.le_trans (length_putK _ _ _) (by omega), fun k => ?_⟩)
      rw [isSome_put, hk k, take_one hg1, List.map_append]
      by_cases a : k = g.link
      · rw [decide_eq_true a, Bool.true_or]
        exact (decide_eq_true (by rw [a]; simp)).symm
      · rw [decide_eq_false a, Bool.false_or]
        refine decide_eq_decide.mpr ⟨fun h => List.mem_append_left _ h, fun h => ?_⟩
        rcases List.mem_append.mp h with h | h
        · exact h
        · exact absurd (List.mem_singleton.mp h) a
    rintro H1 ⟨e1, kvg, hgone, kgl, hgk⟩
    rw [yl, List.take_length] at hgk
    dsimp only
    have rootsl : N.roots.length ≤ 1000 := by
      have := ok.many
      unfold netArcs at this
      rw [List.length_append, List.length_map] at this
      omega
    have rsl := tra.len
    rw [List.length_map] at rsl
    refine seq_of (asg_of (lc_seqA hra e1 (fun Q h => ⟨.ref p, rfl, p, C, dx, _, _, rfl, e1 _ _ hp, T.cl, T.nR, nf_roots _ _, h⟩) fun L hL => ⟨fun i H' => Ex H1 H' ∧ ∃ us, H' L = some (.lst us) ∧ us.length ≤ i ∧ TdAll K H' us (((N.roots.take i).filter fun r => !hitR (gs.map Arc.link) r).map dRoot), ⟨Ex.new hL, [], upd_same, Nat.le_refl _, .nil⟩, fun i H' h => e1.trans h.1, ?_, ?_⟩))
    · rintro i x H' hx ⟨e, us, hL', ul, tus⟩
      obtain ⟨δ, hδ, hT⟩ := tra.get hx
      obtain ⟨r, hr', rfl⟩ := map_at hδ
      obtain ⟨b, w1, w2, rfl, s3, u1, u2⟩ := Td.inv2 hT
      rw [u1.inv_str] at s3
      have il : i < N.roots.length := (List.getElem?_eq_some_iff.mp hr').1
      refine ⟨rfl, ?_⟩
      refine test_of (notin_of (tup_of (c_of (k_of (c_of (op_of (v_of rfl (k_of ⟨b, _, 0, _, rfl, rfl, ex_t (e1.trans e) s3, atI_nat (j := 0) rfl, n_of ⟨(show 2 ≤ sizeLine by decide), fun T2 hT2 => v_of rfl ⟨Z, _, rfl, DGet.t (k := [.inr "root", .inr r.1]) ((Ex.new hT2) _ _ (e _ _ hgone)) upd_same, _, rfl, ?_⟩⟩⟩))))))))
      rw [hgk]
      have e2 : Ex H' (upd H' T2 (.tup [.str "root", .str r.1])) := Ex.new hT2
      by_cases hm : ([Sum.inr "root", Sum.inr r.1] : List Key) ∈ gs.map Arc.link
      · rw [decide_eq_true hm, if_neg (show ¬ (!true) = true from Bool.false_ne_true)]
        refine ⟨e.trans e2, us, e2 _ _ hL', by omega, ?_⟩
        rw [take_one hr', List.filter_append, List.filter_cons_of_neg (by unfold hitR; rw [decide_eq_true hm]; exact Bool.false_ne_true), List.filter_nil, List.append_nil]
        exact tus.ex e2
      · rw [decide_eq_false hm, if_pos (show (!false) = true from rfl)]
        have kL : KeepT K (upd H' T2 (.tup [.str "root", .str r.1])) (upd (upd H' T2 (.tup [.str "root", .str r.1])) L (.lst (us ++ [.ref b]))) := .lst (e2 _ _ hL') fun a o n h => by
          rw [upd_ne n]
          exact h
        refine v_of rfl ⟨us, e2 _ _ hL', sz_lt (by omega), Ex.mut (e.trans e2) hL, us ++ [.ref b], upd_same, by rw [List.length_append, List.length_singleton]; omega, ?_⟩
        rw [take_one hr', List.filter_append, List.filter_cons_of_pos (by unfold hitR; rw [decide_eq_false hm]; rfl), List.filter_nil, List.map_append]
        exact ((tus.ex e2).keep kL).snoc ((hT.ex ((e1.trans e).trans e2)).keep kL)
    rintro H2 ⟨e2, us, hL2, ul, tus⟩
    rw [rsl, List.take_length] at tus
    have e12 := e1.trans e2
    dsimp only
    refine seq_of (asg_of (cb_of (c_of ⟨.ref p, rfl, p, C, dx, _, _, rfl, e12 _ _ hp, T.cl, T.nW, nf_rows _ _, n_of ⟨d, kvs, rfl, .inl (e12 _ _ hd), fun D2 hD2 => ?_⟩⟩)))
    have e3 : Ex H2 (upd H2 D2 (.dK kvs)) := Ex.new hD2
    have hD3 : (upd H2 D2 (.dK kvs)) D2 = some (.dK kvs) := upd_same
    have hR3 := hR.ex (e12.trans e3)
    generalize upd H2 D2 (.dK kvs) = H3 at e3 hD3 hR3 ⊢
    dsimp only
    have e13 := e12.trans e3
    have nodupR : (N.rows.map Row.n).Nodup := ok.nodup
    refine seq_of (for_of (iT_of (v_of rfl ⟨t, rfl, ⟨_, ex_t e13 hys⟩, for_tup (xs := ys) (fun i σ' Hc => ∃ y3 y7 y8 kv3, σ' = [some (.ref p), some (.ref t), some (.ref Z), y3, some (.ref L), none, some (.ref D2), y7, y8, none] ∧ Ex H2 Hc ∧ Hc D2 = some (.dK kv3) ∧ RowsAt K Hc kv3 (N.rows.map (cutRow ((gs.take i).map Arc.link))))
      ⟨none, none, none, kvs, rfl, e3, hD3, ?_⟩ (fun i σ' Hc _ ⟨_, _, _, _, _, e, _⟩ => ex_t (e12.trans e) hys) ?_ ?_⟩)))
    · have : N.rows.map (cutRow ((gs.take 0).map Arc.link)) = N.rows := by
        rw [List.take_zero, List.map_nil]
        refine (List.map_congr_left fun r _ => ?_).trans (List.map_id _)
        show cutRow [] r = r
        unfold cutRow hitP
        show Row.mk r.n r.sort (r.parts.filter fun p => true) = r
        rw [List.filter_eq_self.mpr (fun _ _ => rfl)]
      rw [this]
      exact hR3
    · rintro i x σ' Hc hx ⟨y3, y7, y8, kv3, rfl, ec, hDc, hRc⟩
      obtain ⟨g, hg1, l, rfl, hl⟩ := paired_at prs hx
      have gm := hg g (List.mem_of_getElem? hg1)
      have e1c := e12.trans ec
      have hlc := e1c _ _ hl
      have el : (gs.take (i + 1)).map Arc.link = (gs.take i).map Arc.link ++ [g.link] := by
        rw [take_one hg1, List.map_append]
        rfl
      rw [el]
      generalize (gs.take i).map Arc.link = ls at hRc ⊢
      have n1 : decide (V.str "slot" = V.str "root") = false := by decide +kernel
      have n2 : decide (V.str "entry" = V.str "root") = false := by decide +kernel
      have casesG : (∃ r, g.link = [.inr "root", .inr r]) ∨ ∃ (wd : Str) (r : Row) (k : Int), g.link = [.inr wd, .inl r.n, .inl k] ∧ decide (V.str wd = V.str "root") = false ∧ r ∈ N.rows ∧ (r.sort = "record" ∨ r.sort = "map") := by
        rcases arc_cases gm with ⟨r, _, rfl⟩ | ⟨r, hr1, hs, z, _, rfl⟩ | ⟨r, hr1, hs, z, _, rfl⟩
        · exact .inl ⟨_, rfl⟩
        · exact .inr ⟨"slot", r, z.1, rfl, n1, hr1, .inl hs⟩
        · exact .inr ⟨"entry", r, z.1, rfl, n2, hr1, .inr hs⟩
      dsimp only [gName]
      rcases casesG with ⟨r, eg⟩ | ⟨wd, r, k, eg, nw, hr1, hso⟩
      · rw [eg] at hlc ⊢
        refine ifS_of (test_of (op_of (op_of (v_of rfl (k_of ⟨l, _, 0, _, rfl, rfl, st_of hlc, atI_nat (j := 0) rfl, k_of ⟨rfl, _, rfl, ?_⟩⟩)))))
        rw [show decide (kV (.inr "root") = V.str "root") = true from decide_eq_true rfl, if_neg (show ¬ (!true) = true from Bool.false_ne_true)]
        refine ⟨_, _, _, kv3, rfl, ec, hDc, ?_⟩
        rw [show N.rows.map (cutRow (ls ++ [[.inr "root", .inr r]])) = N.rows.map (cutRow ls) from List.map_congr_left fun y _ => cut_snoc_other fun p => rfl]
        exact hRc
      · rw [eg] at hlc ⊢
        refine ifS_of (test_of (op_of (op_of (v_of rfl (k_of ⟨l, _, 0, _, rfl, rfl, st_of hlc, atI_nat (j := 0) rfl, k_of ⟨rfl, _, rfl, ?_⟩⟩)))))
        rw [show decide (kV (.inr wd) = V.str "root") = false from nw, if_pos (show (!false) = true from rfl)]
        obtain ⟨v, hv, tr, pa, ps, rfl, st, hpa, tps⟩ := hRc.2 (cutRow ls r) (List.mem_map_of_mem hr1)
        have dg := DGet.k (k := Sum.inl r.n) hDc
        rw [show valV kv3 (Sum.inl r.n) = some (V.ref tr) from hv] at dg
        refine seq_of (asgG_of (dget_of (v_of rfl (op_of (v_of rfl (k_of ⟨l, _, 1, _, rfl, rfl, st_of hlc, atI_nat (j := 1) rfl, D2, .ref tr, rfl, dg, tr, _, rfl, st, rfl, .str r.sort, _, rfl, .ref pa, _, rfl, rfl, ?_⟩))))))
        dsimp only [gName]
        obtain ⟨qs, eqs⟩ : ∃ qs : List (Int × Int), (cutRow ls r).parts = qs.map fun p => .pair p.1 (some p.2) := by
          rcases cut_ok (ls := ls) (ok.rows r hr1) with ⟨_, h⟩ | ⟨_, h⟩ | h
          · exact h
          · exact h
          · rcases hso with q | q
            · rw [show r.sort = "weak" from h] at q
              exact absurd q (by decide +kernel)
            · rw [show r.sort = "weak" from h] at q
              exact absurd q (by decide +kernel)
        have psl := tps.len
        rw [List.length_map] at psl
        have pl : (cutRow ls r).parts.length ≤ 1000 := by
          have h1 : (cutRow ls r).parts.length ≤ r.parts.length := List.length_filter_le _ _
          have h2 : r.parts.length = (rowArcs r).length := by
            unfold rowArcs
            rcases ok.rows r hr1 with ⟨a, q, e⟩ | ⟨a, q, e⟩ | a
            · rw [if_pos a, pairs_of e, e, List.length_map, List.length_map]
            · rw [if_neg (by rw [a]; decide +kernel), if_pos a, pairs_of e, e, List.length_map, List.length_map]
            · rcases hso with q | q <;> (rw [a] at q; exact absurd q (by decide +kernel))
          have h3 := (rows_sub hr1).length_le
          have := ok.many
          omega
        refine put_of (tup_of (c_of (v_of rfl (c_of (lc_seqA hpa (Ex.refl Hc) (fun Q h => ⟨_, rfl, h⟩) fun L2 hL2 => ⟨fun j H' => Ex Hc H' ∧ ∃ us, H' L2 = some (.lst us) ∧ us.length ≤ j ∧ TdAll K H' us ((((cutRow ls r).parts.take j).filter fun p => !hitL r.n p [.inr wd, .inl r.n, .inl k]).map dPart), ⟨Ex.new hL2, [], upd_same, Nat.le_refl _, .nil⟩, fun j H' h => h.1, ?_, ?_⟩)))))
        · rintro j x H' hx ⟨e, us2, hL', ul2, tus2⟩
          obtain ⟨δ, hδ, hT⟩ := tps.get hx
          obtain ⟨pt, hpt, rfl⟩ := map_at hδ
          have hpt2 := hpt
          rw [eqs] at hpt2
          obtain ⟨z, hz, rfl⟩ := map_at hpt2
          obtain ⟨b, w1, w2, rfl, s3, u1, u2⟩ := Td.inv2 hT
          rw [u1.inv_int] at s3
          have jl : j < (cutRow ls r).parts.length := (List.getElem?_eq_some_iff.mp hpt).1
          refine ⟨rfl, ?_⟩
          refine test_of (op_of (op_of (v_of rfl (k_of ⟨b, _, 0, _, rfl, rfl, ex_t e s3, atI_nat (j := 0) rfl, op_of (v_of rfl (k_of ⟨l, _, 2, _, rfl, rfl, st_of (e _ _ hlc), atI_nat (j := 2) rfl, rfl, _, rfl, ?_⟩))⟩))))
          have hh : hitL r.n (Part.pair z.1 (some z.2)) [.inr wd, .inl r.n, .inl k] = decide (z.1 = k) := by
            show (decide (r.n = r.n) && decide (some z.1 = some k)) = _
            rw [decide_eq_true rfl, Bool.true_and]
            exact decide_eq_decide.mpr ⟨fun h => Option.some.inj h, fun h => by rw [h]⟩
          by_cases zk : z.1 = k
          · rw [show decide (V.int z.1 = kV (Sum.inl k)) = true from decide_eq_true (by rw [zk]; rfl), if_neg (show ¬ (!true) = true from Bool.false_ne_true)]
            refine ⟨e, us2, hL', by omega, ?_⟩
            rw [take_one hpt, List.filter_append, List.filter_cons_of_neg (by rw [hh, decide_eq_true zk]; exact Bool.false_ne_true), List.filter_nil, List.append_nil]
            exact tus2
          · rw [show decide (V.int z.1 = kV (Sum.inl k)) = false from decide_eq_false (fun q => zk (V.int.inj q)), if_pos (show (!false) = true from rfl)]
            have kL : KeepT K H' (upd H' L2 (.lst (us2 ++ [.ref b]))) := .lst hL' fun a o n h => by
              rw [upd_ne n]
              exact h
            refine v_of rfl ⟨us2, hL', sz_lt (by omega), Ex.mut e hL2, us2 ++ [.ref b], upd_same, by rw [List.length_append, List.length_singleton]; omega, ?_⟩
            rw [take_one hpt, List.filter_append, List.filter_cons_of_pos (by rw [hh, decide_eq_false zk]; rfl), List.filter_nil, List.map_append]
            exact (tus2.keep kL).snoc ((hT.ex e).keep kL)
        rintro H5 ⟨e5, us2, hL5, ul2, tus2⟩
        rw [psl, List.take_length, ← cut_snoc_this] at tus2
        refine n_of ⟨(show 2 ≤ sizeLine by decide), fun T3 hT3 => ?_⟩
        have e6 : Ex H5 (upd H5 T3 (.tup [.str r.sort, .ref L2])) := Ex.new hT3
        have hT6 : (upd H5 T3 (.tup [.str r.sort, .ref L2])) T3 = some (.tup [.str r.sort, .ref L2]) := upd_same
        generalize upd H5 T3 (.tup [.str r.sort, .ref L2]) = H6 at e6 hT6 ⊢
        have ec6 := e5.trans e6
        have hD6 := ec6 _ _ hDc
        have kl : kv3.length ≤ 1000 := by
          have := congrArg List.length hRc.1
          rw [List.length_map, List.length_map, List.length_map] at this
          have := ok.len
          omega
        refine v_of rfl (op_of (v_of rfl (k_of ⟨l, _, 1, _, rfl, rfl, st_of (ec6 _ _ hlc), atI_nat (j := 1) rfl, D2, _, rfl, DPut.k (k := Sum.inl r.n) hD6 (sz_lt (by omega)), _, _, _, _, rfl, Ex.mut (ec.trans ec6) hD2, upd_same, ?_⟩)))
        have hrow : RowAt K H6 (.ref T3) (cutRow (ls ++ [[.inr wd, .inl r.n, .inl k]]) r) := ⟨T3, L2, us2, rfl, st_of hT6, .inl (sq_of (e6 _ _ hL5)), tus2.ex e6⟩
        have := RowsAt.set (H' := upd H6 D2 (.dK (putK kv3 (.inl r.n) (.ref T3)))) (hRc.ex ec6) hD6 (fun a o n h => by rw [upd_ne n]; exact h) (List.mem_map_of_mem (f := cutRow ls) hr1) (r' := cutRow (ls ++ [[.inr wd, .inl r.n, .inl k]]) r) rfl hrow
        rw [List.map_map] at this
        rw [show N.rows.map (cutRow (ls ++ [[.inr wd, .inl r.n, .inl k]])) = N.rows.map ((fun x => if x.n = (cutRow ls r).n then cutRow (ls ++ [[.inr wd, .inl r.n, .inl k]]) r else x) ∘ cutRow ls) from List.map_congr_left fun y hy => ?_]
        · exact this
        · show _ = if y.n = r.n then _ else cutRow ls y
          by_cases yn : y.n = r.n
          · rw [if_pos yn, row_uniq nodupR hy hr1 yn]
          · rw [if_neg yn]
            refine cut_snoc_other fun p => ?_
            show (decide (r.n = y.n) && _) = false
            rw [decide_eq_false (fun q => yn q.symm), Bool.false_and]
    · rintro σ' Hc ⟨y3, y7, y8, kv3, rfl, ec, hDc, hRc⟩
      rw [yl, List.take_length] at hRc
      dsimp only
      refine ret_of (make_of (c_of (v_of rfl (c_of (v_of rfl (n_of ?_))))))
      intro p' dx' hp' hdx ndp
      have hp2 : (upd Hc dx' (.own p')) p' = none := by
        rw [upd_ne ndp.symm]
        exact hp'
      have x0 : Ex Hc (upd (upd Hc dx' (.own p')) p' (.ins C dx' [])) := (Ex.new hdx).trans (Ex.new hp2)
      refine ⟨p', dx', .ref L, .ref D2, rfl, upd_same, fun H' ke hpn => ⟨rfl, ?_⟩⟩
      have x1 : Ex Hc H' := fun a o h => ke a o (ne_of_none h hp') (x0 a o h)
      exact q H' p' ((e12.trans ec).trans x1) ⟨dx', L, us, D2, kv3, hpn, .inl (sq_of ((ec.trans x1) _ _ hL2)), tus.ex (ec.trans x1), x1 _ _ hDc, hRc.ex x1⟩
end
end Sn
namespace Sn
open PySem PySem.Spec PyProof.Rows L2 Evl Gd
abbrev sMet : Stmt := inClass (topS 11) 1
abbrev nMet : List Str := ["self", "barred", "found", "waiting", "ahead", "number", "sort", "parts", "key", "other", "_"]
theorem scMet : FnScope nMet ["self", "barred"] (defScope sMet) := ⟨rfl, rfl, rfl, by decide +kernel, rfl, by decide +kernel, by decide +kernel⟩
/-- the dict of what waits: for each number the places, in a list of its own -/
def WaitAt (S : Addr → Prop) (H : Hp) (d : Addr) (W : Int → List Int) (b : Nat) : Prop := ∃ kvs : List (Key × V), H d = some (.dK kvs) ∧ S d ∧ kvs.length ≤ b ∧
  (∀ n, (valV kvs (.inl n) = none ∧ W n = []) ∨ ∃ q, valV kvs (.inl n) = some (.ref q) ∧ S q ∧ H q = some (.lst ((W n).map V.int))) ∧
  (∀ n m q, valV kvs (.inl n) = some (.ref q) → valV kvs (.inl m) = some (.ref q) → n = m)
theorem WaitAt.frame {S : Addr → Prop} {H H' : Hp} {d : Addr} {W : Int → List Int} {b : Nat} (h : WaitAt S H d W b) (k : ∀ a o, S a → H a = some o → H' a = some o) : WaitAt S H' d W b := by
  obtain ⟨kvs, h1, h2, h3, h4, h5⟩ := h
  refine ⟨kvs, k _ _ h2 h1, h2, h3, fun n => ?_, h5⟩
  rcases h4 n with h | ⟨q, e1, e2, e3⟩
  · exact .inl h
  · exact .inr ⟨q, e1, e2, k _ _ e2 e3⟩
theorem wOf_map (ps : List (Int × Int)) (n m i : Int) : ((wOf (ps ++ [(n, i)]) m).map V.int) = ((wOf ps m).map V.int) ++ (if n = m then [V.int i] else []) := by
  rw [wOf_snoc, List.map_append]
  by_cases h : n = m
  · rw [if_pos h, if_pos h]
    rfl
  · rw [if_neg h, if_neg h]
    rfl
/-- a place more in a list that is there -/
theorem WaitAt.old {S : Addr → Prop} {H H' : Hp} {d q : Addr} {ps : List (Int × Int)} {b : Nat} {i n : Int} {kvs : List (Key × V)} (h : WaitAt S H d (wOf ps) b) (hd : H d = some (.dK kvs)) (hv : valV kvs (.inl n) = some (.ref q))
    (k : ∀ a o, S a → a ≠ q → H a = some o → H' a = some o) (hq : H' q = some (.lst (((wOf ps n).map V.int) ++ [V.int i]))) : WaitAt S H' d (wOf (ps ++ [(n, i)])) (b + 1) := by
  obtain ⟨kvs', h1, h2, h3, h4, h5⟩ := h
  rw [hd] at h1
  cases h1
  have qd : d ≠ q := fun e => by
    rcases h4 n with ⟨z, _⟩ | ⟨q', e1, e2, e3⟩
    · rw [hv] at z
      cases z
    · rw [hv] at e1
      cases e1
      rw [← e, hd] at e3
      cases e3
  refine ⟨kvs, k _ _ h2 qd hd, h2, by omega, fun m => ?_, h5⟩
  by_cases e : n = m
  · subst e
    refine .inr ⟨q, hv, ?_, ?_⟩
    · rcases h4 n with ⟨z, _⟩ | ⟨q', e1, e2, e3⟩
      · rw [hv] at z
        cases z
      · rw [hv] at e1
        cases e1
        exact e2
    · rw [wOf_map, if_pos rfl]
      exact hq
  · rcases h4 m with ⟨z1, z2⟩ | ⟨q', e1, e2, e3⟩
    · refine .inl ⟨z1, ?_⟩
      rw [wOf_snoc, if_neg e, z2]
      rfl
    · have nq : q' ≠ q := fun z => by
        subst z
        exact e (h5 n m q' hv e1)
      refine .inr ⟨q', e1, e2, ?_⟩
      rw [wOf_map, if_neg e, List.append_nil]
      exact k _ _ e2 nq e3
/-- a number more -/
theorem WaitAt.new {S : Addr → Prop} {H H' : Hp} {d z : Addr} {ps : List (Int × Int)} {b : Nat} {i n : Int} {kvs : List (Key × V)} (h : WaitAt S H d (wOf ps) b) (hd : H d = some (.dK kvs)) (hv : valV kvs (.inl n) = none) (hz : H z = none) (sz : S z)
    (k : ∀ a o, S a → a ≠ d → H a = some o → H' a = some o) (h1 : H' d = some (.dK (putK kvs (.inl n) (.ref z)))) (h2 : H' z = some (.lst [V.int i])) : WaitAt S H' d (wOf (ps ++ [(n, i)])) (b + 1) := by
  obtain ⟨kvs', h1', h2', h3, h4, h5⟩ := h
  rw [hd] at h1'
  cases h1'
  have wn : wOf ps n = [] := by
    rcases h4 n with ⟨_, e⟩ | ⟨q, e1, _⟩
    · exact e
    · rw [hv] at e1
      cases e1
  refine ⟨_, h1, h2', by have := length_putK kvs (.inl n) (.ref z); omega, fun m => ?_, fun a c q ha hc => ?_⟩
  · rw [valV_put]
    by_cases e : n = m
    · subst e
      rw [if_pos rfl]
      refine .inr ⟨z, rfl, sz, ?_⟩
      rw [wOf_map, if_pos rfl, wn]
      exact h2
    · rw [if_neg (fun x => e (Sum.inl.inj x).symm)]
      rcases h4 m with ⟨z1, z2⟩ | ⟨q', e1, e2, e3⟩
      · refine .inl ⟨z1, ?_⟩
        rw [wOf_snoc, if_neg e, z2]
        rfl
      · refine .inr ⟨q', e1, e2, ?_⟩
        rw [wOf_map, if_neg e, List.append_nil]
        exact k _ _ e2 (ne_of e3 hd (fun x => nomatch x)) e3
  · have key : ∀ x : Int, valV (putK kvs (.inl n) (.ref z)) (.inl x) = some (.ref q) → (x = n ∧ q = z) ∨ (x ≠ n ∧ q ≠ z ∧ valV kvs (.inl x) = some (.ref q)) := by
      intro x hx
      rw [valV_put] at hx
      by_cases e : x = n
      · rw [if_pos (by rw [e])] at hx
        cases hx
        exact .inl ⟨e, rfl⟩
      · rw [if_neg (fun y => e (Sum.inl.inj y))] at hx
        refine .inr ⟨e, fun y => ?_, hx⟩
        subst y
        rcases h4 x with ⟨z1, _⟩ | ⟨q', e1, e2, e3⟩
        · rw [hx] at z1
          cases z1
        · rw [hx] at e1
          cases e1
          rw [hz] at e3
          cases e3
    rcases key a ha with ⟨a1, a2⟩ | ⟨a1, a2, a3⟩
    · rcases key c hc with ⟨c1, c2⟩ | ⟨c1, c2, c3⟩
      · rw [a1, c1]
      · exact absurd a2 c2
    · rcases key c hc with ⟨c1, c2⟩ | ⟨c1, c2, c3⟩
      · exact absurd c2 a2
      · exact h5 a c q a3 c3
/-- what met has made so far: found at F, waiting at W, ahead at A -/
structure Sm (H H' : Hp) (F W A : Addr) (met ys : List Int) (ps : List (Int × Int)) : Prop where
  ex : Ex H H'
  f : H' F = some (.dK (kTrue met))
  a : H' A = some (.lst (ys.map V.int))
  w : WaitAt (fun q => H q = none ∧ q ≠ F ∧ q ≠ A) H' W (wOf ps) ps.length
  hF : H F = none
  hA : H A = none
  ne : F ≠ A
theorem Sm.ext {H H' H2 : Hp} {F W A : Addr} {met ys : List Int} {ps : List (Int × Int)} (h : Sm H H' F W A met ys ps) (e : Ex H' H2) : Sm H H2 F W A met ys ps :=
  ⟨h.ex.trans e, e _ _ h.f, e _ _ h.a, h.w.frame fun a o _ q => e a o q, h.hF, h.hA, h.ne⟩
theorem Sm.setA {H H' : Hp} {F W A : Addr} {met ys : List Int} {ps : List (Int × Int)} (h : Sm H H' F W A met ys ps) (zs : List Int) : Sm H (upd H' A (.lst (zs.map V.int))) F W A met zs ps :=
  ⟨Ex.mut h.ex h.hA, by rw [upd_ne h.ne]; exact h.f, upd_same, h.w.frame fun a o s q => by rw [upd_ne s.2.2]; exact q, h.hF, h.hA, h.ne⟩
theorem Sm.setF {H H' : Hp} {F W A : Addr} {met ys : List Int} {ps : List (Int × Int)} (h : Sm H H' F W A met ys ps) (ms : List Int) : Sm H (upd H' F (.dK (kTrue ms))) F W A ms ys ps :=
  ⟨Ex.mut h.ex h.hF, upd_same, by rw [upd_ne h.ne.symm]; exact h.a, h.w.frame fun a o s q => by rw [upd_ne s.2.1]; exact q, h.hF, h.hA, h.ne⟩
def spMet (K : PySem.W.Frag) (C : Addr) : Sp := fun vs H Q _ => ∃ (p b : Addr) (N : NetM) (bs : List (Key × V)) (B : List Int), vs = [.ref p, .ref b] ∧ NetAt K C H p N ∧ OkNet N ∧ H b = some (.dK bs) ∧ (∀ n, (valV bs (.inl n)).isSome = decide (n ∈ B)) ∧
  ∀ (H' : Hp) (q : Addr) (met : List Int), Ex H H' → H q = none → H' q = some (.dK (kTrue met)) → met.Nodup → (∀ n, n ∈ met ↔ Live ((netArcs N).filter fun α => decide (α.tgt ∉ B)) n) → met.length ≤ 1000 → Q (.ref q) H'
section
variable {P : Program} {w : World} {K : PySem.W.Frag} {mg : Str → Option Value} {base : Heap}
theorem ok_met {f C : Addr} {fd : FuncData} (F : Fun K "met" "Net.met" sMet f fd) (T : Txt K mg C) (mL : mg "len" = none) : FnOk P w K mg base CX0 1 f fd ["self", "barred"] (spMet K C) := by
  refine F.ok scMet (fun vs H Q E h => ?_) (fun cdv A outer s H vs Q E hr h => ?_)
  · obtain ⟨p, b, N, bs, B, rfl, _⟩ := h
    rfl
  · obtain ⟨p, b, N, bs, B, rfl, hN, ok, hb, hB, q⟩ := h
    have hu := hu_of hr
    refine ⟨_, pss_cons (ps_set (i := 2) scMet.nd rfl (.inl rfl) pe_dnewK) <|
      pss_cons (ps_set (i := 3) scMet.nd rfl (.inl rfl) pe_dnewK) <|
      pss_cons (ps_setLc (i := 4) (own := [("_", 10), ("number", 5)]) (g := gTup K 2 (gCons (gName 10) (gCons (gName 5) gNil))) (tt := tYes) (te := tVar 5) rfl scMet.nd rfl rfl (sw_true rfl rfl rfl (by decide +kernel)) (pi_seq (pe_fld (pv 0) rfl)) (blkOk_by (N := nMet) (sc := defScope sMet) (by decide +kernel))
          (fun _ _ _ _ _ => pg_tup rfl (pgs_cons (pg_name (i := 10) scMet.nd rfl (.inl rfl)) (pgs_cons (pg_name (i := 5) scMet.nd rfl (.inl rfl)) pgs_nil))) (fun _ _ _ _ _ => pts_nil) (fun _ _ _ _ _ => pv 5)) <|
      pss_cons (ps_while PassesOwn.never (pt_cmpR op_gt (pe_callB call_len_seq (by rfl) mL PySem.boot_len (pa_cons (pv 4) pa_nil)) pe_int (nomark _)) <|
        pss_cons (ps_set (i := 5) scMet.nd rfl (.inl rfl) (pe_bm0 PySem.F.plainAttrs_list PySem.F.slot_list_pop PySem.F.type_list_pop mt_pop (pv 4))) <|
        pss_cons (ps_if (pw_or (pt_cmp (pc_din hu (pv 5) (pv 2))) (pw_or1 (pt_cmp (pc_din hu (pv 5) (pv 1))))).pt (pss_one ps_continue) pss_nil) <|
        pss_cons (ps_dput hu (pv 2) (pv 5) pe_bl rfl) <|
        pss_cons (ps_asg (pe_dget hu (pe_fld (pv 0) rfl) (pv 5) (fun _ _ => rfl)) (pg_tup (n := 2) rfl (pgs_cons (pg_name (i := 6) scMet.nd rfl (.inl rfl)) (pgs_cons (pg_name (i := 7) scMet.nd rfl (.inl rfl)) pgs_nil)))) <|
        pss_cons (ps_if (pt_cmpR op_eq (pv 6) pe_str (nomark _))
          (pss_one (ps_expr (pe_bm PySem.F.plainAttrs_list PySem.F.slot_list_extend PySem.F.type_list_extend mt_extend (pv 4) (pa_cons (pe_lc (own := [("_", 10), ("other", 9)]) (g := gTup K 2 (gCons (gName 10) (gCons (gName 9) gNil))) (tt := tYes) (te := tVar 9) rfl scMet.nd (pi_seq (pv 7)) (blkOk_by (N := nMet) (sc := defScope sMet) (by decide +kernel))
            (fun _ _ _ _ _ => pg_tup rfl (pgs_cons (pg_name (i := 10) scMet.nd rfl (.inl rfl)) (pgs_cons (pg_name (i := 9) scMet.nd rfl (.inl rfl)) pgs_nil))) (fun _ _ _ _ _ => pts_nil) (fun _ _ _ _ _ => pv 9)) pa_nil))))
          (pss_one (ps_if (pt_cmpR op_eq (pv 6) pe_str (nomark _))
            (pss_one (ps_for PassesOwn.never rfl (pi_seq (pv 7)) (pg_tup (n := 2) rfl (pgs_cons (pg_name (i := 8) scMet.nd rfl (.inl rfl)) (pgs_cons (pg_name (i := 9) scMet.nd rfl (.inl rfl)) pgs_nil)))
              (pss_one (ps_if (pt_cmp (pc_din hu (pv 8) (pv 2)))
                (pss_one (ps_expr (pe_bm PySem.F.plainAttrs_list PySem.F.slot_list_append PySem.F.type_list_append mt_append (pv 4) (pa_cons (pv 9) pa_nil))))
                (pss_one (ps_expr (pe_bm PySem.F.plainAttrs_list PySem.F.slot_list_append PySem.F.type_list_append mt_append (pe_dsetd (pv 3) (pv 8) (pe_lst pa_nil) ⟨rfl, rfl, rfl, rfl⟩) (pa_cons (pv 9) pa_nil))))))))
            pss_nil))) <|
        pss_one (ps_if (pt_cmp (pc_din hu (pv 5) (pv 3))) (pss_one (ps_expr (pe_bm PySem.F.plainAttrs_list PySem.F.slot_list_extend PySem.F.type_list_extend mt_extend (pv 4) (pa_cons (pe_dget hu (pv 3) (pv 5) (fun _ _ => rfl)) pa_nil)))) pss_nil)) <|
      pss_one (ps_ret (pv 2)), ?_⟩
    obtain ⟨dx, ra, rs, d, kvs, hp, hra, tra, hd, hR⟩ := id hN
    refine seq_of (asg_of (newK_of fun F hF => ?_))
    have e1 : Ex H (upd H F (.dK [])) := Ex.new hF
    have f1 : (upd H F (.dK [])) F = some (.dK []) := upd_same
    generalize upd H F (.dK []) = H1 at e1 f1 ⊢
    dsimp only
    refine seq_of (asg_of (newK_of fun W hW => ?_))
    have e2 : Ex H1 (upd H1 W (.dK [])) := Ex.new hW
    have w2 : (upd H1 W (.dK [])) W = some (.dK []) := upd_same
    generalize upd H1 W (.dK []) = H2 at e2 w2 ⊢
    have e12 := e1.trans e2
    dsimp only
    refine seq_of (asg_of (lc_seqA (K := K) (H0 := H) (a := ra) (xs := rs) hra e12 (fun Q h => ⟨.ref p, rfl, p, C, dx, _, _, rfl, e12 _ _ hp, T.cl, T.nR, nf_roots _ _, h⟩) fun A hA =>
      ⟨fun i H' => Ex H2 H' ∧ H' A = some (.lst (((N.roots.take i).map (·.2)).map V.int)), ⟨Ex.new hA, upd_same⟩, fun i H' h => e12.trans h.1, ?_, ?_⟩))
    · rintro i x H' hx ⟨e3, h3⟩
      obtain ⟨δ, hδ, hT⟩ := tra.get hx
      obtain ⟨r, hr1, rfl⟩ := map_at hδ
      obtain ⟨t, y, z, rfl, s1, s2, s3⟩ := Td.inv2 hT
      rw [s2.inv_str, s3.inv_int] at s1
      have rl : N.roots.length ≤ 1000 := by
        have := ok.many
        unfold netArcs at this
        rw [List.length_append, List.length_map] at this
        omega
      refine ⟨t, _, rfl, ex_t (e12.trans e3) s1, rfl, .str r.1, _, rfl, .int r.2, _, rfl, rfl, rfl, ?_⟩
      dsimp only [tYes]
      rw [if_pos rfl]
      refine v_of rfl ⟨_, h3, sz_lt (by rw [List.length_map, List.length_map, List.length_take]; omega), Ex.mut e3 hA, ?_⟩
      rw [upd_same, take_one hr1, List.map_append, List.map_append]
      rfl
    · rintro H3 ⟨e3, h3⟩
      have lrs := tra.len
      rw [List.length_map] at lrs
      rw [lrs, List.take_length] at h3
      have hF0 := hF
      have hW0 : H W = none := fresh_back e1 hW
      have hA0 : H A = none := fresh_back e12 hA
      have nFW : F ≠ W := ne_of_none f1 hW
      have nFA : F ≠ A := ne_of_none (e2 _ _ f1) hA
      have nWA : W ≠ A := ne_of_none w2 hA
      obtain ⟨m0, inv0⟩ := WlInv.start (B := B) ok
      have w0 : Sm H H3 F W A [] (N.roots.map (·.2)) [] := ⟨e12.trans e3, e3 _ _ (e2 _ _ f1), h3, ⟨[], e3 _ _ w2, ⟨hW0, nFW.symm, nWA⟩, Nat.le_refl _, fun n => .inl ⟨rfl, rfl⟩, fun n m q h => nomatch h⟩, hF0, hA0, nFA⟩
      dsimp only
      refine seq_of ⟨fun m σ' H' => ∃ y5 y6 y7 y8 y9 met ys ps, σ' = [some (.ref p), some (.ref b), some (.ref F), some (.ref W), some (.ref A), y5, y6, y7, y8, y9, none] ∧ Sm H H' F W A met ys ps ∧ WlInv N B met ys ps m, ⟨m0, _, _, _, _, _, _, _, _, rfl, w0, inv0⟩, ?_⟩
      rintro m σ' H' ⟨y5, y6, y7, y8, y9, met, ys, ps, rfl, h, inv⟩
      refine ⟨.ref A, rfl, A, _, rfl, .inl (sq_of h.a), _, _, rfl, rfl, _, rfl, ?_⟩
      by_cases nb : ys = []
      · subst nb
        dsimp only
        rw [show decide (((([] : List Int).map V.int).length : Nat) > (0 : Int)) = false from rfl, if_neg Bool.false_ne_true]
        have ml : met.length ≤ 1000 := by
          have := inv.many
          omega
        exact ret_of (v_of rfl (q H' F met h.ex hF0 h.f inv.nodup inv.done ml))
      · obtain ⟨zs, n, rfl⟩ := snoc_of nb
        have ed : decide (((((zs ++ [n]).map V.int).length : Nat) : Int) > 0) = true := decide_eq_true (by rw [List.length_map, List.length_append, List.length_singleton]; omega)
        dsimp only
        rw [ed, if_pos rfl]
        refine ⟨fun σ2 H2 => ∃ m', m' < m ∧ ∃ y5 y6 y7 y8 y9 met ys ps, σ2 = [some (.ref p), some (.ref b), some (.ref F), some (.ref W), some (.ref A), y5, y6, y7, y8, y9, none] ∧ Sm H H2 F W A met ys ps ∧ WlInv N B met ys ps m', fun σ2 H2 hN => hN, ?_⟩
        have hlast : ((zs ++ [n]).map V.int)[((zs ++ [n]).map V.int).length - 1]? = some (.int n) := by
          rw [List.map_append, List.length_append, List.length_map]
          show (zs.map V.int ++ [V.int n])[zs.length + 1 - 1]? = _
          rw [Nat.add_sub_cancel, List.getElem?_append_right (by rw [List.length_map]; exact Nat.le_refl _), List.length_map, Nat.sub_self]
          rfl
        refine seq_of (asg_of ⟨.ref A, rfl, .inl ⟨rfl, _, sq_of h.a⟩, A, _, .int n, rfl, rfl, h.a, hlast, ?_⟩)
        have edl : ((zs ++ [n]).map V.int).dropLast = zs.map V.int := by
          rw [List.map_append]
          exact List.dropLast_concat
        rw [edl]
        have h4 := h.setA zs
        generalize upd H' A (.lst (zs.map V.int)) = H4 at h4 ⊢
        dsimp only
        have mle := inv.le
        refine seq_of (ifS_of (or_of (test_of (din_of (v_of rfl (v_of rfl ⟨F, _, rfl, DGet.k (k := Sum.inl n) h4.f, _, rfl, ?_⟩))))))
        rw [val_kTrue]
        by_cases hm : n ∈ met
        · obtain ⟨m', l, i'⟩ := inv.skip (.inl hm)
          rw [decide_eq_true hm, if_pos rfl, if_pos rfl]
          exact ⟨m', l, _, _, _, _, _, met, zs, ps, rfl, h4, i'⟩
        · rw [decide_eq_false hm, if_neg Bool.false_ne_true]
          refine test_of (din_of (v_of rfl (v_of rfl ⟨b, _, rfl, DGet.k (k := Sum.inl n) (h4.ex _ _ hb), _, rfl, ?_⟩)))
          rw [hB]
          by_cases hnB : n ∈ B
          · obtain ⟨m', l, i'⟩ := inv.skip (.inr hnB)
            rw [decide_eq_true hnB, if_pos rfl]
            exact ⟨m', l, _, _, _, _, _, met, zs, ps, rfl, h4, i'⟩
          · rw [decide_eq_false hnB, if_neg Bool.false_ne_true]
            dsimp only
            obtain ⟨α, hα, rfl, _⟩ := inv.can n (List.mem_append.mpr (.inr List.mem_cons_self))
            obtain ⟨r, hr1, er⟩ := List.mem_map.mp (ok.there α hα)
            rw [← er] at hm hnB inv ⊢
            obtain ⟨m', l, i'⟩ := inv.step ok hr1 hm hnB
            have mlen : met.length ≤ 1000 := by
              have := inv.many
              omega
            refine seq_of (put_of (k_of (v_of rfl (v_of rfl ⟨F, _, rfl, DPut.k (k := Sum.inl r.n) h4.f (sz_lt (by rw [List.length_map]; omega)), ?_⟩))))
            rw [put_kTrue hm]
            have h5 := h4.setF (met ++ [r.n])
            generalize upd H4 F (.dK (kTrue (met ++ [r.n]))) = H5 at h5 ⊢
            obtain ⟨v, hv, t, pa, xs, rfl, s1, s2, s3⟩ := hR.2 r hr1
            dsimp only
            refine seq_of (asgG_of (dget_of ⟨.ref p, rfl, p, C, dx, _, _, rfl, h5.ex _ _ hp, T.cl, T.nW, nf_rows _ _, v_of rfl ⟨d, .ref t, rfl, (by rw [← hv]; exact DGet.k (k := Sum.inl r.n) (h5.ex _ _ hd)), ?_⟩⟩))
            refine ⟨t, _, rfl, ex_t h5.ex s1, rfl, .str r.sort, _, rfl, .ref pa, _, rfl, rfl, ?_⟩
            dsimp only [gName]
            have me' := i'.me
            have le' := i'.le
            have pl' := i'.pl
            rw [List.length_append, List.length_append] at me'
            rw [List.length_append] at pl'
            have aw := adds_waits r (met ++ [r.n])
            refine seq_join (fun σ' Hd => ∃ y8 y9, σ' = [some (.ref p), some (.ref b), some (.ref F), some (.ref W), some (.ref A), some (.int r.n), some (.str r.sort), some (.ref pa), y8, y9, none] ∧ Sm H Hd F W A (met ++ [r.n]) (zs ++ adds r (met ++ [r.n])) (ps ++ waits r (met ++ [r.n]))) (fun tail => seq_of ?_) ?_
            · rcases ok.rows r hr1 with ⟨srt, prs, epr⟩ | ⟨srt, prs, epr⟩ | srt
              · have ea : adds r (met ++ [r.n]) = prs.map (·.2) := by
                  unfold adds
                  rw [if_pos srt, pairs_of epr]
                have ew : waits r (met ++ [r.n]) = [] := by
                  unfold waits
                  rw [if_neg (by rw [srt]; decide +kernel)]
                rw [ea, List.length_map] at me'
                rw [ea, ew, List.append_nil] at tail
                rw [epr, List.map_map] at s3
                rw [srt] at tail ⊢
                refine ⟨_, rfl, rfl, _, rfl, ?_⟩
                dsimp only
                rw [decide_eq_true rfl, if_pos rfl]
                refine ⟨.ref A, rfl, .inl ⟨rfl, _, sq_of h5.a⟩, c_of (lc_seqA (K := K) (H0 := H) (a := pa) (xs := xs) s2 h5.ex (fun Q h => ⟨_, rfl, h⟩) fun D hD =>
                  ⟨fun i H' => Ex H5 H' ∧ H' D = some (.lst (((prs.take i).map (·.2)).map V.int)), ⟨Ex.new hD, upd_same⟩, fun i H' h => h5.ex.trans h.1, ?_, ?_⟩)⟩
                · rintro i x H' hx ⟨e6, h6⟩
                  obtain ⟨δ, hδ, hT⟩ := s3.get hx
                  obtain ⟨pq, hpq, rfl⟩ := map_at hδ
                  obtain ⟨b1, w1, w2, rfl, s4, u1, u2⟩ := Td.inv2 hT
                  rw [u1.inv_int, Td.inv_int u2] at s4
                  have il : i < prs.length := (List.getElem?_eq_some_iff.mp hpq).1
                  refine ⟨b1, _, rfl, ex_t (h5.ex.trans e6) s4, rfl, .int pq.1, _, rfl, .int pq.2, _, rfl, rfl, rfl, ?_⟩
                  dsimp only [tYes]
                  rw [if_pos rfl]
                  refine v_of rfl ⟨_, h6, sz_lt (by rw [List.length_map, List.length_map, List.length_take]; omega), Ex.mut e6 hD, ?_⟩
                  rw [upd_same, take_one hpq, List.map_append, List.map_append]
                  rfl
                · rintro H6 ⟨e6, h6⟩
                  have lxs := s3.len
                  rw [List.length_map] at lxs
                  rw [lxs, List.take_length] at h6
                  have h7 := h5.ext e6
                  refine n_of ⟨A, D, _, _, rfl, rfl, h7.a, h6, ?_, tail _ _ ⟨_, _, rfl, ?_⟩⟩
                  · rw [List.length_map, List.length_map, List.length_map, sizeLine_eq]
                    omega
                  · rw [← List.map_append]
                    exact h7.setA _
              · have ea : adds r (met ++ [r.n]) = (prs.filter fun p => decide (p.1 ∈ met ++ [r.n])).map (·.2) := by
                  unfold adds
                  rw [if_neg (by rw [srt]; decide +kernel), if_pos srt, pairs_of epr]
                have ew : waits r (met ++ [r.n]) = prs.filter fun p => decide (p.1 ∉ met ++ [r.n]) := by
                  unfold waits
                  rw [if_pos srt, pairs_of epr]
                have er2 : (rowArcs r).length = prs.length := by
                  unfold rowArcs
                  rw [if_neg (by rw [srt]; decide +kernel), if_pos srt, pairs_of epr, List.length_map]
                rw [ea, ew] at tail
                rw [epr, List.map_map] at s3
                rw [srt] at tail ⊢
                refine ⟨_, rfl, rfl, _, rfl, ?_⟩
                dsimp only
                rw [decide_eq_false (by decide +kernel), if_neg Bool.false_ne_true]
                refine ⟨_, rfl, rfl, _, rfl, ?_⟩
                dsimp only
                rw [decide_eq_true rfl, if_pos rfl]
                refine for_seqA (K := K) (H0 := H) (a := pa) (xs := xs) s2 (fun j σ' Hd => ∃ y8 y9, σ' = [some (.ref p), some (.ref b), some (.ref F), some (.ref W), some (.ref A), some (.int r.n), some (.str "map"), some (.ref pa), y8, y9, none] ∧ Sm H Hd F W A (met ++ [r.n]) (zs ++ ((prs.take j).filter fun p => decide (p.1 ∈ met ++ [r.n])).map (·.2)) (ps ++ (prs.take j).filter fun p => decide (p.1 ∉ met ++ [r.n])))
                  (fun Q h => ⟨_, rfl, h⟩) ⟨_, _, rfl, by simpa using h5⟩ (fun j σ' Hd ⟨_, _, _, g⟩ => g.ex) ?_ ?_
                · rintro j x σ' Hd hx ⟨y8, y9, rfl, g⟩
                  obtain ⟨δ, hδ, hT⟩ := s3.get hx
                  obtain ⟨pq, hpq, rfl⟩ := map_at hδ
                  obtain ⟨b1, w1, w2, rfl, s4, u1, u2⟩ := Td.inv2 hT
                  rw [u1.inv_int, Td.inv_int u2] at s4
                  have jl : j < prs.length := (List.getElem?_eq_some_iff.mp hpq).1
                  have z1 := List.length_filter_le (fun p : Int × Int => decide (p.1 ∈ met ++ [r.n])) (prs.take j)
                  have z2 := List.length_filter_le (fun p : Int × Int => decide (p.1 ∉ met ++ [r.n])) (prs.take j)
                  rw [List.length_take] at z1 z2
                  refine ⟨b1, _, rfl, ex_t g.ex s4, rfl, .int pq.1, _, rfl, .int pq.2, _, rfl, rfl, ?_⟩
                  dsimp only [gName]
                  refine ifS_of (test_of (din_of (v_of rfl (v_of rfl ⟨F, _, rfl, DGet.k (k := Sum.inl pq.1) g.f, _, rfl, ?_⟩))))
                  rw [val_kTrue]
                  by_cases hk : pq.1 ∈ met ++ [r.n]
                  · rw [decide_eq_true hk, if_pos rfl]
                    refine ⟨.ref A, rfl, .inl ⟨rfl, _, sq_of g.a⟩, .int pq.2, rfl, A, _, _, rfl, rfl, g.a, sz_lt (by rw [List.length_map, List.length_append, List.length_map]; omega), _, _, rfl, ?_⟩
                    have eA : zs ++ ((prs.take (j + 1)).filter fun p => decide (p.1 ∈ met ++ [r.n])).map (·.2) = zs ++ ((prs.take j).filter fun p => decide (p.1 ∈ met ++ [r.n])).map (·.2) ++ [pq.2] := by
                      rw [take_one hpq, List.filter_append, List.filter_cons_of_pos (p := fun p : Int × Int => decide (p.1 ∈ met ++ [r.n])) (decide_eq_true hk), List.filter_nil, List.map_append, ← List.append_assoc]
                      rfl
                    have eP : (prs.take (j + 1)).filter (fun p => decide (p.1 ∉ met ++ [r.n])) = (prs.take j).filter (fun p => decide (p.1 ∉ met ++ [r.n])) := by
                      rw [take_one hpq, List.filter_append, List.filter_cons_of_neg (p := fun p : Int × Int => decide (p.1 ∉ met ++ [r.n])) (fun q => of_decide_eq_true q hk), List.filter_nil, List.append_nil]
                    rw [eA, eP]
                    have := g.setA (zs ++ ((prs.take j).filter fun p => decide (p.1 ∈ met ++ [r.n])).map (·.2) ++ [pq.2])
                    rw [List.map_append (l₂ := [pq.2])] at this
                    exact this
                  · rw [decide_eq_false hk, if_neg Bool.false_ne_true]
                    have eg : (prs.take (j + 1)).filter (fun p => decide (p.1 ∈ met ++ [r.n])) = (prs.take j).filter (fun p => decide (p.1 ∈ met ++ [r.n])) := by
                      rw [take_one hpq, List.filter_append, List.filter_cons_of_neg (by simpa using hk), List.filter_nil, List.append_nil]
                    have eg2 : (prs.take (j + 1)).filter (fun p => decide (p.1 ∉ met ++ [r.n])) = (prs.take j).filter (fun p => decide (p.1 ∉ met ++ [r.n])) ++ [(pq.1, pq.2)] := by
                      rw [take_one hpq, List.filter_append, List.filter_cons_of_pos (by simpa using hk), List.filter_nil]
                    rw [eg, eg2, ← List.append_assoc]
                    have pl2 : (ps ++ (prs.take j).filter fun p => decide (p.1 ∉ met ++ [r.n])).length ≤ 4000 := by
                      rw [List.length_append]
                      omega
                    generalize ps ++ (prs.take j).filter (fun p => decide (p.1 ∉ met ++ [r.n])) = ps2 at g pl2 ⊢
                    obtain ⟨kvs2, w1, w2, w3, w4, w5⟩ := id g.w
                    refine ⟨.ref W, rfl, W, rfl, .inl ⟨kvs2, .inl w1⟩, .int pq.1, rfl, Nat.zero_le _, fun z hz => ⟨kvs2, .inl pq.1, Ex.new hz _ _ w1, rfl, sz_lt (by omega), fun v hv => ?_, fun hv => ?_⟩⟩
                    · obtain ⟨q', e1, e2, e3⟩ : ∃ q, valV kvs2 (.inl pq.1) = some (.ref q) ∧ (H q = none ∧ q ≠ F ∧ q ≠ A) ∧ Hd q = some (.lst ((wOf ps2 pq.1).map V.int)) := by
                        rcases w4 pq.1 with ⟨z1, _⟩ | h
                        · rw [hv] at z1
                          cases z1
                        · exact h
                      rw [hv] at e1
                      cases e1
                      have g2 := g.ext (Ex.new (o := .lst []) hz)
                      have hq : (upd Hd z (.lst [])) q' = some (.lst ((wOf ps2 pq.1).map V.int)) := Ex.new hz _ _ e3
                      have hk2 : (upd Hd z (.lst [])) W = some (.dK kvs2) := Ex.new hz _ _ w1
                      generalize upd Hd z (.lst []) = Hz at g2 hq hk2 ⊢
                      have hwl := wOf_len ps2 pq.1
                      refine ⟨.inl ⟨rfl, _, sq_of hq⟩, .int pq.2, rfl, q', _, _, rfl, rfl, hq, sz_lt (by rw [List.length_map]; omega), _, _, rfl, ?_⟩
                      refine ⟨Ex.mut g2.ex e2.1, ?_, ?_, ?_, g2.hF, g2.hA, g2.ne⟩
                      · rw [upd_ne e2.2.1.symm]
                        exact g2.f
                      · rw [upd_ne e2.2.2.symm]
                        exact g2.a
                      · rw [List.length_append]
                        exact g2.w.old hk2 hv (fun a o _ nq h => by
                          rw [upd_ne nq]
                          exact h) upd_same
                    · have g2 := g.ext (Ex.new (o := .lst []) hz)
                      have nzW : z ≠ W := (ne_of_none w1 hz).symm
                      have zH : H z = none := fresh_back g.ex hz
                      have zF : z ≠ F := (ne_of_none g.f hz).symm
                      have zA : z ≠ A := (ne_of_none g.a hz).symm
                      have hz2 : (upd (upd Hd z (.lst [])) W (.dK (putK kvs2 (.inl pq.1) (.ref z)))) z = some (.lst []) := by
                        rw [upd_ne nzW, upd_same]
                      refine ⟨.inl ⟨rfl, _, sq_of hz2⟩, .int pq.2, rfl, z, _, _, rfl, rfl, hz2, sz_lt (by decide), _, _, rfl, ?_⟩
                      refine ⟨Ex.mut (Ex.mut g2.ex w2.1) zH, ?_, ?_, ?_, g2.hF, g2.hA, g2.ne⟩
                      · rw [upd_ne zF.symm, upd_ne w2.2.1.symm]
                        exact g2.f
                      · rw [upd_ne zA.symm, upd_ne w2.2.2.symm]
                        exact g2.a
                      · rw [List.length_append]
                        refine g.w.new w1 hv hz ⟨zH, zF, zA⟩ (fun a o _ nd h => ?_) ?_ upd_same
                        · rw [upd_ne (ne_of_none h hz), upd_ne nd]
                          exact Ex.new hz _ _ h
                        · rw [upd_ne nzW.symm, upd_same]
                · rintro σ' Hd ⟨y8, y9, rfl, g⟩
                  have lxs := s3.len
                  rw [List.length_map] at lxs
                  rw [lxs, List.take_length] at g
                  exact tail _ _ ⟨_, _, rfl, g⟩
              · have ea : adds r (met ++ [r.n]) = [] := by
                  unfold adds
                  rw [if_neg (by rw [srt]; decide +kernel), if_neg (by rw [srt]; decide +kernel)]
                have ew : waits r (met ++ [r.n]) = [] := by
                  unfold waits
                  rw [if_neg (by rw [srt]; decide +kernel)]
                rw [ea, ew, List.append_nil, List.append_nil] at tail
                rw [srt] at tail ⊢
                refine ⟨_, rfl, rfl, _, rfl, ?_⟩
                dsimp only
                rw [decide_eq_false (by decide +kernel), if_neg Bool.false_ne_true]
                refine ⟨_, rfl, rfl, _, rfl, ?_⟩
                dsimp only
                rw [decide_eq_false (by decide +kernel), if_neg Bool.false_ne_true]
                exact tail _ _ ⟨_, _, rfl, h5⟩
            · rintro σ' Hd ⟨y8, y9, rfl, g⟩
              obtain ⟨kvs2, w1, w2, w3, w4, w5⟩ := id g.w
              refine ifS_of (test_of (din_of (v_of rfl (v_of rfl ⟨W, _, rfl, DGet.k (k := Sum.inl r.n) w1, _, rfl, ?_⟩))))
              rcases w4 r.n with ⟨z1, z2⟩ | ⟨q', z1, z2, z3⟩
              · rw [z1, if_neg (by decide)]
                refine ⟨m', l, _, _, _, _, _, _, _, _, rfl, ?_, i'⟩
                rw [z2, List.append_nil]
                exact g
              · rw [z1, if_pos (show (some (V.ref q')).isSome = true from rfl)]
                refine ⟨.ref A, rfl, .inl ⟨rfl, _, sq_of g.a⟩, .ref W, rfl, .int r.n, rfl, W, .ref q', rfl, (by rw [← z1]; exact DGet.k (k := Sum.inl r.n) w1), A, q', _, _, rfl, rfl, g.a, z3, ?_, ?_⟩
                · rw [List.length_map, List.length_map, sizeLine_eq, List.length_append]
                  omega
                · refine ⟨m', l, _, _, _, _, _, _, _, _, rfl, ?_, i'⟩
                  rw [← List.map_append]
                  exact g.setA _
end
end Sn
namespace Sn
open PySem PySem.Spec PyProof.Rows L2 Evl Gd
abbrev sLost : Stmt := topS 18
abbrev nLost : List Str := ["met", "left", "number"]
theorem scLost : FnScope nLost ["met", "left"] (defScope sLost) := ⟨rfl, rfl, rfl, by decide +kernel, rfl, by decide +kernel, by decide +kernel⟩
/-- what was met, and is not left -/
def spLost (K : PySem.W.Frag) : Sp := fun vs H Q _ => ∃ (a b : Addr) (met left : List Int), vs = [.ref a, .ref b] ∧ a ≠ b ∧ H a = some (.dK (kTrue met)) ∧ H b = some (.dK (kTrue left)) ∧ met.Nodup ∧ met.length ≤ 1000 ∧
  ∀ (H' : Hp) (t : Addr) (ns : List Int), (∀ x o, x ≠ a → H x = some o → H' x = some o) → H t = none → H' t = some (.tup (ns.map V.int)) → ns.Pairwise (· < ·) → (∀ n, n ∈ ns ↔ n ∈ met ∧ n ∉ left) → Q (.ref t) H'
section
variable {P : Program} {w : World} {K : PySem.W.Frag} {mg : Str → Option Value} {base : Heap}
theorem ok_lost {f : Addr} {fd : FuncData} (F : Fun K "lost" "lost" sLost f fd) (mT : mg "tuple" = none) (mO : mg "sorted" = none) : FnOk P w K mg base CX0 1 f fd ["met", "left"] (spLost K) := by
  refine F.ok scLost (fun vs H Q E h => ?_) (fun cdv A outer s H vs Q E hr h => ?_)
  · obtain ⟨a, b, met, left, rfl, _⟩ := h
    rfl
  · obtain ⟨a, b, met, left, rfl, nab, ha, hb, nd, ml, q⟩ := h
    have hu := hu_of hr
    refine ⟨_, pss_one (ps_ret (pe_callTy call_tuple_of (by rfl) mT (by decide +kernel) (pa_cons (pe_callB cr_sortedI (by rfl) mO (by decide +kernel) (pa_cons (pe_lc (own := [("number", 2)]) (g := gName 2) (tt := tTest (tDNotIn (tVar 2) (tVar 1))) (te := tVar 2) rfl scLost.nd (pi_keysL (pv 0)) (blkOk_by (N := nLost) (sc := defScope sLost) (by decide +kernel))
        (fun _ _ _ _ _ => pg_name (i := 2) scLost.nd rfl (.inl rfl)) (fun _ _ _ _ _ => pts_one (pt_cmp (pc_dnotin hu (pv 2) (pv 1)))) (fun _ _ _ _ _ => pv 2)) pa_nil)) pa_nil))), ?_⟩
    refine ret_of (cb_of (c_of (cb_of (c_of ?_))))
    refine lc_of (kL_of (v_of rfl ⟨a, _, rfl, ha, fun od D hD => ?_⟩))
    have k1 : ∀ x o, x ≠ a → H x = some o → (upd H a (.frz od (.dK (kTrue met)))) x = some o := fun x o n h => by
      rw [upd_ne n]
      exact h
    have k2 : (upd H a (.frz od (.dK (kTrue met)))) a = some (.frz od (.dK (kTrue met))) := upd_same
    have k3 : ∀ x, (upd H a (.frz od (.dK (kTrue met)))) x = none → H x = none := fun x h => by
      by_cases e : x = a
      · rw [e, k2] at h
        cases h
      · rw [upd_ne e] at h
        exact h
    generalize upd H a (.frz od (.dK (kTrue met))) = HL at k1 k2 k3 hD ⊢
    refine lc_it walk_keys (fun i H' => Ex HL H' ∧ H' D = some (.lst (((met.take i).filter fun n => decide (n ∉ left)).map V.int))) ⟨Ex.new hD, upd_same⟩ (fun i H' _ h => h.1 _ _ k2) ?_ ?_
    · rintro i x H3 H3' hi ⟨e3, h3⟩ ⟨rfl, k, v, hkv, rfl⟩
      obtain ⟨n, hn, e⟩ := map_at hkv
      cases e
      rw [List.length_map] at hi
      refine ⟨rfl, ?_⟩
      refine test_of ⟨.int n, rfl, .ref b, rfl, b, _, rfl, DGet.k (k := Sum.inl n) (e3 _ _ (k1 _ _ nab.symm hb)), _, rfl, ?_⟩
      rw [val_kTrue]
      by_cases hm : n ∈ left
      · rw [decide_eq_true hm, if_neg (show ¬ (!true) = true from Bool.false_ne_true)]
        refine ⟨e3, ?_⟩
        rw [h3, take_one hn, List.filter_append, List.filter_cons_of_neg (by simp [hm]), List.filter_nil, List.append_nil]
      · rw [decide_eq_false hm, if_pos (show (!false) = true from rfl)]
        refine v_of rfl ⟨_, h3, sz_lt ?_, Ex.mut e3 hD, ?_⟩
        · rw [List.length_map]
          have h1 := List.length_filter_le (fun n => decide (n ∉ left)) (met.take i)
          rw [List.length_take] at h1
          omega
        · rw [upd_same, take_one hn, List.filter_append, List.filter_cons_of_pos (by simp [hm]), List.filter_nil, List.map_append]
          rfl
    · rintro H3 ⟨e3, h3⟩
      rw [List.length_map, List.take_length] at h3
      refine n_of ⟨D, _, rfl, sq_of h3, fun ns p perm srt hp => n_of ⟨p, _, rfl, .inl ⟨sq_of upd_same, fun t ht => ?_⟩⟩⟩
      have e4 : Ex H3 (upd H3 p (.lst (ns.map V.int))) := Ex.new hp
      have e5 := e3.trans e4
      refine q _ t ns (fun x o n h => (e5.trans (Ex.new ht)) _ _ (k1 x o n h)) (k3 _ (fresh_back e5 ht)) upd_same (strict_of srt (perm.nodup_iff.mpr (nd.filter _))) fun n => ?_
      rw [perm.mem_iff, List.mem_filter]
      exact ⟨fun h => ⟨h.1, of_decide_eq_true h.2⟩, fun h => ⟨h.1, decide_eq_true h.2⟩⟩
end
end Sn
namespace Sn
open PySem PySem.Spec PyProof.Rows L2 Evl Gd
abbrev sNeedL : Stmt := topS 15
abbrev nNeedL : List Str := ["net", "alive", "values", "value", "number"]
theorem scNeedL : FnScope nNeedL ["net", "alive", "values"] (defScope sNeedL) := ⟨rfl, rfl, rfl, by decide +kernel, rfl, by decide +kernel, by decide +kernel⟩
abbrev sDwo : Stmt := topS 17
abbrev nDwo : List Str := ["snapshot", "given", "net", "met"]
theorem scDwo : FnScope nDwo ["snapshot", "given"] (defScope sDwo) := ⟨rfl, rfl, rfl, by decide +kernel, rfl, by decide +kernel, by decide +kernel⟩
def spNeedL (K : PySem.W.Frag) (C : Addr) : Sp := fun vs H Q _ => ∃ (p a t : Addr) (N : NetM) (met : List Int) (ys : List V) (gs : List Arc), vs = [.ref p, .ref a, .ref t] ∧ PlNet K C H p N ∧ OkNet N ∧ ((netArcs N).map Arc.link).Nodup ∧ H a = some (.dK (kTrue met)) ∧ SqT K H t ys ∧ Paired (LnkA H) ys gs ∧ (∀ g ∈ gs, g ∈ netArcs N ∧ ∀ m ∈ g.src, m ∈ met) ∧ ∀ H', Ex H H' → Q .non H'
section
variable {P : Program} {w : World} {K : PySem.W.Frag} {mg : Str → Option Value} {base : Heap}
theorem ok_needl {f fK fS fL C : Addr} {fd fdK fdS fdL : FuncData} (F : Fun K "need_links" "need_links" sNeedL f fd) (AK : Df K mg "is_link" sIsLink ["value"] fK fdK) (AS : Df K mg "sources_of" sSrc ["link"] fS fdS) (ML : Mf K C "led_to" "Net.led_to" sLed ["self", "link"] fL fdL) (T : Txt K mg C)
    (GK : FnOk P w K mg base CX0 2 fK fdK ["value"] (spIsLink K)) (GL' : FnOk P w K mg base CX0 1 fL fdL ["self", "link"] (spLed K C)) (mA : mg "all" = none) : FnOk P w K mg base CX0 3 f fd ["net", "alive", "values"] (spNeedL K C) := by
  have GL : FnOk P w K mg base CX0 2 fL fdL ["self", "link"] (spLed K C) := GL'.mono (by decide)
  have GS : FnOk P w K mg base CX0 2 fS fdS ["link"] (spSrc K) := (ok_src AS.F).mono (by decide)
  refine F.ok scNeedL (fun vs H Q E h => ?_) (fun cdv A outer s H vs Q E hr h => ?_)
  · obtain ⟨p, a, t, N, met, ys, gs, rfl, _⟩ := h
    rfl
  · obtain ⟨p, a, t, N, met, ys, gs, rfl, hN, ok, lnd, ha, hys, prs, hg, q⟩ := h
    have hu := hu_of hr
    refine ⟨_, pss_one (ps_for PassesOwn.never rfl (pi_tup (pv 2)) (pg_name (i := 3) scNeedL.nd rfl (.inl rfl))
        (pss_cons (ps_if (pw_or (pt_not (pt_val (pe_call GK hr (by rfl) AK.g AK.F.kp AK.b .nil pass0 (pa_cons (pv 3) pa_nil)))) (pw_or1 (pt_cmpR op_isN (pe_meth (pv 0) T.cl ML.m GL hr ML.b .nil pass0 (pa_cons (pv 3) pa_nil)) pe_non (nomark _)))).pt pss_never pss_nil) <|
        pss_one (ps_if (pt_not (pt_val (pe_callB (cr_all rfl) (by rfl) mA (by decide +kernel) (pa_cons (pe_lc (own := [("number", 4)]) (g := gName 4) (tt := tYes) (te := tDIn (tVar 4) (tVar 1)) rfl scNeedL.nd (pi_tup (pe_call GS hr (by rfl) AS.g AS.F.kp AS.b .nil pass0 (pa_cons (pv 3) pa_nil))) (blkOk_by (N := nNeedL) (sc := defScope sNeedL) (by decide +kernel))
            (fun _ _ _ _ _ => pg_name (i := 4) scNeedL.nd rfl (.inl rfl)) (fun _ _ _ _ _ => pts_nil) (fun _ _ _ _ _ => pe_cmp (pc_din hu (pv 4) (pv 1)) rfl)) pa_nil)))) pss_never pss_nil))), ?_⟩
    obtain ⟨dx, ra, rs, d, kvs, hp, _⟩ := id hN
    refine for_of (iT_of (v_of rfl ⟨t, rfl, ⟨_, hys⟩, for_tup (xs := ys) (fun i σ' Hc => ∃ y3, σ' = [some (.ref p), some (.ref a), some (.ref t), y3, none] ∧ Ex H Hc) ⟨none, rfl, Ex.refl H⟩ (fun i σ' Hc _ ⟨_, _, e⟩ => ex_t e hys) ?_ ?_⟩))
    · rintro i x σ' Hc hx ⟨y3, rfl, ec⟩
      obtain ⟨g, hg1, l, rfl, hl⟩ := paired_at prs hx
      obtain ⟨gm, gs'⟩ := hg g (List.mem_of_getElem? hg1)
      have fm := formed_net gm
      dsimp only [gName]
      refine seq_of (ifS_of (or_of (not_of (test_of (call_of (c_of (v_of rfl (n_of ⟨l, g, rfl, st_of (ec _ _ hl), fm, fun H1 e1 => ⟨true, rfl, ?_⟩⟩))))))))
      rw [if_neg (show ¬ (!true) = true from Bool.false_ne_true)]
      have ec1 := ec.trans e1
      refine test_of (op_of (meth_of (v_of rfl ⟨p, dx, _, rfl, ec1 _ _ hp, nf_no _ _ (by decide +kernel) (by decide +kernel), c_of (v_of rfl (n_of ⟨p, l, N, g, rfl, hN.ex ec1, ok, lnd, gm, st_of (ec1 _ _ hl), fun H2 e2 => k_of ⟨rfl, _, rfl, ?_⟩⟩))⟩)))
      rw [show decide (V.int g.tgt = V.non) = false from rfl, if_neg Bool.false_ne_true]
      dsimp only [tNext]
      have ec2 := ec1.trans e2
      refine ifS_of (not_of (test_of (cb_of (c_of (lc_of (iT_of (call_of (c_of (v_of rfl (n_of ⟨l, g, rfl, st_of (ec2 _ _ hl), fm, fun H3 ts e3 hts0 hts => ⟨ts, rfl, ⟨_, st_of hts⟩, fun D hD => lc_tup (xs := g.src.map V.int) (fun j H' => Ex H3 H' ∧ H' D = some (.lst (((g.src.take j).map fun m => decide (m ∈ met)).map V.bl))) ⟨Ex.new hD, upd_same⟩ (fun j H' _ p => st_of (p.1 _ _ hts)) ?_ ?_⟩⟩))))))))))
      · rintro j x' H' hx ⟨e5, h5⟩
        obtain ⟨m, hm', rfl⟩ := at_map hx
        have s2 : g.src.length ≤ 2 := by
          rcases fm with ⟨_, _, e⟩ | ⟨_, _, _, e⟩ | ⟨_, _, _, e⟩ <;> rw [e] <;> simp
        have jl : j < g.src.length := (List.getElem?_eq_some_iff.mp hm').1
        refine ⟨rfl, ?_⟩
        dsimp only [tYes]
        rw [if_pos rfl]
        refine ⟨.int m, rfl, .ref a, rfl, a, _, rfl, DGet.k (k := Sum.inl m) (((ec2.trans e3).trans e5) _ _ ha), _, h5, sz_lt (by rw [List.length_map, List.length_map, List.length_take]; omega), Ex.mut e5 hD, ?_⟩
        rw [upd_same, take_one hm', val_kTrue, List.map_append, List.map_append]
        rfl
      rintro H5 ⟨e5, h5⟩
      rw [List.length_map, List.take_length] at h5
      refine n_of ⟨D, _, rfl, sq_of h5, _, rfl, ?_⟩
      rw [all_dec (p := fun m => m ∈ met) fun m => rfl, decide_eq_true gs', if_neg (show ¬ (!true) = true from Bool.false_ne_true)]
      exact ⟨_, rfl, (ec2.trans e3).trans e5⟩
    · rintro σ' Hc ⟨y3, rfl, ec⟩
      exact q Hc ec
end
def spDwo (K : PySem.W.Frag) : Sp := fun vs H Q _ => ∃ (x : V) (s : Shot) (ys : List V) (gs : List Arc), vs = x :: ys ∧ TdS K H x s ∧ okShot s ∧ ((arcsOf s).map Arc.link).Nodup ∧ Paired (LnkA H) ys gs ∧ gs.length ≤ 1000 ∧ (∀ g ∈ gs, g ∈ arcsOf s ∧ ∀ m ∈ g.src, Live (arcsOf s) m) ∧
  ∀ (H' : Hp) (t : Addr) (ns : List Int), Ex H H' → H' t = some (.tup (ns.map V.int)) → ns.Pairwise (· < ·) → (∀ n, n ∈ ns ↔ Live (arcsOf s) n ∧ ¬ Live (keptA (gs.map Arc.link) (arcsOf s)) n) → Q (.ref t) H'
def spDwoB (K : PySem.W.Frag) : Sp := fun vs H Q _ => ∃ (x : V) (p : Addr) (s : Shot) (ys : List V) (gs : List Arc), vs = [x, .ref p] ∧ H p = some (.tup ys) ∧ TdS K H x s ∧ okShot s ∧ ((arcsOf s).map Arc.link).Nodup ∧ Paired (LnkA H) ys gs ∧ gs.length ≤ 1000 ∧ (∀ g ∈ gs, g ∈ arcsOf s ∧ ∀ m ∈ g.src, Live (arcsOf s) m) ∧
  ∀ (H' : Hp) (t : Addr) (ns : List Int), Ex H H' → H' t = some (.tup (ns.map V.int)) → ns.Pairwise (· < ·) → (∀ n, n ∈ ns ↔ Live (arcsOf s) n ∧ ¬ Live (keptA (gs.map Arc.link) (arcsOf s)) n) → Q (.ref t) H'
section
variable {P : Program} {w : World} {K : PySem.W.Frag} {mg : Str → Option Value} {base : Heap}
theorem ok_dwo {f fE fN fL fM fW C : Addr} {fd fdE fdN fdL fdM fdW : FuncData} (F : Fun K "dies_without" "dies_without" sDwo f fd) (AE : Df K mg "need_links" sNeedL ["net", "alive", "values"] fE fdE) (AN : Df K mg "net_of" sNetOf ["snapshot"] fN fdN) (AL : Df K mg "lost" sLost ["met", "left"] fL fdL) (AM : Mf K C "met" "Net.met" sMet ["self", "barred"] fM fdM) (AW : Mf K C "without" "Net.without" sWout ["self", "links"] fW fdW) (N : NetD P w K mg base C)
    (GE : FnOk P w K mg base CX0 3 fE fdE ["net", "alive", "values"] (spNeedL K C)) (mL : mg "len" = none) (mT : mg "tuple" = none) (mO : mg "sorted" = none) (mD : mg "dict" = none) : FnR P w K mg base CX0 4 f (spDwo K) := by
  have GN : FnOk P w K mg base CX0 3 fN fdN ["snapshot"] (spNetOf K C) := ok_netof AN.F N
  have GL : FnOk P w K mg base CX0 3 fL fdL ["met", "left"] (spLost K) := (ok_lost AL.F mT mO).mono (by decide)
  have GM : FnOk P w K mg base CX0 3 fM fdM ["self", "barred"] (spMet K C) := (ok_met AM.F N.T mL).mono (by decide)
  have GW : FnOk P w K mg base CX0 3 fW fdW ["self", "links"] (spWout K C) := ok_wout AW.F N mD
  obtain ⟨oc, od, kV, doc, pm, an, cdv, ct, osl, rfl, lk, hcd⟩ := F.ex
  refine FnR.imp (StX.fn_star (ps := ["snapshot"]) (pv := "given") (k := 3) (sp := spDwoB K) lk hcd scDwo StX.cxUp_none (fun us rest hl => match us, rest, hl with | [_], [], _ => rfl | [_], _ :: _, _ => rfl) fun A outer s H vs Q E hr h => ?_) fun vs H Q E h => ?_
  · obtain ⟨x, p, s, ys, gs, rfl, hp, ht, ok, lnd, prs, gl, hg, q⟩ := h
    have hu := hu_of hr
    refine ⟨_, (show PSs (L2.cxOf CX0 P w K mg base nDwo "dies_without" (defScope sDwo) f cdv A outer _ H E).nox _ _ from
      pss_cons (ps_set (i := 2) scDwo.nd rfl (.inl rfl) (pe_call GN hr (by rfl) AN.g AN.F.kp AN.b .nil pass0 (pa_cons (pv 0) pa_nil))) <|
      pss_cons (ps_set (i := 3) scDwo.nd rfl (.inl rfl) (pe_meth (pv 2) N.T.cl AM.m GM hr AM.b .nil pass0 (pa_cons pe_dnewK pa_nil))) <|
      pss_cons (ps_expr (pe_call GE hr (by rfl) AE.g AE.F.kp AE.b .nil pass0 (pa_cons (pv 2) <| pa_cons (pv 3) <| pa_cons (pv 1) pa_nil))) <|
      pss_one (ps_ret (pe_call GL hr (by rfl) AL.g AL.F.kp AL.b .nil pass0 (pa_cons (pv 3) <| pa_cons (pe_meth (pe_meth (pv 2) N.T.cl AW.m GW hr AW.b .nil pass0 (pa_cons (pv 1) pa_nil)) N.T.cl AM.m GM hr AM.b .nil pass0 (pa_cons pe_dnewK pa_nil)) pa_nil)))).nox, ?_⟩
    refine seq_of (asg_of (call_of (c_of (v_of rfl (n_of ⟨x, s, rfl, ht.td, ok, fun H1 pn e1 ⟨hN, hPl⟩ => ?_⟩)))))
    have hPl := hPl ht
    obtain ⟨dx, ra, rs, d, kvs, hpn, _⟩ := id hN
    dsimp only
    refine seq_of (asg_of (meth_of (v_of rfl ⟨pn, dx, _, rfl, hpn, nf_no _ _ (by decide +kernel) (by decide +kernel), c_of (newK_of fun b hb => n_of ?_)⟩)))
    have e3 : Ex H1 (upd H1 b (.dK [])) := Ex.new hb
    refine ⟨pn, b, netM s, [], [], rfl, hN.ex e3, ok.2.2, upd_same, fun n => rfl, fun H3 q1 met1 e4 hq10 hq1 nd1 iff1 ml1 => ?_⟩
    have e34 := e3.trans e4
    have e03 := e1.trans e34
    have iffM : ∀ n, n ∈ met1 ↔ Live (arcsOf s) n := fun n => by
      rw [iff1 n, filter_none, net_arcs]
    have hq0 : H q1 = none := fresh_back (e1.trans e3) hq10
    have gnet : ∀ g ∈ gs, g ∈ netArcs (netM s) := fun g h => by
      rw [net_arcs]
      exact (hg g h).1
    dsimp only
    refine seq_of (drop_of (call_of (c_of (v_of rfl (c_of (v_of rfl (c_of (v_of rfl (n_of ⟨pn, q1, p, netM s, met1, ys, gs, rfl, hPl.ex e34, ok.2.2, by rw [net_arcs]; exact lnd, hq1, st_of (e03 _ _ hp), L2.Paired.mapP prs fun _ _ z => z.ex e03, fun g h => ⟨gnet g h, fun m hm => (iffM m).mpr ((hg g h).2 m hm)⟩, fun H4 e5 => ?_⟩)))))))))
    have e35 := e34.trans e5
    have e04 := e03.trans e5
    dsimp only
    refine ret_of (call_of (c_of (v_of rfl (c_of ?_))))
    refine meth_of (meth_of (v_of rfl ⟨pn, dx, _, rfl, e35 _ _ hpn, nf_no _ _ (by decide +kernel) (by decide +kernel), c_of (v_of rfl (n_of ⟨pn, p, netM s, ys, gs, rfl, hN.ex e35, ok.2.2, st_of (e04 _ _ hp), L2.Paired.mapP prs fun _ _ z => z.ex e04, gl, gnet, fun H5 p5 e6 hN5 => ?_⟩))⟩))
    obtain ⟨dx5, ra5, rs5, d5, kv5, hp5, _⟩ := id hN5
    refine ⟨p5, dx5, _, rfl, hp5, nf_no _ _ (by decide +kernel) (by decide +kernel), c_of (newK_of fun b5 hb5 => n_of ?_)⟩
    have e7 : Ex H5 (upd H5 b5 (.dK [])) := Ex.new hb5
    have of : OfNet (netM s) (gs.map Arc.link) := fun l hl => by
      obtain ⟨g, h, e⟩ := List.mem_map.mp hl
      exact ⟨g, gnet g h, e⟩
    refine ⟨p5, b5, cutNet (gs.map Arc.link) (netM s), [], [], rfl, hN5.ex e7, cut_net_ok ok.2.2 of, upd_same, fun n => rfl, fun H6 q2 met2 e8 hq20 hq2 nd2 iff2 ml2 => ?_⟩
    have e48 := (e6.trans e7).trans e8
    have n12 : q1 ≠ q2 := ne_of_none ((e5.trans (e6.trans e7)) _ _ hq1) hq20
    refine n_of ⟨q1, q2, met1, met2, rfl, n12, (e5.trans e48) _ _ hq1, hq2, nd1, ml1, fun H7 t ns ko ht0 ht1 asc iff => ?_⟩
    refine q H7 t ns (fun a o h => ko a o (ne_of_none h hq0) ((e04.trans e48) _ _ h)) ht1 asc fun n => ?_
    rw [iff n, iffM n, iff2 n, filter_none, cut_arcs ok.2.2 of, net_arcs]
  · obtain ⟨x, s, ys, gs, rfl, ht, ok, lnd, prs, gl, hg, q⟩ := h
    have yl : ys.length = gs.length := Paired.length prs
    refine ⟨[x], ys, rfl, rfl, by rw [sizeLine_eq]; omega, fun p hp => ?_⟩
    have e : Ex H (upd H p (.tup ys)) := Ex.new hp
    exact ⟨x, p, s, ys, gs, rfl, upd_same, ht.ex e, ok, lnd, L2.Paired.mapP prs fun _ _ z => z.ex e, gl, hg, fun H' t ns e2 h1 a i => q H' t ns (e.trans e2) h1 a i⟩
end
end Sn
/-! need_links of any values: the first that is no link of the alive ones is told -/
namespace Sn
open PySem PySem.Spec PyProof.Rows L2 Evl Gd Ex
theorem Av.inv_key {K : PySem.W.Frag} {d : Addr → Prop} {H : Hp} {x : V} : ∀ {k : Key}, Av K d H x (kD k) → x = kV k
  | .inl _, h => by cases h; rfl
  | .inr _, h => by cases h; rfl
theorem AvAll.inv_keys {K : PySem.W.Frag} {d : Addr → Prop} {H : Hp} : ∀ {ks : List Key} {xs : List V}, AvAll K d H xs (ks.map kD) → xs = ks.map kV
  | [], _, h => h.inv_nil
  | k :: ks, _, h => by
    obtain ⟨y, ys, rfl, h1, h2⟩ := AvAll.inv_cons h
    rw [h1.inv_key, AvAll.inv_keys h2]
    rfl
theorem linky_arc {α : Arc} (h : Formed α) : Linky α.link := by
  rcases h with ⟨r, e, _⟩ | ⟨n, k, e, _⟩ | ⟨n, k, e, _⟩
  · exact .inl ⟨_, e⟩
  · exact .inr (.inl ⟨_, _, e⟩)
  · exact .inr (.inr ⟨_, _, e⟩)
theorem link_linky {ks : List Key} (h : Linky ks) : linkQ (.tuple (ks.map kD)) = true := by
  have r1 : (("root" : Str) == ("root" : Str)) = true := by decide +kernel
  have r2 : ((("slot" : Str) == ("slot" : Str)) || (("slot" : Str) == ("entry" : Str))) = true := by decide +kernel
  have r3 : ((("entry" : Str) == ("slot" : Str)) || (("entry" : Str) == ("entry" : Str))) = true := by decide +kernel
  rcases h with ⟨z, rfl⟩ | ⟨n, k, rfl⟩ | ⟨n, k, rfl⟩
  · show (("root" : Str) == ("root" : Str) && true) = true
    rw [r1]
    rfl
  · show (((("slot" : Str) == ("slot" : Str)) || (("slot" : Str) == ("entry" : Str))) && (true && true)) = true
    rw [r2]
    rfl
  · show (((("entry" : Str) == ("slot" : Str)) || (("entry" : Str) == ("entry" : Str))) && (true && true)) = true
    rw [r3]
    rfl
theorem kD_inj : ∀ {a b : Key}, kD a = kD b → a = b
  | .inl _, .inl _, h => by cases h; rfl
  | .inr _, .inr _, h => by cases h; rfl
  | .inl _, .inr _, h => by cases h
  | .inr _, .inl _, h => by cases h
theorem kDs_inj : ∀ {a b : List Key}, a.map kD = b.map kD → a = b
  | [], [], _ => rfl
  | [], _ :: _, h => by cases h
  | _ :: _, [], h => by cases h
  | a :: as, b :: bs, h => by
    rw [List.map_cons, List.map_cons] at h
    obtain ⟨h1, h2⟩ := List.cons.inj h
    rw [kD_inj h1, kDs_inj h2]
theorem links_inj {a b : List Key} (h : PyData.tuple (a.map kD) = .tuple (b.map kD)) : a = b := kDs_inj (PyData.tuple.inj h)
/-- a link of these arcs, its sources among these -/
def GoodL (as : List Arc) (met : List Int) (e : PyData) : Prop := ∃ g ∈ as, e = .tuple (g.link.map kD) ∧ ∀ m ∈ g.src, m ∈ met
theorem arc_uniq : ∀ {as : List Arc} {a b : Arc}, (as.map Arc.link).Nodup → a ∈ as → b ∈ as → a.link = b.link → a = b
  | [], _, _, _, h, _, _ => absurd h List.not_mem_nil
  | c :: as, a, b, nd, ha, hb, e => by
    rw [List.map_cons, List.nodup_cons] at nd
    rcases List.mem_cons.mp ha with ea | ma
    · rcases List.mem_cons.mp hb with eb | mb
      · rw [ea, eb]
      · exact absurd (by rw [← ea, e]; exact List.mem_map_of_mem mb) nd.1
    · rcases List.mem_cons.mp hb with eb | mb
      · exact absurd (by rw [← eb, ← e]; exact List.mem_map_of_mem ma) nd.1
      · exact arc_uniq nd.2 ma mb e
def spNeedLA (K : PySem.W.Frag) (C CL : Addr) : Sp := fun vs H Q E => ∃ (p a t : Addr) (N : NetM) (met : List Int) (D : Addr → Prop) (ys : List V) (es : List PyData), vs = [.ref p, .ref a, .ref t] ∧ PlNet K C H p N ∧ OkNet N ∧ ((netArcs N).map Arc.link).Nodup ∧ H a = some (.dK (kTrue met)) ∧ SqT K H t ys ∧ AvAll K D H ys es ∧ (∀ e ∈ es, Shw e) ∧
  ((∀ e ∈ es, GoodL (netArcs N) met e) → ∀ H', Ex H H' → Q .non H') ∧
  ∀ (i : Nat) (y : V) (e : PyData), ys[i]? = some y → es[i]? = some e → ¬ GoodL (netArcs N) met e → (∀ j e', j < i → es[j]? = some e' → GoodL (netArcs N) met e') → ∀ H' dd, Ex H H' → H' dd = some (.xd [("value", y)]) → E (.ref CL) (some dd) H'
/-- how a class of errors is made -/
structure ErrD (P : Program) (w : World) (K : PySem.W.Frag) (mg : Str → Option Value) (base : Heap) (x : Str) (C f : Addr) (fd : FuncData) : Prop where
  O : Own K C f
  kC : PySem.W.keepIn K (.ref C) = true
  g : mg x = some (.ref C)
  G : FnG P w K mg base CX0 1 f fd ["self", "value"] (spInitA K C "value")
  b : ∀ (s : Shared) (self : Value) (us : List Value), us.length + 1 = (["self", "value"] : List Str).length → K.In s.heap → BindsTo s fd ⟨self :: us, []⟩ ((["self", "value"] : List Str).zip (self :: us))
theorem raise_of {K : PySem.W.Frag} {C : Addr} {H : Hp} {d : Addr → Prop} {y : V} {e : PyData} {Q : XK} (av : Av K d H y e) (sh : Shw e) (q : ∀ H' dd, Ex H H' → H' dd = some (.xd [("value", y)]) → Q (.ref C) (some dd) H') : Raised (spInitA K C "value") C [y] H Q := by
  intro a ha
  refine ⟨a, d, y, e, rfl, upd_same, av.ex (Ex.new ha), sh, fun dx hdx ne => ⟨rfl, dx, _, upd_same, ?_, ?_, q _ dx (fun b o hb => ?_) upd_same⟩⟩
  · rw [upd_ne ne, upd_same]
  · rw [upd_ne ne] at hdx
    exact hdx
  · have hdx' : H dx = none := by
      rw [upd_ne ne] at hdx
      exact hdx
    have n1 : b ≠ a := ne_of_none hb ha
    have n2 : b ≠ dx := ne_of_none hb hdx'
    rw [upd_ne n2, del_ne n1, upd_ne n1, upd_ne n2, upd_ne n1]
    exact hb
section
variable {P : Program} {w : World} {K : PySem.W.Frag} {mg : Str → Option Value} {base : Heap}
theorem ok_needlA {f fK fS fL fE C CL : Addr} {fd fdK fdS fdL fdE : FuncData} (F : Fun K "need_links" "need_links" sNeedL f fd) (AK : Df K mg "is_link" sIsLink ["value"] fK fdK) (AS : Df K mg "sources_of" sSrc ["link"] fS fdS) (ML : Mf K C "led_to" "Net.led_to" sLed ["self", "link"] fL fdL) (T : Txt K mg C) (ED : ErrD P w K mg base "NoLink" CL fE fdE)
    (GK : FnOk P w K mg base CX0 2 fK fdK ["value"] (spLinkA K)) (GL' : FnOk P w K mg base CX0 1 fL fdL ["self", "link"] (spLedA K C)) (mA : mg "all" = none) : FnG P w K mg base (L2.CX P w) 3 f fd ["net", "alive", "values"] (spNeedLA K C CL) := by
  have GL : FnOk P w K mg base CX0 2 fL fdL ["self", "link"] (spLedA K C) := GL'.mono (by decide)
  have GS : FnOk P w K mg base CX0 2 fS fdS ["link"] (spSrc K) := (ok_src AS.F).mono (by decide)
  refine fng_of F scNeedL (fun vs H Q E h => ?_) (fun cdv A outer s H vs Q E hr gd h => ?_)
  · obtain ⟨p, a, t, N, met, D, ys, es, rfl, _⟩ := h
    rfl
  · obtain ⟨p, a, t, N, met, D, ys, es, rfl, hN, ok, lnd, ha, hys, av, shw, qok, qbad⟩ := h
    have hu := hu_of hr
    have tk : Takes (cxOf (L2.CX P w) P w K mg base nNeedL "need_links" (defScope sNeedL) f cdv A outer s H E) (fun cls d _ H => E cls d H) := takes_of rfl rfl rfl rfl
    refine ⟨_, pss_one (ps_for (passes_of rfl) rfl (pi_tup (pv 2)) (pg_name (i := 3) scNeedL.nd rfl (.inl rfl))
        (pss_cons (ps_if (pw_or (pt_not (pt_val (pe_call GK hr (by rfl) AK.g AK.F.kp AK.b .nil pass0 (pa_cons (pv 3) pa_nil)))) (pw_or1 (pt_cmpR op_isN (pe_meth (pv 0) T.cl ML.m GL hr ML.b .nil pass0 (pa_cons (pv 3) pa_nil)) pe_non (nomark _)))).pt (pss_one (ps_raise rfl tk (pmk_newE ED.O ED.kC ED.G (hr.mono (by decide)) gd pass0 (by rfl) ED.g ED.b (pa_cons (pv 3) pa_nil)))) pss_nil) <|
        pss_one (ps_if (pt_not (pt_val (pe_callB (cr_all rfl) (by rfl) mA (by decide +kernel) (pa_cons (pe_lc (own := [("number", 4)]) (g := gName 4) (tt := tYes) (te := tDIn (tVar 4) (tVar 1)) rfl scNeedL.nd (pi_tup (pe_call GS hr (by rfl) AS.g AS.F.kp AS.b .nil pass0 (pa_cons (pv 3) pa_nil))) (blkOk_by (N := nNeedL) (sc := defScope sNeedL) (by decide +kernel))
            (fun _ _ _ _ _ => pg_name (i := 4) scNeedL.nd rfl (.inl rfl)) (fun _ _ _ _ _ => pts_nil) (fun _ _ _ _ _ => pe_cmp (pc_din hu (pv 4) (pv 1)) rfl)) pa_nil)))) (pss_one (ps_raise rfl tk (pmk_newE ED.O ED.kC ED.G (hr.mono (by decide)) gd pass0 (by rfl) ED.g ED.b (pa_cons (pv 3) pa_nil)))) pss_nil))), ?_⟩
    obtain ⟨dx, ra, rs, d, kvs, hp, _⟩ := id hN
    refine for_of (iT_of (v_of rfl ⟨t, rfl, ⟨_, hys⟩, for_tup (xs := ys) (fun i σ' Hc => ∃ y3, σ' = [some (.ref p), some (.ref a), some (.ref t), y3, none] ∧ Ex H Hc ∧ ∀ j e', j < i → es[j]? = some e' → GoodL (netArcs N) met e') ⟨none, rfl, Ex.refl H, fun j e' h => absurd h (Nat.not_lt_zero _)⟩ (fun i σ' Hc _ ⟨_, _, e, _⟩ => ex_t e hys) ?_ ?_⟩))
    · rintro i x σ' Hc hx ⟨y3, rfl, ec, before⟩
      obtain ⟨e, he, ax⟩ := av.get hx
      have she := shw e (List.mem_of_getElem? he)
      have axc := ax.ex ec
      have bad : ∀ {W : WX} {σ : L2.St} {H1 : Hp}, Ex H H1 → ¬ GoodL (netArcs N) met e → (∀ cls d H', E cls d H' → W cls d σ H') → (tVar 3 σ H1 fun y G => y = x ∧ G = H1) → tMkE CL (spInitA K CL "value") (tCons (tVar 3) tNil) σ H1 fun cls d H' => W cls d σ H' := fun {W σ H1} e1 nb out tv => by
        obtain ⟨v, hv, rfl, _⟩ := tv
        refine ⟨v, hv, by show 1 ≤ 1000; decide, raise_of (ax.ex e1) she fun H' dd e2 hd => out _ _ _ (qbad i _ e hx he nb before H' dd (e1.trans e2) hd)⟩
      dsimp only [gName]
      refine seq_of (ifS_of (or_of (not_of (test_of (call_of (c_of (v_of rfl (n_of ⟨D, x, e, rfl, axc, fun H1 e1 => ⟨linkQ e, rfl, ?_⟩⟩))))))))
      have ec1 := ec.trans e1
      by_cases lq : linkQ e = true
      · rw [lq, if_neg (show ¬ (!true) = true from Bool.false_ne_true)]
        obtain ⟨ks, rfl, lk⟩ := linkQ_is lq
        obtain ⟨l, zs, rfl, _, hl, hz⟩ := ax.inv_tup
        rw [hz.inv_keys] at hl
        refine test_of (op_of (meth_of (v_of rfl ⟨p, dx, _, rfl, ec1 _ _ hp, nf_no _ _ (by decide +kernel) (by decide +kernel), c_of (v_of rfl (n_of ⟨p, l, N, ks, rfl, hN.ex ec1, ok, lnd, lk, ex_t ec1 hl, fun H2 r e2 hr2 => k_of ⟨rfl, _, rfl, ?_⟩⟩))⟩)))
        have ec2 := ec1.trans e2
        cases r with
        | none =>
          rw [show decide (vOpt none = V.non) = true from rfl, if_pos rfl]
          refine bad (W := fun cls d _ H => E cls d H) ec2 (fun ⟨g, hg, eg, _⟩ => ?_) (fun _ _ _ h => h) ⟨_, rfl, rfl, rfl⟩
          have := (hr2 g.tgt).mpr ⟨g, hg, (links_inj eg).symm, rfl⟩
          cases this
        | some m =>
          rw [show decide (vOpt (some m) = V.non) = false from rfl, if_neg Bool.false_ne_true]
          obtain ⟨g, hg, rfl, _⟩ := (hr2 m).mp rfl
          have fm := formed_net hg
          dsimp only [tNext]
          refine ifS_of (not_of (test_of (cb_of (c_of (lc_of (iT_of (call_of (c_of (v_of rfl (n_of ⟨l, g, rfl, ex_t ec2 hl, fm, fun H3 ts e3 hts0 hts => ⟨ts, rfl, ⟨_, st_of hts⟩, fun D hD => lc_tup (xs := g.src.map V.int) (fun j H' => Ex H3 H' ∧ H' D = some (.lst (((g.src.take j).map fun m => decide (m ∈ met)).map V.bl))) ⟨Ex.new hD, upd_same⟩ (fun j H' _ p => st_of (p.1 _ _ hts)) ?_ ?_⟩⟩))))))))))
          · rintro j x' H' hx' ⟨e5, h5⟩
            obtain ⟨m', hm', rfl⟩ := at_map hx'
            have s2 : g.src.length ≤ 2 := by
              rcases fm with ⟨_, _, e⟩ | ⟨_, _, _, e⟩ | ⟨_, _, _, e⟩ <;> rw [e] <;> simp
            have jl : j < g.src.length := (List.getElem?_eq_some_iff.mp hm').1
            refine ⟨rfl, ?_⟩
            dsimp only [tYes]
            rw [if_pos rfl]
            refine ⟨.int m', rfl, .ref a, rfl, a, _, rfl, DGet.k (k := Sum.inl m') (((ec2.trans e3).trans e5) _ _ ha), _, h5, sz_lt (by rw [List.length_map, List.length_map, List.length_take]; omega), Ex.mut e5 hD, ?_⟩
            rw [upd_same, take_one hm', val_kTrue, List.map_append, List.map_append]
            rfl
          rintro H5 ⟨e5, h5⟩
          rw [List.length_map, List.take_length] at h5
          refine n_of ⟨D, _, rfl, sq_of h5, _, rfl, ?_⟩
          have ec5 := (ec2.trans e3).trans e5
          rw [all_dec (p := fun m => m ∈ met) fun m => rfl]
          by_cases all : ∀ n ∈ g.src, n ∈ met
          · rw [decide_eq_true all, if_neg (show ¬ (!true) = true from Bool.false_ne_true)]
            refine ⟨_, rfl, ec5, fun j e' hj hje => ?_⟩
            by_cases c : j = i
            · rw [c, he] at hje
              cases hje
              exact ⟨g, hg, rfl, all⟩
            · exact before j e' (by omega) hje
          · rw [decide_eq_false all, if_pos (show (!false) = true from rfl)]
            refine bad (W := fun cls d _ H => E cls d H) ec5 (fun ⟨g', hg', eg, sg⟩ => ?_) (fun _ _ _ h => h) ⟨_, rfl, rfl, rfl⟩
            have eq : g = g' := arc_uniq lnd hg hg' (links_inj eg)
            rw [← eq] at sg
            exact all sg
      · rw [show linkQ e = false from by
          cases c : linkQ e with
          | false => rfl
          | true => exact absurd c lq, if_pos (show (!false) = true from rfl)]
        rw [if_pos rfl]
        refine bad (W := fun cls d _ H => E cls d H) ec1 (fun ⟨g, hg, eg, _⟩ => lq ?_) (fun _ _ _ h => h) ⟨_, rfl, rfl, rfl⟩
        rw [eg]
        exact link_linky (linky_arc (formed_net hg))
    · rintro σ' Hc ⟨y3, rfl, ec, all⟩
      refine qok (fun e he => ?_) Hc ec
      obtain ⟨j, hj⟩ := List.mem_iff_getElem?.mp he
      have := av.len
      exact all j e (by rw [this]; exact (List.getElem?_eq_some_iff.mp hj).1) hj
end
end Sn
/-! def f(a, .., *v), its promise kept where no repr is under way -/
namespace Gd
open PySem PySem.Spec PyProof.Rows L2
def FnRG (P : Program) (w : World) (K : PySem.W.Frag) (mg : Str → Option Value) (base : Heap) (CX : CXT) (k : Nat) (f : Addr) (sp : Sp) : Prop :=
  ∀ (A : Around) (outer : List Env) (s : Shared) (H : Hp) (us : List Value) (vs : List V) (Q : VK) (E : XK), Room k A → A.guards = some [] → Env0 P w K mg base A outer s H → Vals vs us → sp vs H Q E → codeAny (model P w) A (.call (.ref f) ⟨us, []⟩) (CR CX outer P w H s Q E) s
section
variable {CX : CXT} {P : Program} {w : World} {K : PySem.W.Frag} {mg : Str → Option Value} {base : Heap} {k : Nat} {f : Addr} {sp : Sp}
theorem FnRG.up {j : Nat} (F : FnRG P w K mg base CX j f sp) (h : j ≤ k) : FnRG P w K mg base CX k f sp := fun A outer s H us vs Q E room gd => F A outer s H us vs Q E (room.mono h) gd
theorem FnRG.imp {sp' : Sp} (F : FnRG P w K mg base CX k f sp) (h : ∀ vs H Q E, sp' vs H Q E → sp vs H Q E) : FnRG P w K mg base CX k f sp' := fun A outer s H us vs Q E room gd e0 r want => F A outer s H us vs Q E room gd e0 r (h _ _ _ _ want)
theorem starG {name qual : Str} {params : Arguments} {body : List Stmt} {scope : Scope} {dV kV doc pm cdv ct oc : Value} {an od : Option Addr} {osl : Array (Option Value)} {N ps : List Str} {pv : Str}
    (look : K.lookup f = some ⟨oc, od, .func (PySem.W.fnOf name qual params body scope dV kV doc pm an cdv ct), osl⟩) (code : PySem.W.codeIn K cdv qual = true) (S : FnScope N (ps ++ [pv]) scope) (ups : StX.CXUp CX)
    (binds : ∀ us rest : List Value, us.length = ps.length → bindArgs (PySem.W.fnOf name qual params body scope dV kV doc pm an cdv ct) ⟨us ++ rest, []⟩ = (newTuple rest >>= fun t => pure (ps.zip us ++ [(pv, t)])))
    (reads : ∀ (A : Around) (outer : List Env) (s : Shared) (H : Hp) (vs : List V) (Q : VK) (E : XK), Room k (A.deeper (envOfC qual scope s.heap.objs.size f cdv)) → A.guards = some [] → sp vs H Q E →
      ∃ t, PSs (cxOf CX P w K mg base N qual scope f cdv A outer s H E) body t ∧ t { nx := fun _ H' => Q .non H', rt := Q } (start N vs) H) :
    FnRG P w K mg base CX (k + 1) f (fun vs H Q E => ∃ ws rest, vs = ws ++ rest ∧ ws.length = ps.length ∧ rest.length ≤ sizeLine ∧ ∀ p, H p = none → sp (ws ++ [V.ref p]) (upd H p (.tup rest)) Q E) := by
  rintro A outer s H us vs Q E room gd e0 rel ⟨ws, rest, rfl, same, few, want⟩
  obtain ⟨u1, u2, rfl, r1, r2⟩ := StX.vals_split rel
  have free : H s.heap.objs.size = none := e0.hok.fresh (Nat.le_refl _)
  have n1 : u1.length = ps.length := by rw [← r1.length]; exact same
  have n2 : u2.length ≤ sizeLine := by rw [← r2.length]; exact few
  refine StX.run_bnd look code S room e0 (G := fun xs G => ∃ p, H p = none ∧ xs = ws ++ [V.ref p] ∧ G = upd H p (.tup rest)) (fun A' Ex Q' h => ?_) ?_
  · rw [binds u1 u2 n1]
    refine wpAny_bind (wpAny_newTuple (wpAny_pure ?_) n2)
    have made : ObjOk P w (upd H s.heap.objs.size (.tup rest)) (s.heap.push ({ cls := .type "tuple", data := .seq u2.toArray } : Obj)) s.heap.objs.size (.tup rest) := ⟨few, u2, r2, ⟨_, Heap.get?_push_size _ rfl, rfl, _, rfl⟩⟩
    have since := StX.un_laid (fs := frs outer) (s := s) (o := ({ cls := .type "tuple", data := .seq u2.toArray } : Obj)) (u := .tup rest) free
    have got := h _ _ (ws ++ [V.ref s.heap.objs.size]) (u1 ++ [Value.ref s.heap.objs.size]) (StX.env0_laid e0 made) since rfl (fun e s' => ups outer s H _ _ E e s' since (fun b o q => Heap.get?_push_of_some _ q) rfl) (r1.append (.cons rfl .nil))
      (by rw [List.length_append, List.length_append, same] <;> rfl) ⟨_, free, rfl, rfl⟩
    rw [List.zip_append n1.symm] at got
    exact got
  · rintro s2 H2 xs ⟨p, hp, rfl, rfl⟩ room1
    exact reads A outer s2 _ _ Q E room1 gd (want p hp)
end
section
variable {X : Cx}
def tCallS (sp : Sp) (E : XK) (t : TA) : TE := fun σ H Q => t σ H fun vs H1 => sp vs H1 Q E
theorem pe_callS {CX : CXT} {k : Nat} {f : Addr} {sp : Sp} {E : XK} {x : Str} {e : Expr} {es : List Expr} {t : TA} {p pos : Pos} (F : FnRG X.prog X.w X.K X.mg X.base CX k f sp) (room : Room k X.A) (gd : X.A.guards = some []) (isG : Gl X x) (at_ : X.mg x = some (.ref f)) (kp : PySem.W.keepIn X.K (.ref f) = true) (pass : Passes CX X E)
    (args : PA X (e :: es) t) (n0 : (x == ("__debug__" : Str)) = false := by decide) (star : starEach (e :: es) X.env = (false, eval e X.env) :: starEach es X.env := by rfl) (plain : (backTo pos (starEach es X.env)).any (·.1) = false := by rfl) :
    PE X (.Call (.Name x p) (e :: es) [] pos) (tCallS sp E t) := by
  constructor
  intro pins s σ H Q I want
  refine wpAny_Call_Name_kw (ld_glob I isG at_ ?_ n0)
  refine PySem.W.callWith_K (h₀ := X.base) I.ok.mod.kin kp (thn (args.run pos pins s σ H _ I want) ?_) star plain
  rintro us s1 ⟨vs, H1, I1, rel, q⟩
  refine ⟨I1.kIn, wpAny_call (codeAny_mono (F X.A X.stack s1 H1 us vs Q E room gd I1.env0 rel q) fun r s2 got => ?_)⟩
  rcases r with er | fin
  · exact pass pins σ H1 s1 er s2 I1 got
  · cases fin with
    | ret u => exact I1.after got
    | next => exact got.elim
    | brk => exact got.elim
    | cont => exact got.elim
end
end Gd
/-! dies_without of any values -/
namespace Sn
open PySem PySem.Spec PyProof.Rows L2 Evl Gd Ex
def lnkD (g : Arc) : PyData := .tuple (g.link.map kD)
/-- a link of the snapshot whose sources are alive -/
def GoodS (s : Shot) (e : PyData) : Prop := ∃ g ∈ arcsOf s, e = lnkD g ∧ ∀ m ∈ g.src, Live (arcsOf s) m
theorem lnk_of {K : PySem.W.Frag} {D : Addr → Prop} {H : Hp} : ∀ {gs : List Arc} {ys : List V}, AvAll K D H ys (gs.map lnkD) → Paired (LnkA H) ys gs
  | [], _, h => by
    rw [h.inv_nil]
    exact .nil
  | g :: gs, _, h => by
    obtain ⟨y, ys, rfl, h1, h2⟩ := AvAll.inv_cons h
    obtain ⟨l, zs, rfl, _, hl, hz⟩ := h1.inv_tupP
    rw [hz.inv_keys] at hl
    exact .cons ⟨l, rfl, hl⟩ (lnk_of h2)
theorem goods_ex {s : Shot} : ∀ {es : List PyData}, (∀ e ∈ es, GoodS s e) → ∃ gs : List Arc, es = gs.map lnkD ∧ ∀ g ∈ gs, g ∈ arcsOf s ∧ ∀ m ∈ g.src, Live (arcsOf s) m
  | [], _ => ⟨[], rfl, fun _ h => absurd h List.not_mem_nil⟩
  | e :: es, h => by
    obtain ⟨g, hg, rfl, sg⟩ := h e List.mem_cons_self
    obtain ⟨gs, rfl, k⟩ := goods_ex fun e' m => h e' (List.mem_cons_of_mem _ m)
    refine ⟨g :: gs, rfl, fun g' m => ?_⟩
    rcases List.mem_cons.mp m with rfl | m
    · exact ⟨hg, sg⟩
    · exact k g' m
/-- what comes of it -/
def DwoA (CL : Addr) (H : Hp) (s : Shot) (ys : List V) (es : List PyData) (Q : VK) (E : XK) : Prop :=
  (∀ gs : List Arc, es = gs.map lnkD → (∀ g ∈ gs, g ∈ arcsOf s ∧ ∀ m ∈ g.src, Live (arcsOf s) m) → ∀ (H' : Hp) (t : Addr) (ns : List Int), Ex H H' → H' t = some (.tup (ns.map V.int)) → ns.Pairwise (· < ·) → (∀ n, n ∈ ns ↔ Live (arcsOf s) n ∧ ¬ Live (keptA (gs.map Arc.link) (arcsOf s)) n) → Q (.ref t) H') ∧
  ∀ (i : Nat) (y : V) (e : PyData), ys[i]? = some y → es[i]? = some e → ¬ GoodS s e → (∀ j e', j < i → es[j]? = some e' → GoodS s e') → ∀ H' dd, Ex H H' → H' dd = some (.xd [("value", y)]) → E (.ref CL) (some dd) H'
theorem DwoA.ex {CL : Addr} {H H1 : Hp} {s : Shot} {ys : List V} {es : List PyData} {Q : VK} {E : XK} (h : DwoA CL H s ys es Q E) (e : Ex H H1) : DwoA CL H1 s ys es Q E :=
  ⟨fun gs a b H' t ns e1 c d f => h.1 gs a b H' t ns (e.trans e1) c d f, fun i y e0 a b c d H' dd e1 f => h.2 i y e0 a b c d H' dd (e.trans e1) f⟩
def spDwoA (K : PySem.W.Frag) (CL : Addr) : Sp := fun vs H Q E => ∃ (x : V) (s : Shot) (D : Addr → Prop) (ys : List V) (es : List PyData), vs = x :: ys ∧ TdS K H x s ∧ okShot s ∧ ((arcsOf s).map Arc.link).Nodup ∧ AvAll K D H ys es ∧ es.length ≤ 1000 ∧ (∀ e ∈ es, Shw e) ∧ DwoA CL H s ys es Q E
def spDwoAB (K : PySem.W.Frag) (CL : Addr) : Sp := fun vs H Q E => ∃ (x : V) (p : Addr) (s : Shot) (D : Addr → Prop) (ys : List V) (es : List PyData), vs = [x, .ref p] ∧ H p = some (.tup ys) ∧ TdS K H x s ∧ okShot s ∧ ((arcsOf s).map Arc.link).Nodup ∧ AvAll K D H ys es ∧ es.length ≤ 1000 ∧ (∀ e ∈ es, Shw e) ∧ DwoA CL H s ys es Q E
section
variable {P : Program} {w : World} {K : PySem.W.Frag} {mg : Str → Option Value} {base : Heap}
theorem ok_dwoA {f fE fN fL fM fW C CL : Addr} {fd fdE fdN fdL fdM fdW : FuncData} (F : Fun K "dies_without" "dies_without" sDwo f fd) (AE : Df K mg "need_links" sNeedL ["net", "alive", "values"] fE fdE) (AN : Df K mg "net_of" sNetOf ["snapshot"] fN fdN) (AL : Df K mg "lost" sLost ["met", "left"] fL fdL) (AM : Mf K C "met" "Net.met" sMet ["self", "barred"] fM fdM) (AW : Mf K C "without" "Net.without" sWout ["self", "links"] fW fdW) (N : NetD P w K mg base C)
    (GE : FnG P w K mg base (L2.CX P w) 3 fE fdE ["net", "alive", "values"] (spNeedLA K C CL)) (mL : mg "len" = none) (mT : mg "tuple" = none) (mO : mg "sorted" = none) (mD : mg "dict" = none) : FnRG P w K mg base (L2.CX P w) 4 f (spDwoA K CL) := by
  have GN : FnOk P w K mg base CX0 3 fN fdN ["snapshot"] (spNetOf K C) := ok_netof AN.F N
  have GL : FnOk P w K mg base CX0 3 fL fdL ["met", "left"] (spLost K) := (ok_lost AL.F mT mO).mono (by decide)
  have GM : FnOk P w K mg base CX0 3 fM fdM ["self", "barred"] (spMet K C) := (ok_met AM.F N.T mL).mono (by decide)
  have GW : FnOk P w K mg base CX0 3 fW fdW ["self", "links"] (spWout K C) := ok_wout AW.F N mD
  obtain ⟨oc, od, kV, doc, pm, an, cdv, ct, osl, rfl, lk, hcd⟩ := F.ex
  refine FnRG.imp (starG (ps := ["snapshot"]) (pv := "given") (k := 3) (sp := spDwoAB K CL) lk hcd scDwo StX.cxUp (fun us rest hl => match us, rest, hl with | [_], [], _ => rfl | [_], _ :: _, _ => rfl) fun A outer s0 H vs Q E hr gd h => ?_) fun vs H Q E h => ?_
  · obtain ⟨x, p, s, D, ys, es, rfl, hp, ht, ok, lnd, av, gl, shw, q⟩ := h
    have hu := hu_of hr
    have tk : Takes (L2.cxOf (L2.CX P w) P w K mg base nDwo "dies_without" (defScope sDwo) f cdv A outer s0 H E) (fun cls d _ H => E cls d H) := takes_of rfl rfl rfl rfl
    have pass := passes_call (E := E) tk (fun _ _ _ _ h => h)
    refine ⟨_,
      pss_cons (ps_set (i := 2) scDwo.nd rfl (.inl rfl) (pe_call GN hr (by rfl) AN.g AN.F.kp AN.b .nil pass0 (pa_cons (pv 0) pa_nil))) <|
      pss_cons (ps_set (i := 3) scDwo.nd rfl (.inl rfl) (pe_meth (pv 2) N.T.cl AM.m GM hr AM.b .nil pass0 (pa_cons pe_dnewK pa_nil))) <|
      pss_cons (ps_expr (pe_callG GE hr gd (by rfl) AE.g AE.F.kp AE.b .nil pass (pa_cons (pv 2) <| pa_cons (pv 3) <| pa_cons (pv 1) pa_nil))) <|
      pss_one (ps_ret (pe_call GL hr (by rfl) AL.g AL.F.kp AL.b .nil pass0 (pa_cons (pv 3) <| pa_cons (pe_meth (pe_meth (pv 2) N.T.cl AW.m GW hr AW.b .nil pass0 (pa_cons (pv 1) pa_nil)) N.T.cl AM.m GM hr AM.b .nil pass0 (pa_cons pe_dnewK pa_nil)) pa_nil))), ?_⟩
    refine seq_of (asg_of (call_of (c_of (v_of rfl (n_of ⟨x, s, rfl, ht.td, ok, fun H1 pn e1 ⟨hN, hPl⟩ => ?_⟩)))))
    have hPl := hPl ht
    obtain ⟨dx, ra, rs, d, kvs, hpn, _⟩ := id hN
    dsimp only
    refine seq_of (asg_of (meth_of (v_of rfl ⟨pn, dx, _, rfl, hpn, nf_no _ _ (by decide +kernel) (by decide +kernel), c_of (newK_of fun b hb => n_of ?_)⟩)))
    have e3 : Ex H1 (upd H1 b (.dK [])) := Ex.new hb
    refine ⟨pn, b, netM s, [], [], rfl, hN.ex e3, ok.2.2, upd_same, fun n => rfl, fun H3 q1 met1 e4 hq10 hq1 nd1 iff1 ml1 => ?_⟩
    have e34 := e3.trans e4
    have e03 := e1.trans e34
    have iffM : ∀ n, n ∈ met1 ↔ Live (arcsOf s) n := fun n => by
      rw [iff1 n, filter_none, net_arcs]
    have hq0 : H q1 = none := fresh_back (e1.trans e3) hq10
    have good : ∀ e, GoodL (netArcs (netM s)) met1 e ↔ GoodS s e := fun e => by
      unfold GoodL GoodS
      rw [net_arcs]
      exact ⟨fun ⟨g, a, b, c⟩ => ⟨g, a, b, fun m h => (iffM m).mp (c m h)⟩, fun ⟨g, a, b, c⟩ => ⟨g, a, b, fun m h => (iffM m).mpr (c m h)⟩⟩
    dsimp only
    refine seq_of (drop_of (call_of (c_of (v_of rfl (c_of (v_of rfl (c_of (v_of rfl (n_of ⟨pn, q1, p, netM s, met1, D, ys, es, rfl, hPl.ex e34, ok.2.2, by rw [net_arcs]; exact lnd, hq1, st_of (e03 _ _ hp), av.ex e03, shw, fun all H4 e5 => ?_, fun i y e a b c d H' dd e5 hd => q.2 i y e a b (fun z => c ((good e).mpr z)) (fun j e' l m => (good e').mp (d j e' l m)) H' dd (e03.trans e5) hd⟩)))))))))
    obtain ⟨gs, rfl, hg⟩ := goods_ex fun e he => (good e).mp (all e he)
    have prs : Paired (LnkA H) ys gs := lnk_of av
    have gnet : ∀ g ∈ gs, g ∈ netArcs (netM s) := fun g h => by
      rw [net_arcs]
      exact (hg g h).1
    have gl' : gs.length ≤ 1000 := by
      rw [List.length_map] at gl
      exact gl
    have e35 := e34.trans e5
    have e04 := e03.trans e5
    dsimp only
    refine ret_of (call_of (c_of (v_of rfl (c_of ?_))))
    refine meth_of (meth_of (v_of rfl ⟨pn, dx, _, rfl, e35 _ _ hpn, nf_no _ _ (by decide +kernel) (by decide +kernel), c_of (v_of rfl (n_of ⟨pn, p, netM s, ys, gs, rfl, hN.ex e35, ok.2.2, st_of (e04 _ _ hp), L2.Paired.mapP prs fun _ _ z => z.ex e04, gl', gnet, fun H5 p5 e6 hN5 => ?_⟩))⟩))
    obtain ⟨dx5, ra5, rs5, d5, kv5, hp5, _⟩ := id hN5
    refine ⟨p5, dx5, _, rfl, hp5, nf_no _ _ (by decide +kernel) (by decide +kernel), c_of (newK_of fun b5 hb5 => n_of ?_)⟩
    have e7 : Ex H5 (upd H5 b5 (.dK [])) := Ex.new hb5
    have of : OfNet (netM s) (gs.map Arc.link) := fun l hl => by
      obtain ⟨g, h, e⟩ := List.mem_map.mp hl
      exact ⟨g, gnet g h, e⟩
    refine ⟨p5, b5, cutNet (gs.map Arc.link) (netM s), [], [], rfl, hN5.ex e7, cut_net_ok ok.2.2 of, upd_same, fun n => rfl, fun H6 q2 met2 e8 hq20 hq2 nd2 iff2 ml2 => ?_⟩
    have e48 := (e6.trans e7).trans e8
    have n12 : q1 ≠ q2 := ne_of_none ((e5.trans (e6.trans e7)) _ _ hq1) hq20
    refine n_of ⟨q1, q2, met1, met2, rfl, n12, (e5.trans e48) _ _ hq1, hq2, nd1, ml1, fun H7 t ns ko ht0 ht1 asc iff => ?_⟩
    refine q.1 gs rfl hg H7 t ns (fun a o h => ko a o (ne_of_none h hq0) ((e04.trans e48) _ _ h)) ht1 asc fun n => ?_
    rw [iff n, iffM n, iff2 n, filter_none, cut_arcs ok.2.2 of, net_arcs]
  · obtain ⟨x, s, D, ys, es, rfl, ht, ok, lnd, av, gl, shw, q⟩ := h
    have yl := av.len
    refine ⟨[x], ys, rfl, rfl, by rw [sizeLine_eq]; omega, fun p hp => ?_⟩
    have e : Ex H (upd H p (.tup ys)) := Ex.new hp
    exact ⟨x, p, s, D, ys, es, rfl, upd_same, ht.ex e, ok, lnd, av.ex e, gl, shw, q.ex e⟩
end
end Sn
/-! _law_told of any values -/
namespace Sn
open PySem PySem.Spec PyProof.Rows L2 Evl Gd Ex
/-- a list == [] -/
def rEqL0 (K : PySem.W.Frag) : R2 := fun x y H Q => ∃ a b xs, x = .ref a ∧ y = .ref b ∧ SqL K H a xs ∧ SqL K H b [] ∧ Q (.bl (decide (xs = []))) H
theorem op_eqL0 {X : Cx} (hu : X.A.units < cLine) : OpR X (compareOp .Eq) (rEqL0 X.K) := by
  intro pins s σ H x y v u Q I rx ry h
  obtain ⟨a, b, xs, rfl, rfl, ha, hb, q⟩ := h
  cases (show v = Value.ref a from rx)
  cases (show u = Value.ref b from ry)
  obtain ⟨us, r1, h1, _⟩ := I.list ha
  obtain ⟨ws, r2, h2, _⟩ := I.list hb
  cases r2
  have len := r1.length
  cases xs with
  | nil =>
    cases r1
    rw [decide_eq_true rfl] at q
    exact SeqAt.RcAt.lists (e := fun _ => true) h1.isList h2.isList rfl hu (fun j j1 _ => absurd j1 (Nat.not_lt_zero _)) X.prog X.w _ _ ⟨.bl _, H, I, by simp; rfl, q⟩
  | cons z zs =>
    rw [decide_eq_false (by simp)] at q
    exact SeqAt.RcAt.lists_lengths h1.isList h2.isList (by
      rw [List.length_cons] at len
      have : us.toArray.size ≠ 0 := by rw [List.size_toArray]; omega
      simpa using this) hu X.prog X.w _ _ ⟨.bl _, H, I, rfl, q⟩
abbrev sTold : Stmt := topS 33
abbrev nTold : List Str := ["_law_shot_here", "_law_some"]
theorem scTold : FnScope nTold ["_law_shot_here", "_law_some"] (defScope sTold) := ⟨rfl, rfl, rfl, by decide +kernel, rfl, by decide +kernel, by decide +kernel⟩
def spToldA (K : PySem.W.Frag) (CL : Addr) : Sp := fun vs H Q E => ∃ (x : V) (l : Addr) (s : Shot) (D : Addr → Prop) (ys : List V) (es : List PyData), vs = [x, .ref l] ∧ H l = some (.lst ys) ∧ TdS K H x s ∧ okShot s ∧ ((arcsOf s).map Arc.link).Nodup ∧ AvAll K D H ys es ∧ es.length ≤ 3 ∧ (∀ e ∈ es, Shw e) ∧ DwoA CL H s ys es Q E
theorem len_ne {k : Nat} {j : Int} (h : (k : Int) ≠ j) : ¬ (decide (V.int (k : Int) = V.int j) = true) := fun e => h (V.int.inj (of_decide_eq_true e))
theorem len_eq {k : Nat} {j : Int} (h : (k : Int) = j) : decide (V.int (k : Int) = V.int j) = true := decide_eq_true (by rw [h])
theorem callS_of {sp : Sp} {E : XK} {t : TA} {σ : L2.St} {H : Hp} {Q : VK} (h : t σ H fun vs H1 => sp vs H1 Q E) : tCallS sp E t σ H Q := h
section
variable {P : Program} {w : World} {K : PySem.W.Frag} {mg : Str → Option Value} {base : Heap}
theorem ok_toldA {f fD CL : Addr} {fd fdD : FuncData} (F : Fun K "_law_told" "_law_told" sTold f fd) (FD : Fun K "dies_without" "dies_without" sDwo fD fdD) (gD : mg "dies_without" = some (.ref fD)) (mL : mg "len" = none)
    (GD' : FnRG P w K mg base (L2.CX P w) 4 fD (spDwoA K CL)) : FnG P w K mg base (L2.CX P w) 6 f fd ["_law_shot_here", "_law_some"] (spToldA K CL) := by
  have GD : FnRG P w K mg base (L2.CX P w) 5 fD (spDwoA K CL) := GD'.up (by decide)
  refine fng_of F scTold (fun vs H Q E h => ?_) (fun cdv A outer s0 H vs Q E hr gd h => ?_)
  · obtain ⟨x, l, s, D, ys, es, rfl, _⟩ := h
    rfl
  · obtain ⟨x, l, s, D, ys, es, rfl, hl, ht, ok, lnd, av, gl, shw, q⟩ := h
    have tk : Takes (L2.cxOf (L2.CX P w) P w K mg base nTold "_law_told" (defScope sTold) f cdv A outer s0 H E) (fun cls d _ H => E cls d H) := takes_of rfl rfl rfl rfl
    have pass := passes_call (E := E) tk (fun _ _ _ _ h => h)
    refine ⟨_, pss_cons (ps_if (pt_cmpR (op_eqL0 (Nat.lt_of_le_of_lt (Nat.le_add_right _ 64) hr.units)) (pv 1) (pe_lst pa_nil) (nomark _)) (pss_one (ps_ret (pe_callS GD hr gd (by rfl) gD FD.kp pass (pa_cons (pv 0) pa_nil)))) pss_nil) <|
      pss_cons (ps_if (pt_cmpR op_eq (pe_callB call_len_seq (by rfl) mL PySem.boot_len (pa_cons (pv 1) pa_nil)) pe_int (nomark _)) (pss_one (ps_ret (pe_callS GD hr gd (by rfl) gD FD.kp pass (pa_cons (pv 0) <| pa_cons (pe_ix ix_list (pv 1) pe_int (fun _ _ => rfl)) pa_nil)))) pss_nil) <|
      pss_one (ps_ret (pe_ifExp (pt_cmpR op_eq (pe_callB call_len_seq (by rfl) mL PySem.boot_len (pa_cons (pv 1) pa_nil)) pe_int (nomark _))
        (pe_callS GD hr gd (by rfl) gD FD.kp pass (pa_cons (pv 0) <| pa_cons (pe_ix ix_list (pv 1) pe_int (fun _ _ => rfl)) <| pa_cons (pe_ix ix_list (pv 1) pe_int (fun _ _ => rfl)) pa_nil))
        (pe_callS GD hr gd (by rfl) gD FD.kp pass (pa_cons (pv 0) <| pa_cons (pe_ix ix_list (pv 1) pe_int (fun _ _ => rfl)) <| pa_cons (pe_ix ix_list (pv 1) pe_int (fun _ _ => rfl)) <| pa_cons (pe_ix ix_list (pv 1) pe_int (fun _ _ => rfl)) pa_nil)))), ?_⟩
    have yl := av.len
    refine seq_of (ifS_of (test_of (op_of (v_of rfl (lst_of (n_of ⟨Nat.zero_le _, fun e he => ⟨l, e, ys, rfl, rfl, sq_of (Ex.new he _ _ hl), sq_of upd_same, _, rfl, ?_⟩⟩))))))
    have eN : Ex H (upd H e (.lst [])) := Ex.new he
    have lN := eN _ _ hl
    generalize upd H e (.lst []) = HN at eN lN ⊢
    have fin : ∀ H2, Ex H H2 → spDwoA K CL (x :: ys) H2 Q E := fun H2 e2 => ⟨x, s, D, ys, es, rfl, ht.ex e2, ok, lnd, av.ex e2, by omega, shw, q.ex e2⟩
    have ix : ∀ (j : Nat) (v : V) {H2 : Hp} {Q' : VK} {σ : L2.St}, Ex H H2 → ys[j]? = some v → σ[1]? = some (some (.ref l)) → Q' v H2 → tOp (rIxL K) (tVar 1) (tC (.int (j : Int))) σ H2 Q' := fun j v {H2 Q' σ} e2 hv h1 hq => op_of (v_of h1 (k_of ⟨l, ys, (j : Int), v, rfl, rfl, sq_of (e2 _ _ hl), atI_nat hv, hq⟩))
    have y3 : ys.length ≤ 3 := by omega
    clear av q yl
    match ys, y3, fin, ix, lN with
    | [], _, fin, ix, lN =>
      rw [decide_eq_true rfl, if_pos rfl]
      exact ret_of (callS_of (c_of (v_of rfl (n_of (fin HN eN)))))
    | [a], _, fin, ix, lN =>
      rw [decide_eq_false (by simp), if_neg Bool.false_ne_true]
      dsimp only [tNext]
      refine seq_of (ifS_of (test_of (op_of (ev_len (ev_var rfl) (sq_of lN) HN (Ex.refl HN) _ fun H2 e2 => k_of ⟨rfl, _, rfl, ?_⟩))))
      rw [if_pos (len_eq (by rfl))]
      exact ret_of (callS_of (c_of (v_of rfl (c_of (ix 0 a (eN.trans e2) rfl rfl (n_of (fin H2 (eN.trans e2))))))))
    | [a, b], _, fin, ix, lN =>
      rw [decide_eq_false (by simp), if_neg Bool.false_ne_true]
      dsimp only [tNext]
      refine seq_of (ifS_of (test_of (op_of (ev_len (ev_var rfl) (sq_of lN) HN (Ex.refl HN) _ fun H2 e2 => k_of ⟨rfl, _, rfl, ?_⟩))))
      rw [if_neg (len_ne (by show ((2 : Nat) : Int) ≠ 1; decide))]
      refine ret_of (if_of (test_of (op_of (ev_len (ev_var rfl) (sq_of (e2 _ _ lN)) H2 (Ex.refl H2) _ fun H3 e3 => k_of ⟨rfl, _, rfl, ?_⟩))))
      rw [if_pos (len_eq (by rfl))]
      have e4 := (eN.trans e2).trans e3
      exact callS_of (c_of (v_of rfl (c_of (ix 0 a e4 rfl rfl (c_of (ix 1 b e4 rfl rfl (n_of (fin H3 e4))))))))
    | [a, b, c], _, fin, ix, lN =>
      rw [decide_eq_false (by simp), if_neg Bool.false_ne_true]
      dsimp only [tNext]
      refine seq_of (ifS_of (test_of (op_of (ev_len (ev_var rfl) (sq_of lN) HN (Ex.refl HN) _ fun H2 e2 => k_of ⟨rfl, _, rfl, ?_⟩))))
      rw [if_neg (len_ne (by show ((3 : Nat) : Int) ≠ 1; decide))]
      refine ret_of (if_of (test_of (op_of (ev_len (ev_var rfl) (sq_of (e2 _ _ lN)) H2 (Ex.refl H2) _ fun H3 e3 => k_of ⟨rfl, _, rfl, ?_⟩))))
      rw [if_neg (len_ne (by show ((3 : Nat) : Int) ≠ 2; decide))]
      have e4 := (eN.trans e2).trans e3
      exact callS_of (c_of (v_of rfl (c_of (ix 0 a e4 rfl rfl (c_of (ix 1 b e4 rfl rfl (c_of (ix 2 c e4 rfl rfl (n_of (fin H3 e4))))))))))
    | _ :: _ :: _ :: _ :: _, h4, _, _, _ => exact absurd h4 (by show ¬ (_ + 1 + 1 + 1 + 1 ≤ 3); omega)
end
end Sn
namespace Sn
open PySem PySem.Spec PyProof.Rows L2 Evl Gd
abbrev sSource : Stmt := topS 20
abbrev sTake : Stmt := topS 21
abbrev sOf : Stmt := topS 22
abbrev nSource : List Str := ["_law_script", "_law_k", "_law_cell", "_law_own"]
abbrev nTake : List Str := ["_law_box_here", "_law_many", "_law_digit", "_law_mixed"]
abbrev nOf : List Str := ["_law_box_here", "_law_some"]
theorem scSource : FnScope nSource ["_law_script", "_law_k"] (defScope sSource) := ⟨rfl, rfl, rfl, by decide +kernel, rfl, by decide +kernel, by decide +kernel⟩
theorem scTake : FnScope nTake ["_law_box_here", "_law_many"] (defScope sTake) := ⟨rfl, rfl, rfl, by decide +kernel, rfl, by decide +kernel, by decide +kernel⟩
theorem scOf : FnScope nOf ["_law_box_here", "_law_some"] (defScope sOf) := ⟨rfl, rfl, rfl, by decide +kernel, rfl, by decide +kernel, by decide +kernel⟩
def CPowW (i j : Int) : Prop := 0 ≤ j ∧ (Builtin.Int.intBits i : Int) * j ≤ bitsLine
theorem op_powW {X : Cx} : OpR X (binaryOp .Pow) (rI CPowW fun i j => .int (i ^ j.toNat)) := opI fun _ _ _ _ _ _ _ hc q => pow_int hc.1 hc.2 q
def big : Int := 1000000000000000000000000000000000000000000000000000000000000 ^ 4
/-- the pot of draws: at most n draws so far -/
def Pot (H : Hp) (d : Addr) (n : Int) : Prop := ∃ g b m : Int, H d = some (.lst [.int g, .int b, .int m]) ∧ 0 ≤ g ∧ g < big ∧ 0 ≤ b ∧ b < 2305843009213693952 ∧ 0 ≤ m ∧ m ≤ n
theorem Pot.up {H : Hp} {d : Addr} {n k : Int} (h : Pot H d n) (e : n ≤ k) : Pot H d k := by
  obtain ⟨g, b, m, h0, h1, h2, h3, h4, h5, h6⟩ := h
  exact ⟨g, b, m, h0, h1, h2, h3, h4, h5, by omega⟩
theorem Pot.ex {H H' : Hp} {d : Addr} {n : Int} (e : Evl.Ex H H') (h : Pot H d n) : Pot H' d n := by
  obtain ⟨g, b, m, h0, h⟩ := h
  exact ⟨g, b, m, e d _ h0, h⟩
/-- all but the pot stays -/
def Off (d : Addr) (H H' : Hp) : Prop := ∀ a o, a ≠ d → H a = some o → H' a = some o
theorem Off.refl (d : Addr) (H : Hp) : Off d H H := fun _ _ _ h => h
theorem Off.of {d : Addr} {H H' : Hp} (e : Evl.Ex H H') : Off d H H' := fun a o _ h => e a o h
theorem Off.trans {d : Addr} {H H1 H2 : Hp} (a : Off d H H1) (b : Off d H1 H2) : Off d H H2 := fun x o n h => b x o n (a x o n h)
theorem Off.upd {d : Addr} {H H' : Hp} {o : HO} (e : Off d H H') : Off d H (upd H' d o) := fun a u n h => by
  rw [upd_ne n]
  exact e a u n h
theorem if_set {D : Ends} {t : TT} {te : TE} {tl : TS} {i : Nat} {σ : L2.St} {H : Hp} {b : Bool} {Pv : V → Prop} (h : EvT t σ H b) (v1 : b = true → ∃ v, Pv v ∧ ∀ H1, Ex H H1 → Ev te σ H1 v) (v2 : b = false → ∃ v, Pv v ∧ σ = σ.set i (some v)) (k : ∀ v H2, Pv v → Ex H H2 → tl D (σ.set i (some v)) H2) : tSeq (tIfS t (tAsg te (gName i)) tNext) tl D σ H := by
  refine q_if h (fun hb H1 e1 => ?_) (fun hb H1 e1 => ?_)
  · obtain ⟨v, pv, ev⟩ := v1 hb
    exact s_asg (i := i) (v := v) (ev H1 e1) fun H2 e2 => k v H2 pv (e1.trans e2)
  · obtain ⟨v, pv, es⟩ := v2 hb
    show tl D σ H1
    rw [es]
    exact k v H1 pv e1
def spSource (K : PySem.W.Frag) : Sp := fun vs H Q _ => ∃ (a : Addr) (ns : List Int) (k : Int), vs = [.ref a, .int k] ∧ SqL K H a (ns.map V.int) ∧ ns.length ≤ 63 ∧ 0 ≤ k ∧ k ≤ 2 ∧
  ∀ H' d, Evl.Ex H H' → H d = none → Pot H' d 0 → Q (.ref d) H'
def spTake : Sp := fun vs H Q _ => ∃ (d : Addr) (n many : Int), vs = [.ref d, .int many] ∧ Pot H d n ∧ n ≤ 1000000 ∧ 0 < many ∧ many ≤ 1000000000000 ∧
  ∀ H' r, Off d H H' → Pot H' d (n + 1) → 0 ≤ r → r < many → Q (.int r) H'
section
variable {P : Program} {w : World} {K : PySem.W.Frag} {mg : Str → Option Value} {base : Heap}
theorem ok_source {f : Addr} {fd : FuncData} (F : Fun K "_law_box" "_law_box" sSource f fd) (mL : mg "len" = none) (mA : mg "abs" = none) (mI : mg "int" = none) : FnOk P w K mg base CX0 1 f fd ["_law_script", "_law_k"] (spSource K) := by
  refine F.ok scSource (fun vs H Q E h => ?_) (fun cdv A outer s H vs Q E hr h => ?_)
  · obtain ⟨a, ns, k, rfl, _⟩ := h
    rfl
  · obtain ⟨a, ns, k, rfl, hS, hz, h0, h2, q⟩ := h
    refine ⟨_, pss_cons (ps_set (i := 2) scSource.nd rfl (.inl rfl) (pe_op op_add (pe_op op_mul pe_int (pv 1)) pe_int))
      (pss_cons (ps_if (pt_cmpR op_lt (pv 1) (pe_callB call_len_seq (by rfl) mL PySem.boot_len (pa_cons (pv 0) pa_nil)) (nomark _)) (pss_one (ps_set (i := 2) scSource.nd rfl (.inl rfl) (pe_ix ix_list (pv 0) (pv 1) (fun _ _ => rfl)))) pss_nil)
      (pss_cons (ps_set (i := 3) scSource.nd rfl (.inl rfl) (pe_op op_mul (pe_op op_mod (pe_callB call_abs (by rfl) mA (by decide +kernel) (pa_cons (pv 2) pa_nil)) (pe_op op_powW (pe_op op_pow pe_int pe_int) pe_int))
          (pe_callTy call_int1 (by rfl) mI (by decide +kernel) (pa_cons (pe_cmpR op_ge (pe_callB call_abs (by rfl) mA (by decide +kernel) (pa_cons (pv 2) pa_nil)) (pe_op op_pow pe_int pe_int) (nomark _)) pa_nil))))
      (pss_one (ps_ret (pe_lst (pa_cons (pv 3) (pa_cons (pe_op op_mod (pe_op op_add (pe_op op_add (pe_op op_mul (pe_op op_mod (pv 2) pe_int) pe_int) (pe_op op_mul (pe_op op_mul pe_int (pv 1)) (pv 1))) pe_int) pe_int) (pa_cons pe_int pa_nil)))))))), ?_⟩
    refine st_seq (s_asg (i := 2) (v := .int (29 * k + 5)) (ev_op (ev_op ev_c (ev_var rfl) (rv_I (.inl ⟨by decide, by decide⟩))) ev_c rv_I0) fun H0 e0 => ?_)
    dsimp only
    refine if_set (b := decide (k < ((ns.map V.int).length : Int))) (Pv := fun v => ∃ c, v = V.int c) (et_test (ev_op (ev_var rfl) (ev_len (ev_var rfl) (ex_l e0 hS)) rv_I0)) (fun hb => ?_) (fun hb => ⟨_, ⟨_, rfl⟩, rfl⟩) (fun v H1 pv e01 => ?_)
    · have hk : k < ((ns.map V.int).length : Int) := of_decide_eq_true hb
      rw [List.length_map] at hk
      have hk2 : k.toNat < ns.length := by omega
      refine ⟨V.int ns[k.toNat], ⟨_, rfl⟩, fun H1 e1 => ev_op (ev_var rfl) (ev_var rfl) (rv_ixL (ex_l (e0.trans e1) hS) ?_)⟩
      have e9 := atI_nat (xs := ns.map V.int) (j := k.toNat) (v := V.int ns[k.toNat]) (by
        rw [List.getElem?_map, List.getElem?_eq_getElem hk2]
        rfl)
      rw [Int.toNat_of_nonneg h0] at e9
      exact e9
    obtain ⟨c, rfl⟩ := pv
    have e1 := e0.trans e01
    have evAbs : ∀ H2 : Hp, Ev (tCB (fun xs H Q => ∃ i, xs = [V.int i] ∧ Q (.int (if i < 0 then -i else i)) H) (tCons (tVar 2) tNil)) ((L2.start nSource [V.ref a, V.int k]).set 2 (some (.int c))) H2 (.int (if c < 0 then -c else c)) :=
      fun H2 => ev_cb (ea_cons (ev_var rfl) ea_nil) fun H3 _ Q q => ⟨c, rfl, q H3 (Ex.refl H3)⟩
    let g : Int := (if c < 0 then -c else c) % big * (if decide ((10 : Int) ^ (18 : Int).toNat ≤ (if c < 0 then -c else c)) = true then 1 else 0)
    have hbig : (0 : Int) < big := by decide +kernel
    have hg : 0 ≤ g ∧ g < big := by
      have h1 := Int.emod_nonneg (if c < 0 then -c else c) (b := big) (by omega)
      have h2 := Int.emod_lt_of_pos (if c < 0 then -c else c) hbig
      show 0 ≤ _ * _ ∧ _ * _ < big
      generalize decide ((10 : Int) ^ (18 : Int).toNat ≤ (if c < 0 then -c else c)) = z
      cases z
      · rw [if_neg Bool.false_ne_true, Int.mul_zero]
        omega
      · rw [if_pos rfl, Int.mul_one]
        exact ⟨h1, h2⟩
    refine st_seq (s_asg (i := 3) (v := .int g) (ev_op (ev_op (evAbs H1) (ev_op (ev_op ev_c ev_c (rv_I ⟨by decide, by decide, by decide⟩)) ev_c (rv_I ⟨by decide +kernel, by decide +kernel⟩)) (rv_I (by decide +kernel))) (ev_cb (ea_cons (ev_op (evAbs H1) (ev_op ev_c ev_c (rv_I ⟨by decide, by decide, by decide⟩)) rv_I0) ea_nil) fun H3 _ Q q => .inr ⟨_, rfl, q H3 (Ex.refl H3)⟩) (rv_I (.inr ?_))) fun H2 e2 => ?_)
    · generalize decide ((10 : Int) ^ (18 : Int).toNat ≤ (if c < 0 then -c else c)) = z
      cases z <;> decide
    clear_value g
    dsimp only
    let b : Int := (c % 2305843009213693951 * 60169 + 7349 * k * k + 83) % 2305843009213693921
    have hb1 := Int.emod_nonneg (c % 2305843009213693951 * 60169 + 7349 * k * k + 83) (b := 2305843009213693921) (by decide)
    have hb2 := Int.emod_lt_of_pos (c % 2305843009213693951 * 60169 + 7349 * k * k + 83) (b := 2305843009213693921) (by decide)
    refine s_retL (xs := [.int g, .int b, .int 0]) (el_lst (ea_cons (ev_var rfl) (ea_cons (ev_op (ev_op (ev_op (ev_op (ev_op (ev_var rfl) ev_c (rv_I (by decide))) ev_c (rv_I (.inr ⟨by decide, by decide⟩))) (ev_op (ev_op ev_c (ev_var rfl) (rv_I (.inl ⟨by decide, by decide⟩))) (ev_var rfl) (rv_I (.inr ⟨by omega, by omega⟩))) rv_I0) ev_c rv_I0) ev_c (rv_I (by decide))) (ea_cons ev_c ea_nil))) (by show 3 ≤ 100000; decide)) fun p H3 hp e3 h3 => ?_
    exact q H3 p ((e1.trans e2).trans e3) (fresh_back (e1.trans e2) hp) ⟨g, b, 0, h3, hg.1, hg.2, hb1, by omega, Int.le_refl 0, Int.le_refl 0⟩
theorem ok_take {f : Addr} {fd : FuncData} (F : Fun K "_law_take" "_law_take" sTake f fd) : FnOk P w K mg base CX0 1 f fd ["_law_box_here", "_law_many"] spTake := by
  refine F.ok scTake (fun vs H Q E h => ?_) (fun cdv A outer s H vs Q E hr h => ?_)
  · obtain ⟨a, n, k, rfl, _⟩ := h
    rfl
  · obtain ⟨d, n, many, rfl, hP, hn, h0, h1, q⟩ := h
    refine ⟨_, pss_cons (ps_if (pt_cmpR op_gt (pe_ix ix_list (pv 0) pe_int (fun _ _ => rfl)) pe_int (nomark _))
        (pss_cons (ps_set (i := 2) scTake.nd rfl (.inl rfl) (pe_op op_mod (pe_ix ix_list (pv 0) pe_int (fun _ _ => rfl)) (pv 1)))
        (pss_cons (ps_asg (pe_op op_fdivW (pe_ix ix_list (pv 0) pe_int (fun _ _ => rfl)) (pv 1)) (pg_sub (pv 0) pe_int set_list))
        (pss_one (ps_ret (pv 2))))) pss_nil)
      (pss_cons (ps_asg (pe_op op_add (pe_ix ix_list (pv 0) pe_int (fun _ _ => rfl)) pe_int) (pg_sub (pv 0) pe_int set_list))
      (pss_cons (ps_set (i := 3) scTake.nd rfl (.inl rfl) (pe_op op_mod (pe_op op_mul (pe_op op_add (pe_op op_add (pe_ix ix_list (pv 0) pe_int (fun _ _ => rfl)) (pe_op op_mul (pe_op op_mul pe_int (pe_ix ix_list (pv 0) pe_int (fun _ _ => rfl))) (pe_ix ix_list (pv 0) pe_int (fun _ _ => rfl)))) pe_int) pe_int) pe_int))
      (pss_cons (ps_set (i := 3) scTake.nd rfl (.inl rfl) (pe_op op_mod (pe_op op_mul (pv 3) (pe_op op_add (pe_op op_add (pe_op op_mod (pv 3) pe_int) (pe_op op_mul pe_int (pe_ix ix_list (pv 0) pe_int (fun _ _ => rfl)))) pe_int)) pe_int))
      (pss_one (ps_ret (pe_op op_mod (pe_op op_add (pe_op op_fdiv (pv 3) pe_int) (pe_op op_fdiv (pv 3) pe_int)) (pv 1))))))), ?_⟩
    obtain ⟨g, b, m, hd, hg0, hg1, hb0, hb1, hm0, hm1⟩ := hP
    have at0 : ∀ x y z : Int, atI [V.int x, .int y, .int z] 0 = some (.int x) := fun x y z => atI_nat (j := 0) rfl
    have at1 : ∀ x y z : Int, atI [V.int x, .int y, .int z] 1 = some (.int y) := fun x y z => atI_nat (j := 1) rfl
    have at2 : ∀ x y z : Int, atI [V.int x, .int y, .int z] 2 = some (.int z) := fun x y z => atI_nat (j := 2) rfl
    refine s_if (b := decide (0 < g)) (et_test (ev_op (ev_op (ev_var rfl) ev_c (rv_ixL (sq_of hd) (at0 _ _ _))) ev_c rv_I0)) (fun hb H1 e1 => ?_) (fun hb H1 e1 => ?_)
    · have hg : 0 < g := of_decide_eq_true hb
      have d1 := e1 d _ hd
      refine st_seq (s_asg (i := 2) (v := .int (g % many)) (ev_op (ev_op (ev_var rfl) ev_c (rv_ixL (sq_of d1) (at0 _ _ _))) (ev_var rfl) (rv_I h0)) fun H2 e2 => ?_)
      have d2 := e2 d _ d1
      dsimp only
      have wd : CDivW g many := wide_div h0 (b := 64) (by omega) (by decide) (by decide)
      refine st_seq (s_setL (j := 0) d2 (ev_op (ev_op (ev_var rfl) ev_c (rv_ixL (sq_of d2) (at0 _ _ _))) (ev_var rfl) (rv_I wd)) (ev_var rfl) ev_c (show 0 < 3 by decide) fun H3 e3 => ?_)
      dsimp only
      refine s_ret (v := .int (g % many)) (ev_var rfl) fun H4 e4 => ?_
      have h5 : Off d H H3 := Off.of ((e1.trans e2).trans e3)
      have nn := Int.ediv_nonneg hg0 (show 0 ≤ many by omega)
      have le : g / many ≤ g := Int.ediv_le_self many hg0
      refine q H4 _ ((h5.upd).trans (Off.of e4)) ⟨g / many, b, m, e4 d _ upd_same, nn, by omega, hb0, hb1, hm0, by omega⟩ (Int.emod_nonneg _ (by omega)) (Int.emod_lt_of_pos _ h0)
    · have d1 := e1 d _ hd
      dsimp only [tNext]
      refine st_seq (s_setL (j := 2) d1 (ev_op (ev_op (ev_var rfl) ev_c (rv_ixL (sq_of d1) (at2 _ _ _))) ev_c rv_I0) (ev_var rfl) ev_c (show 2 < 3 by decide) fun H3 e3 => ?_)
      dsimp only
      have d3 : (upd H3 d (.lst ([V.int g, .int b, .int m].set 2 (.int (m + 1))))) d = some (.lst [V.int g, .int b, .int (m + 1)]) := upd_same
      have o3 : Off d H (upd H3 d (.lst ([V.int g, .int b, .int m].set 2 (.int (m + 1))))) := (Off.of (e1.trans e3)).upd
      generalize upd H3 d (.lst ([V.int g, .int b, .int m].set 2 (.int (m + 1)))) = H3' at d3 o3 ⊢
      have m0 : (0 : Int) ≤ m + 1 := by omega
      refine st_seq (s_asg (i := 3) (v := .int ((b + 65687 * (m + 1) * (m + 1) + 23) * 50051 % 2305843009213693907)) (ev_op (ev_op (ev_op (ev_op (ev_op (ev_var rfl) ev_c (rv_ixL (sq_of d3) (at1 _ _ _))) (ev_op (ev_op ev_c (ev_op (ev_var rfl) ev_c (rv_ixL (sq_of d3) (at2 _ _ _))) (rv_I (.inl ⟨by decide, by decide⟩))) (ev_op (ev_var rfl) ev_c (rv_ixL (sq_of d3) (at2 _ _ _))) (rv_I (.inr ⟨by omega, by omega⟩))) rv_I0) ev_c rv_I0) ev_c (rv_I (.inr ⟨by decide, by decide⟩))) ev_c (rv_I (by decide))) fun H4 e4 => ?_)
      have d4 := e4 d _ d3
      have x0 : 0 ≤ (b + 65687 * (m + 1) * (m + 1) + 23) * 50051 % 2305843009213693907 := Int.emod_nonneg _ (by decide)
      have x1 : (b + 65687 * (m + 1) * (m + 1) + 23) * 50051 % 2305843009213693907 < 2305843009213693907 := Int.emod_lt_of_pos _ (by decide)
      generalize (b + 65687 * (m + 1) * (m + 1) + 23) * 50051 % 2305843009213693907 = x at x0 x1 ⊢
      dsimp only
      refine st_seq (s_asg (i := 3) (v := .int (x * (x % 1000151 + 90007 * (m + 1) + 3) % 2305843009213693951)) (ev_op (ev_op (ev_var rfl) (ev_op (ev_op (ev_op (ev_var rfl) ev_c (rv_I (by decide))) (ev_op ev_c (ev_op (ev_var rfl) ev_c (rv_ixL (sq_of d4) (at2 _ _ _))) (rv_I (.inl ⟨by decide, by decide⟩))) rv_I0) ev_c rv_I0) (rv_I (.inl ⟨by omega, by omega⟩))) ev_c (rv_I (by decide))) fun H5 e5 => ?_)
      generalize x * (x % 1000151 + 90007 * (m + 1) + 3) % 2305843009213693951 = y
      dsimp only
      refine s_ret (v := .int ((y / 107 + y / 1000003) % many)) (ev_op (ev_op (ev_op (ev_var rfl) ev_c (rv_I ⟨by decide, by decide⟩)) (ev_op (ev_var rfl) ev_c (rv_I ⟨by decide, by decide⟩)) rv_I0) (ev_var rfl) (rv_I h0)) fun H7 e7 => ?_
      have e47 := (e4.trans e5).trans e7
      exact q H7 _ (o3.trans (Off.of e47)) ⟨g, b, m + 1, e47 d _ d3, hg0, hg1, hb0, hb1, m0, by omega⟩ (Int.emod_nonneg _ (by omega)) (Int.emod_lt_of_pos _ h0)
theorem Pot.ne {H : Hp} {d p : Addr} {n : Int} (h : Pot H d n) (hp : H p = none) : p ≠ d := fun e => by
  obtain ⟨g, b, m, h0, _⟩ := h
  rw [e, h0] at hp
  cases hp
theorem rd_take {σ : L2.St} {H : Hp} {E : XK} {td tm : TE} {d : Addr} {n many : Int} {Q : VK} (hd : Ev td σ H (.ref d)) (hm : Ev tm σ H (.int many)) (hP : Pot H d n) (h1 : n ≤ 1000000) (h2 : 0 < many) (h3 : many ≤ 1000000000000)
    (k : ∀ H' r, Off d H H' → Pot H' d (n + 1) → 0 ≤ r → r < many → Q (.int r) H') : tCall spTake [] E (tCons td (tCons tm tNil)) σ H Q := by
  refine hd H (Ex.refl H) _ fun H1 e1 => hm H1 e1 _ fun H2 e2 => ?_
  exact ⟨d, n, many, rfl, hP.ex (e1.trans e2), h1, h2, h3, fun H' r o p a b => k H' r ((Off.of (e1.trans e2)).trans o) p a b⟩
/-- one of a list's items -/
def spOf : Sp := fun vs H Q _ => ∃ (d l : Addr) (n : Int) (xs : List V), vs = [.ref d, .ref l] ∧ Pot H d n ∧ n ≤ 1000000 ∧ l ≠ d ∧ H l = some (.lst xs) ∧ 0 < xs.length ∧ xs.length ≤ 1000 ∧
  ∀ H' x, x ∈ xs → Off d H H' → Pot H' d (n + 1) → Q x H'
theorem ok_of {f fT : Addr} {fd fdT : FuncData} (F : Fun K "_law_of" "_law_of" sOf f fd) (FT : Fun K "_law_take" "_law_take" sTake fT fdT) (bT : Binds K fdT ["_law_box_here", "_law_many"] []) (gT : mg "_law_take" = some (.ref fT)) (mL : mg "len" = none) :
    FnOk P w K mg base CX0 2 f fd ["_law_box_here", "_law_some"] spOf := by
  have GT : FnOk P w K mg base CX0 1 fT fdT ["_law_box_here", "_law_many"] spTake := ok_take FT
  refine F.ok scOf (fun vs H Q E h => ?_) (fun cdv A outer s H vs Q E hr h => ?_)
  · obtain ⟨d, l, n, xs, rfl, _⟩ := h
    rfl
  · obtain ⟨d, l, n, xs, rfl, hP, hn, ne, hl, z0, z1, q⟩ := h
    refine ⟨_, pss_one (ps_ret (pe_ix ix_list (pv 1) (pe_call GT hr (by rfl) gT FT.kp bT .nil pass0 (pa_cons (pv 0) (pa_cons (pe_callB call_len_seq (by rfl) mL PySem.boot_len (pa_cons (pv 1) pa_nil)) pa_nil))) (fun _ _ => rfl))), ?_⟩
    refine ⟨_, rfl, ?_⟩
    refine rd_take (ev_var rfl) (ev_len (ev_var rfl) (sq_of hl)) hP hn (by omega) (by omega) fun H1 r o p r0 r1 => ?_
    obtain ⟨j, rfl⟩ : ∃ j : Nat, r = j := ⟨r.toNat, by omega⟩
    have jn : j < xs.length := by omega
    exact ⟨l, xs, j, _, rfl, rfl, sq_of (o l _ ne hl), atI_nat (List.getElem?_eq_getElem jn), q H1 _ (List.getElem_mem jn) o p⟩
end
end Sn
namespace Sn
open PySem PySem.Spec PyProof.Rows L2 Evl Gd
theorem Off.fresh {d D : Addr} {H H' : Hp} {o : HO} (e : Off d H H') (h : H D = none) : Off d H (L2.upd H' D o) := fun a u n ha => by
  rw [upd_ne (ne_of_none ha h)]
  exact e a u n ha
theorem Pot.updD {H : Hp} {d D : Addr} {n : Int} {o : HO} (h : Pot H d n) (ne : D ≠ d) : Pot (L2.upd H D o) d n := by
  obtain ⟨g, b, m, h0, h⟩ := h
  exact ⟨g, b, m, by rw [upd_ne ne.symm]; exact h0, h⟩
theorem keepOff {K : PySem.W.Frag} {H H' : Hp} {d : Addr} {n : Int} (p : Pot H d n) (o : Off d H H') : KeepT K H H' := by
  obtain ⟨g, b, m, h0, _⟩ := p
  exact .lst h0 o
section
variable {ta tr te tb : TE} {tt : TA} {ts tz : TS} {D : Ends} {g : TG} {σ : L2.St} {H : Hp} {Q : VK}
theorem rd_of {E : XK} {d : Addr} {n : Int} {td tl : TE} {xs : List V} (hd : Ev td σ H (.ref d)) (hP : Pot H d n) (hn : n ≤ 1000000) (ev : EvL tl σ H xs) (z0 : 0 < xs.length) (z1 : xs.length ≤ 1000) (k : ∀ H' x, x ∈ xs → Off d H H' → Pot H' d (n + 1) → Q x H') :
    tCall spOf [] E (tCons td (tCons tl tNil)) σ H Q := by
  refine hd H (Ex.refl H) _ fun H1 e1 => ev H1 e1 _ fun p H2 np e2 h2 => ?_
  have p1 := hP.ex e1
  exact ⟨d, p, n, xs, rfl, p1.ex e2, hn, p1.ne np, h2, z0, z1, fun H' x hx o pt => k H' x hx ((Off.of (e1.trans e2)).trans o) pt⟩
/-- of(jar, a list that stands) -/
theorem rd_ofV {E : XK} {d l : Addr} {n : Int} {td tl : TE} {xs : List V} (hd : Ev td σ H (.ref d)) (hl : Ev tl σ H (.ref l)) (hP : Pot H d n) (hn : n ≤ 1000000) (ne : l ≠ d) (hx : H l = some (.lst xs)) (z0 : 0 < xs.length) (z1 : xs.length ≤ 1000) (k : ∀ H' x, x ∈ xs → Off d H H' → Pot H' d (n + 1) → Q x H') :
    tCall spOf [] E (tCons td (tCons tl tNil)) σ H Q := by
  refine hd H (Ex.refl H) _ fun H1 e1 => hl H1 e1 _ fun H2 e2 => ?_
  exact ⟨d, l, n, xs, rfl, hP.ex (e1.trans e2), hn, ne, (e1.trans e2) _ _ hx, z0, z1, fun H' x hx o pt => k H' x hx ((Off.of (e1.trans e2)).trans o) pt⟩
end
abbrev sNums : Stmt := topS 23
abbrev nNums : List Str := ["_law_box_here", "_law_most", "_law_found", "_law_here", "_law_turn"]
theorem scNums : FnScope nNums ["_law_box_here", "_law_most"] (defScope sNums) := ⟨rfl, rfl, rfl, by decide +kernel, rfl, by decide +kernel, by decide +kernel⟩
def spNums : Sp := fun vs H Q _ => ∃ (d : Addr) (n mo : Int), vs = [.ref d, .int mo] ∧ 0 < mo ∧ mo ≤ 12 ∧ Pot H d n ∧ n ≤ 800000 ∧
  ∀ (H' : Hp) (l : Addr) (ns : List Int), Off d H H' → Pot H' d (n + 30) → l ≠ d → H l = none → H' l = some (.lst (ns.map V.int)) → 1 ≤ ns.length → ns.length ≤ 12 → (∀ i ∈ ns, 0 ≤ i ∧ i ≤ 200) → ns.Pairwise (· < ·) → Q (.ref l) H'
section
variable {P : Program} {w : World} {K : PySem.W.Frag} {mg : Str → Option Value} {base : Heap}
theorem ok_nums {f fT fO : Addr} {fd fdT fdO : FuncData} (F : Fun K "_law_numbers" "_law_numbers" sNums f fd) (FT : Fun K "_law_take" "_law_take" sTake fT fdT) (FO : Fun K "_law_of" "_law_of" sOf fO fdO) (bT : Binds K fdT ["_law_box_here", "_law_many"] []) (bO : Binds K fdO ["_law_box_here", "_law_some"] [])
    (gT : mg "_law_take" = some (.ref fT)) (gO : mg "_law_of" = some (.ref fO)) (mL : mg "len" = none) (mR : mg "range" = none) : FnOk P w K mg base CX0 3 f fd ["_law_box_here", "_law_most"] spNums := by
  have GT : FnOk P w K mg base CX0 2 fT fdT ["_law_box_here", "_law_many"] spTake := (ok_take FT).mono (by decide)
  have GO : FnOk P w K mg base CX0 2 fO fdO ["_law_box_here", "_law_some"] spOf := ok_of FO FT bT gT mL
  refine F.ok scNums (fun vs H Q E h => ?_) (fun cdv A outer s H vs Q E hr h => ?_)
  · obtain ⟨d, n, mo, rfl, _⟩ := h
    rfl
  · obtain ⟨d, n, mo, rfl, mo0, mo1, pot, hn, q⟩ := h
    refine ⟨_, pss_cons (ps_par (i := 2) (j := 3) rfl scNums.nd rfl rfl (by decide) rfl rfl (pa_cons (pe_lst pa_nil) (pa_cons (pe_call GO hr (by rfl) gO FO.kp bO .nil pass0 (pa_cons (pv 0) (pa_cons (pe_lst (pa_cons pe_int (pa_cons pe_int (pa_cons pe_int (pa_cons pe_int pa_nil))))) pa_nil))) pa_nil)) (by rfl))
      (pss_cons (ps_for PassesOwn.never rfl (pi_range1 (by rfl) mR (pa_cons (pe_op op_add pe_int (pe_call GT hr (by rfl) gT FT.kp bT .nil pass0 (pa_cons (pv 0) (pa_cons (pv 1) pa_nil)))) pa_nil)) (pg_name (i := 4) scNums.nd rfl (.inl rfl))
        (pss_cons (ps_expr (pe_bm PySem.F.plainAttrs_list PySem.F.slot_list_append PySem.F.type_list_append mt_append (pv 2) (pa_cons (pv 3) pa_nil)))
        (pss_one (ps_set (i := 3) scNums.nd rfl (.inl rfl) (pe_op op_add (pe_op op_add (pv 3) pe_int) (pe_call GO hr (by rfl) gO FO.kp bO .nil pass0 (pa_cons (pv 0) (pa_cons (pe_lst (pa_cons pe_int (pa_cons pe_int (pa_cons pe_int (pa_cons pe_int (pa_cons pe_int pa_nil)))))) pa_nil))))))))
      (pss_one (ps_ret (pv 2)))), ?_⟩
    refine seq_of (par_of (c_of (lst_of (n_of ⟨Nat.zero_le _, fun l hl => ?_⟩))))
    have nld := pot.ne hl
    refine c_of (rd_of (ev_var rfl) (pot.updD nld) (by omega) (el_lst (ea_cons ev_c (ea_cons ev_c (ea_cons ev_c (ea_cons ev_c ea_nil)))) (by show 4 ≤ 100000; decide)) (by show 0 < 4; decide) (by show 4 ≤ 1000; decide) fun H2 x hx o2 p2 => ?_)
    obtain ⟨x, rfl, x0, x7⟩ : ∃ r : Int, x = .int r ∧ 0 ≤ r ∧ r ≤ 7 := by
      simp only [List.mem_cons, List.not_mem_nil, or_false] at hx
      rcases hx with e | e | e | e <;> exact ⟨_, e, by decide, by decide⟩
    refine n_of ⟨_, _, rfl, ?_⟩
    have oH : Off d H H2 := (Off.of (Ex.new hl)).trans o2
    have l2 : H2 l = some (.lst []) := o2 l _ nld upd_same
    dsimp only
    refine seq_of (for1_of ?_)
    refine c_of (op_of (k_of (rd_take (many := mo) (ev_var (by rfl)) (ev_var (by rfl)) p2 (by omega) mo0 (by omega) fun H3 r o3 p3 r0 r1 => ?_)))
    refine ⟨1, r, rfl, rfl, ?_⟩
    refine ⟨1 + r, rfl, by omega, by omega, for_range (lo := 0) (n := (1 + r).toNat) (fun i σ' H' => ∃ y4 last ns, σ' = [some (.ref d), some (.int mo), some (.ref l), some (.int last), y4] ∧ Off d H H' ∧ Pot H' d (n + 2 + (i : Int)) ∧ H' l = some (.lst (ns.map V.int)) ∧ ns.length = i ∧ 0 ≤ last ∧ last ≤ 7 + 10 * (i : Int) ∧ (∀ x ∈ ns, 0 ≤ x ∧ x < last ∧ x ≤ 200) ∧ ns.Pairwise (· < ·))
      ⟨none, x, [], rfl, oH.trans o3, p3.up (by omega), o3 l _ nld l2, rfl, by omega, by omega, fun x h => absurd h List.not_mem_nil, .nil⟩ ?_ ?_⟩
    · rintro i σ' H' hi ⟨y4, last, ns, rfl, o, p, hl', len, b0, b1, hb, asc⟩
      have i12 : (i : Int) < 12 := by omega
      dsimp only [gName]
      refine ⟨.ref l, rfl, .inl ⟨rfl, _, sq_of hl'⟩, .int last, rfl, l, _, _, rfl, rfl, hl', sz_lt (by rw [List.length_map]; omega), ?_⟩
      have np : L2.upd H' l (.lst (ns.map V.int ++ [V.int last])) l = some (.lst ((ns ++ [last]).map V.int)) := by
        rw [upd_same, List.map_append]
        rfl
      have pp := p.updD (o := .lst (ns.map V.int ++ [V.int last])) nld
      have oo := o.fresh (o := .lst (ns.map V.int ++ [V.int last])) hl
      generalize L2.upd H' l (.lst (ns.map V.int ++ [V.int last])) = H3 at np pp oo ⊢
      refine asg_of (op_of (op_of (v_of rfl (k_of ⟨last, 1, rfl, rfl, ?_⟩))))
      refine rd_of (ev_var rfl) pp (by omega) (el_lst (ea_cons ev_c (ea_cons ev_c (ea_cons ev_c (ea_cons ev_c (ea_cons ev_c ea_nil))))) (by show 5 ≤ 100000; decide)) (by show 0 < 5; decide) (by show 5 ≤ 1000; decide) fun H4 x hx o4 p4 => ?_
      obtain ⟨x, rfl, x0, x9⟩ : ∃ r : Int, x = .int r ∧ 0 ≤ r ∧ r ≤ 9 := by
        simp only [List.mem_cons, List.not_mem_nil, or_false] at hx
        rcases hx with e | e | e | e | e <;> exact ⟨_, e, by decide, by decide⟩
      refine ⟨_, _, rfl, rfl, ?_⟩
      refine ⟨_, last + 1 + x, ns ++ [last], rfl, oo.trans o4, p4.up (by push_cast; omega), o4 l _ nld np, ?_, by omega, by push_cast; omega, ?_, ?_⟩
      · rw [List.length_append, len]
        rfl
      · intro y hy
        rcases List.mem_append.mp hy with h | h
        · have := hb y h
          omega
        · rw [List.mem_singleton.mp h]
          omega
      · rw [List.pairwise_append]
        refine ⟨asc, List.pairwise_singleton _ _, fun a ha b hb' => ?_⟩
        rw [List.mem_singleton.mp hb']
        have := hb a ha
        omega
    · rintro σ' H' ⟨y4, last, ns, rfl, o, p, hl', len, b0, b1, hb, asc⟩
      refine ⟨.ref l, rfl, q H' l ns o (p.up (by omega)) nld hl hl' (by omega) (by omega) (fun i hi => ?_) asc⟩
      have := hb i hi
      omega
end
end Sn
namespace Sn
open PySem PySem.Spec PyProof.Rows L2 Evl Gd
/-- all but lists stays -/
def KeepN (H H' : Hp) : Prop := ∀ a o, (∀ xs, o ≠ .lst xs) → H a = some o → H' a = some o
theorem KeepN.t {K : PySem.W.Frag} {H H' : Hp} (k : KeepN H H') : KeepT K H H' := by
  intro a xs h
  rcases h with (h | ⟨o, h⟩) | h
  · exact .inl (.inl (k _ _ (fun _ z => nomatch z) h))
  · exact .inl (.inr ⟨o, k _ _ (fun _ z => nomatch z) h⟩)
  · exact .inr h
theorem KeepN.lst {H H' : Hp} {p : Addr} {zs : List V} (hp : H p = some (.lst zs)) (e : ∀ a o, a ≠ p → H a = some o → H' a = some o) : KeepN H H' := fun a o no h => e a o (fun q => by
  rw [q, hp] at h
  exact no _ (Option.some.inj h).symm) h
theorem KeepN.of {H H' : Hp} (e : ∀ a o, H a = some o → H' a = some o) : KeepN H H' := fun a o _ h => e a o h
theorem KeepN.off {H H' : Hp} {d : Addr} {n : Int} (p : Pot H d n) (o : Off d H H') : KeepN H H' := by
  obtain ⟨g, b, m, h0, _⟩ := p
  exact .lst h0 o
theorem KeepN.trans {H H' H2 : Hp} (a : KeepN H H') (b : KeepN H' H2) : KeepN H H2 := fun x o n h => b x o n (a x o n h)
/-- a comprehension whose turns draw from the jar: R says what is made -/
theorem lcj {K : PySem.W.Frag} {J : It} {N : Nat} {G : Hp → Prop} {Y : Nat → Hp → V → Hp → Prop} (wk : Walk J N G Y) (at' : Nat → Option V) {t : TT} {te : TE} {vs : List Nat} {σ : L2.St} {H1 : Hp} {D d : Addr} {n c : Int} {j : Nat} {Qd : Hp → Prop} (R : Nat → List V → Hp → Prop)
    (hG : ∀ H, Off d H1 H → G H) (hY : ∀ i H x H', Y i H x H' → H' = H ∧ at' i = some x) (hD : H1 D = none) (pot : Pot H1 d n) (c0 : 0 ≤ c) (hN : N ≤ 1000)
    (R0 : ∀ H, R 0 [] H) (Rl : ∀ i ys H, R i ys H → ys.length ≤ i) (Rk : ∀ i ys H H', KeepN H H' → R i ys H → R i ys H') (hw : ∀ x, wipe ((wipe σ vs).set j (some x)) vs = wipe σ vs)
    (turn : ∀ i x ys H, i < N → at' i = some x → Off d H1 H → Pot H d (n + c * (i : Int)) → R i ys H → ∀ (k1 : V → Hp → Prop) (k0 : Hp → Prop), (∀ y H4, Off d H H4 → Pot H4 d (n + c * ((i + 1 : Nat) : Int)) → R (i + 1) (ys ++ [y]) H4 → k1 y H4) → (∀ H3, Off d H H3 → Pot H3 d (n + c * ((i + 1 : Nat) : Int)) → R (i + 1) ys H3 → k0 H3) →
      t ((wipe σ vs).set j (some x)) H fun b H3 => if b = true then te ((wipe σ vs).set j (some x)) H3 k1 else k0 H3)
    (hd : ∀ H' ys, Off d H1 H' → Pot H' d (n + c * (N : Int)) → H' D = some (.lst ys) → R N ys H' → Qd H') :
    ∃ W : Nat → Nat → Hp → Prop, (∃ m, W 0 m (L2.upd H1 D (.lst []))) ∧ ∀ i m H, W i m H →
      (J.stop i H ∧ Qd H) ∨ (J.go i H ∧ ∃ Nx : Hp → Prop, (∀ H', Nx H' → ∃ m', m' < m ∧ W (i + 1) m' H') ∧ ∀ x H', J.yld i H x H' → gName j x (wipe σ vs) H' fun σ2 H2 => wipe σ2 vs = wipe σ vs ∧ t σ2 H2 fun b H3 =>
        if b = true then te σ2 H3 fun y H4 => ∃ acc, H4 D = some (.lst acc) ∧ acc.length < sizeLine ∧ Nx (L2.upd H4 D (.lst (acc ++ [y]))) else Nx H3) := by
  have nD : D ≠ d := pot.ne hD
  refine lc_it wk (fun i H' => Off d H1 H' ∧ Pot H' d (n + c * (i : Int)) ∧ ∃ ys, H' D = some (.lst ys) ∧ R i ys H') ⟨(Off.refl d H1).fresh hD, (pot.updD nD).up (by simp), [], upd_same, R0 _⟩ (fun i H _ p => hG H p.1) ?_ ?_
  · rintro i x H H' hi ⟨o, p, ys, hD', r⟩ y
    obtain ⟨rfl, hx⟩ := hY i H x H' y
    refine ⟨hw x, turn i x ys H' hi hx o p r _ _ (fun y H4 o4 p4 r4 => ?_) fun H3 o3 p3 r3 => ?_⟩
    · have hD4 := o4 D _ nD hD'
      have len := Rl i ys H' r
      refine ⟨ys, hD4, sz_lt (by omega), (o.trans o4).fresh hD, p4.updD nD, _, upd_same, Rk _ _ _ _ (.lst hD4 fun a o n h => by
        rw [upd_ne n]
        exact h) r4⟩
    · exact ⟨o.trans o3, p3, ys, o3 D _ nD hD', r3⟩
  · rintro H' ⟨o, p, ys, hD', r⟩
    exact hd H' ys o p hD' r
def partInts : Part → List Int
  | .tgt n => [n]
  | .pair k none => [k]
  | .pair k (some v) => [k, v]
def Small (ps : List Part) : Prop := ∀ p ∈ ps, ∀ i ∈ partInts p, 0 ≤ i ∧ i ≤ 200
def InFs (fs : List Int) (ps : List Part) : Prop := ∀ k v, Part.pair k (some v) ∈ ps → v ∈ fs
def SmallIn (fs : List Int) (ps : List Part) : Prop := ∀ p ∈ ps, (∀ i ∈ partInts p, 0 ≤ i ∧ i ≤ 200) ∧ ∀ k v, p = .pair k (some v) → v ∈ fs
def keyOf : Part → Option Int
  | .pair k _ => some k
  | .tgt _ => none
def OkParts (shape : Str) (ps : List Part) : Prop := ps.length ≤ 10 ∧ Small ps ∧ ((shape = "record" ∧ ∀ p ∈ ps, ∃ k v, p = .pair k (some v)) ∨ (shape = "map" ∧ ∀ p ∈ ps, ∃ k v, p = .pair k v) ∨ (shape = "weak" ∧ ∀ p ∈ ps, ∃ n, p = .tgt n)) ∧ (ps.filterMap keyOf).Pairwise (· < ·)
section
variable {K : PySem.W.Frag} {σ : L2.St} {H : Hp} {d : Addr} {n : Int}
/-- take(jar, often) == 0 -/
theorem et_take0 {E : XK} {td tm : TE} {many : Int} {k : Bool → Hp → Prop} (hd : Ev td σ H (.ref d)) (hm : Ev tm σ H (.int many)) (pot : Pot H d n) (hn : n ≤ 1000000) (m0 : 0 < many) (m1 : many ≤ 1000000) (h : ∀ b H', Off d H H' → Pot H' d (n + 1) → k b H') : tTest (tOp rEq (tCall spTake [] E (tCons td (tCons tm tNil))) (tC (.int 0))) σ H k :=
  test_of (op_of (rd_take hd hm pot hn m0 (by omega) fun H1 r o p _ _ => ⟨rfl, _, rfl, h _ H1 o p⟩))
end
theorem sub_snoc {α : Type} {l m : List α} {x : α} (h : l.Sublist m) : (l ++ [x]).Sublist (m ++ [x]) := List.Sublist.append h (List.Sublist.refl _)
theorem sub_more {α : Type} {l m : List α} {x : α} (h : l.Sublist m) : l.Sublist (m ++ [x]) := h.trans (List.sublist_append_left _ _)
theorem put_mem {κ : Type} [DecidableEq κ] {kvs : List (κ × V)} {k : κ} {v : V} {p : κ × V} (h : p ∈ putK kvs k v) : p = (k, v) ∨ (p ∈ kvs ∧ p.1 ≠ k) := by
  unfold putK at h
  by_cases e : (kvs.any fun kv => decide (kv.1 = k)) = true
  · rw [if_pos e] at h
    obtain ⟨z, hz, rfl⟩ := List.mem_map.mp h
    by_cases q : z.1 = k
    · rw [if_pos q, q]
      exact .inl rfl
    · rw [if_neg q]
      exact .inr ⟨hz, q⟩
  · rw [if_neg e] at h
    rcases List.mem_append.mp h with m | m
    · refine .inr ⟨m, fun q => e ?_⟩
      exact List.any_eq_true.mpr ⟨p, m, decide_eq_true q⟩
    · exact .inl (List.mem_singleton.mp m)
theorem put_keys {κ : Type} [DecidableEq κ] (kvs : List (κ × V)) (k : κ) (v : V) : (putK kvs k v).map (·.1) = if k ∈ kvs.map (·.1) then kvs.map (·.1) else kvs.map (·.1) ++ [k] := by
  unfold putK
  by_cases e : (kvs.any fun kv => decide (kv.1 = k)) = true
  · rw [if_pos e]
    obtain ⟨z, hz, hk⟩ := List.any_eq_true.mp e
    have hk2 : z.1 = k := of_decide_eq_true hk
    rw [if_pos (List.mem_map.mpr ⟨z, hz, hk2⟩), List.map_map]
    refine List.map_congr_left fun y _ => ?_
    show (if y.1 = k then (y.1, v) else y).1 = y.1
    split <;> rfl
  · rw [if_neg e, if_neg, List.map_append]
    · rfl
    · intro m
      obtain ⟨z, hz, hk⟩ := List.mem_map.mp m
      exact e (List.any_eq_true.mpr ⟨z, hz, decide_eq_true hk⟩)
theorem put_nodup {κ : Type} [DecidableEq κ] {kvs : List (κ × V)} {k : κ} {v : V} (h : (kvs.map (·.1)).Nodup) : ((putK kvs k v).map (·.1)).Nodup := by
  rw [put_keys]
  split
  · exact h
  · next e =>
    rw [List.nodup_append]
    refine ⟨h, by simp, fun a ha b hb q => ?_⟩
    rw [List.mem_singleton.mp hb] at q
    rw [q] at ha
    exact e ha
/-- a table with int keys -/
def Ents (kp : Int → Prop) (vp : V → Prop) (kvs : List (Key × V)) : Prop := (kvs.map (·.1)).Nodup ∧ ∀ p ∈ kvs, ∃ k, p.1 = .inl k ∧ kp k ∧ vp p.2
theorem Ents.nil {kp : Int → Prop} {vp : V → Prop} : Ents kp vp [] := ⟨.nil, fun _ h => absurd h List.not_mem_nil⟩
theorem Ents.put {kp : Int → Prop} {vp : V → Prop} {kvs : List (Key × V)} {k : Int} {v : V} (h : Ents kp vp kvs) (hk : kp k) (hv : vp v) : Ents kp vp (putK kvs (.inl k) v) := by
  refine ⟨put_nodup h.1, fun p hp => ?_⟩
  rcases put_mem hp with e | ⟨m, _⟩
  · rw [e]
    exact ⟨k, rfl, hk, hv⟩
  · exact h.2 p m
theorem val_at {κ : Type} [DecidableEq κ] {p : κ × V} : ∀ {kvs : List (κ × V)}, (kvs.map (·.1)).Nodup → p ∈ kvs → valV kvs p.1 = some p.2
  | [], _, h => absurd h List.not_mem_nil
  | q :: kvs, nd, h => by
    have n1 := List.nodup_cons.mp nd
    rcases List.mem_cons.mp h with e | m
    · rw [e]
      exact valV_pos rfl
    · rw [valV_neg]
      · exact val_at n1.2 m
      · intro e
        exact n1.1 (List.mem_map.mpr ⟨p, m, e.symm⟩)
theorem Ents.ints {kp : Int → Prop} {vp : V → Prop} {kvs : List (Key × V)} (h : Ents kp vp kvs) : ∃ ks : List Int, kvs.map (·.1) = ks.map Sum.inl ∧ ks.Nodup ∧ ks.length = kvs.length ∧ ∀ k ∈ ks, kp k ∧ ∃ v, valV kvs (.inl k) = some v ∧ vp v := by
  have e : ∃ ks : List Int, kvs.map (·.1) = ks.map Sum.inl := by
    have g := h.2
    clear h
    induction kvs with
    | nil => exact ⟨[], rfl⟩
    | cons p r ih =>
      obtain ⟨ks, e⟩ := ih fun q hq => g q (List.mem_cons_of_mem _ hq)
      obtain ⟨k, e1, _⟩ := g p List.mem_cons_self
      exact ⟨k :: ks, by rw [List.map_cons, List.map_cons, e, e1]⟩
  obtain ⟨ks, e⟩ := e
  refine ⟨ks, e, ?_, ?_, fun k hk => ?_⟩
  · have := h.1
    rw [e] at this
    exact List.Pairwise.imp (fun q z => q (by rw [z])) (List.pairwise_map.mp this)
  · have := congrArg List.length e
    rw [List.length_map, List.length_map] at this
    exact this.symm
  · have m : (Sum.inl k : Key) ∈ kvs.map (·.1) := by
      rw [e]
      exact List.mem_map.mpr ⟨k, hk, rfl⟩
    obtain ⟨p, hp, e1⟩ := List.mem_map.mp m
    obtain ⟨k2, e2, a, b⟩ := h.2 p hp
    have e3 : p.1 = Sum.inl k := e1
    rw [e2] at e3
    have : k2 = k := Sum.inl.inj e3
    refine ⟨this ▸ a, p.2, ?_, b⟩
    have := val_at h.1 hp
    rw [e1] at this
    exact this
def vO : Option Int → V
  | none => .non
  | some v => .int v
theorem td_vO {K : PySem.W.Frag} {H : Hp} : ∀ o : Option Int, Td K H (vO o) (dOpt o)
  | none => .non
  | some v => .int v
abbrev sParts : Stmt := topS 24
abbrev nParts : List Str := ["_law_box_here", "_law_sort", "_law_numbers_here", "_law_found", "_law_turn", "_law_key"]
theorem scParts : FnScope nParts ["_law_box_here", "_law_sort", "_law_numbers_here"] (defScope sParts) := ⟨rfl, rfl, rfl, by decide +kernel, rfl, by decide +kernel, by decide +kernel⟩
def spParts (K : PySem.W.Frag) : Sp := fun vs H Q _ => ∃ (d l : Addr) (n : Int) (shape : Str) (fs : List Int), vs = [.ref d, .str shape, .ref l] ∧ Pot H d n ∧ n ≤ 800000 ∧ l ≠ d ∧ H l = some (.lst (fs.map V.int)) ∧ 0 < fs.length ∧ fs.length ≤ 12 ∧ (∀ i ∈ fs, 0 ≤ i ∧ i ≤ 200) ∧ fs.Pairwise (· < ·) ∧ (shape = "record" ∨ shape = "map" ∨ shape = "weak") ∧
  ∀ (H' : Hp) (x : V) (ps : List Part), Off d H H' → Pot H' d (n + 40) → Td K H' x (.tuple (ps.map dPart)) → OkParts shape ps → InFs fs ps → (shape ≠ "weak" → ∃ p xs, x = .ref p ∧ PlT H' p xs ∧ TdAll K H' xs (ps.map dPart)) → Q x H'
/-- of(box, a list of ints as written) -/
theorem rd_ofI {σ : L2.St} {H : Hp} {E : XK} {d : Addr} {n : Int} {tl : TE} {xs : List Int} {Q : VK} (at0 : σ[0]? = some (some (.ref d))) (hP : Pot H d n) (hn : n ≤ 1000000) (ev : EvL tl σ H (xs.map V.int)) (z0 : 0 < xs.length) (z1 : xs.length ≤ 1000) (k : ∀ H' r, r ∈ xs → Off d H H' → Pot H' d (n + 1) → Q (.int r) H') :
    tCall spOf [] E (tCons (tVar 0) (tCons tl tNil)) σ H Q := by
  refine rd_of (ev_var at0) hP hn ev (by rw [List.length_map]; exact z0) (by rw [List.length_map]; exact z1) fun H' x hx o p => ?_
  obtain ⟨r, hr, rfl⟩ := List.mem_map.mp hx
  exact k H' r hr o p
theorem rd_ofF {σ : L2.St} {H : Hp} {E : XK} {d l : Addr} {n : Int} {i : Nat} {fs : List Int} {Q : VK} (at0 : σ[0]? = some (some (.ref d))) (at2 : σ[i]? = some (some (.ref l))) (hP : Pot H d n) (hn : n ≤ 1000000) (ne : l ≠ d) (hl : H l = some (.lst (fs.map V.int))) (z0 : 0 < fs.length) (z1 : fs.length ≤ 12) (k : ∀ H' r, r ∈ fs → Off d H H' → Pot H' d (n + 1) → Q (.int r) H') :
    tCall spOf [] E (tCons (tVar 0) (tCons (tVar i) tNil)) σ H Q := by
  refine rd_ofV (ev_var at0) (ev_var at2) hP hn ne hl (by rw [List.length_map]; exact z0) (by rw [List.length_map]; omega) fun H' x hx o p => ?_
  obtain ⟨r, hr, rfl⟩ := List.mem_map.mp hx
  exact k H' r hr o p
section
variable {P : Program} {w : World} {K : PySem.W.Frag} {mg : Str → Option Value} {base : Heap}
theorem ok_parts {f fT fO : Addr} {fd fdT fdO : FuncData} (F : Fun K "_law_parts" "_law_parts" sParts f fd) (FT : Fun K "_law_take" "_law_take" sTake fT fdT) (FO : Fun K "_law_of" "_law_of" sOf fO fdO) (bT : Binds K fdT ["_law_box_here", "_law_many"] []) (bO : Binds K fdO ["_law_box_here", "_law_some"] [])
    (gT : mg "_law_take" = some (.ref fT)) (gO : mg "_law_of" = some (.ref fO)) (mL : mg "len" = none) (mR : mg "range" = none) (mT : mg "tuple" = none) (mO : mg "sorted" = none) : FnOk P w K mg base CX0 3 f fd ["_law_box_here", "_law_sort", "_law_numbers_here"] (spParts K) := by
  have GT : FnOk P w K mg base CX0 2 fT fdT ["_law_box_here", "_law_many"] spTake := (ok_take FT).mono (by decide)
  have GO : FnOk P w K mg base CX0 2 fO fdO ["_law_box_here", "_law_some"] spOf := ok_of FO FT bT gT mL
  refine F.ok scParts (fun vs H Q E h => ?_) (fun cdv A outer s H vs Q E hr h => ?_)
  · obtain ⟨d, l, n, shape, fs, rfl, _⟩ := h
    rfl
  · obtain ⟨d, l, n, shape, fs, rfl, pot, hn, nld, hl, f0, f12, fb, fasc, hsh, q⟩ := h
    have hu := hu_of hr
    refine ⟨_, pss_cons (ps_if (pt_cmpR op_eq (pv 1) pe_str (nomark _))
        (pss_one (ps_ret (pe_ifExp (pt_cmpR op_eq (pe_call GT hr (by rfl) gT FT.kp bT .nil pass0 (pa_cons (pv 0) (pa_cons pe_int pa_nil))) pe_int (nomark _)) (pe_tup (pa_cons (pe_call GO hr (by rfl) gO FO.kp bO .nil pass0 (pa_cons (pv 0) (pa_cons (pv 2) pa_nil))) pa_nil)) (pe_tup pa_nil)))) pss_nil) <|
      pss_cons (ps_set (i := 3) scParts.nd rfl (.inr rfl) pe_dnewK) <|
      pss_cons (ps_if (pt_cmpR op_eq (pv 1) pe_str (nomark _))
        (pss_one (ps_for PassesOwn.never rfl (pi_range1 (by rfl) mR (pa_cons (pe_call GO hr (by rfl) gO FO.kp bO .nil pass0 (pa_cons (pv 0) (pa_cons (pe_lst (pa_cons pe_int (pa_cons pe_int (pa_cons pe_int (pa_cons pe_int (pa_cons pe_int (pa_cons pe_int (pa_cons pe_int pa_nil)))))))) pa_nil))) pa_nil)) (pg_name (i := 4) scParts.nd rfl (.inl rfl))
          (pss_one (ps_dput hu (pv 3) (pe_call GT hr (by rfl) gT FT.kp bT .nil pass0 (pa_cons (pv 0) (pa_cons pe_int pa_nil))) (pe_call GO hr (by rfl) gO FO.kp bO .nil pass0 (pa_cons (pv 0) (pa_cons (pv 2) pa_nil))) rfl))))
        (pss_one (ps_for PassesOwn.never rfl (pi_range1 (by rfl) mR (pa_cons (pe_call GO hr (by rfl) gO FO.kp bO .nil pass0 (pa_cons (pv 0) (pa_cons (pe_lst (pa_cons pe_int (pa_cons pe_int (pa_cons pe_int (pa_cons pe_int (pa_cons pe_int (pa_cons pe_int pa_nil))))))) pa_nil))) pa_nil)) (pg_name (i := 4) scParts.nd rfl (.inl rfl))
          (pss_one (ps_dput hu (pv 3) (pe_call GO hr (by rfl) gO FO.kp bO .nil pass0 (pa_cons (pv 0) (pa_cons (pv 2) pa_nil))) (pe_ifExp (pt_cmpR op_gt (pe_call GT hr (by rfl) gT FT.kp bT .nil pass0 (pa_cons (pv 0) (pa_cons pe_int pa_nil))) pe_int (nomark _)) (pe_call GO hr (by rfl) gO FO.kp bO .nil pass0 (pa_cons (pv 0) (pa_cons (pv 2) pa_nil))) pe_non) rfl))))) <|
      pss_one (ps_ret (pe_callTy cr_tupP (by rfl) mT (by decide +kernel) (pa_cons (pe_lc (own := [("_law_key", 5)]) (g := gName 5) (tt := tYes) (te := tTup (tCons (tVar 5) (tCons (tDGet (tVar 3) (tVar 5)) tNil))) rfl scParts.nd (pi_list (pe_callB (call_sortedDI rfl) (by rfl) mO (by decide +kernel) (pa_cons (pv 3) pa_nil))) (blkOk_by (N := nParts) (sc := defScope sParts) (by decide +kernel))
          (fun _ _ _ _ _ => pg_name (i := 5) scParts.nd rfl (.inl rfl)) (fun _ _ _ _ _ => pts_nil) (fun _ _ _ _ _ => pe_tup (pa_cons (pv 5) (pa_cons (pe_dget hu (pv 3) (pv 5) (fun _ _ => rfl)) pa_nil)))) pa_nil))), ?_⟩
    refine ⟨.str shape, rfl, rfl, _, rfl, ?_⟩
    dsimp only
    by_cases hw : shape = "weak"
    · -- a weak object
      subst hw
      rw [decide_eq_true rfl, if_pos rfl]
      refine ret_of (if_of (et_take0 (ev_var rfl) ev_c pot (by omega) (by decide) (by decide) fun b H1 o1 p1 => ?_))
      cases b with
      | false =>
        rw [if_neg Bool.false_ne_true]
        refine tup_of (n_of ?_)
        refine ⟨by show 0 ≤ sizeLine; decide, fun a ha => ?_⟩
        exact q _ (.ref a) [] (o1.trans (Off.of (Ex.new ha))) ((p1.updD (p1.ne ha)).up (by omega)) (.tup (st_of upd_same) .nil) ⟨by decide, fun _ h => absurd h List.not_mem_nil, .inr (.inr ⟨rfl, fun _ h => absurd h List.not_mem_nil⟩), .nil⟩ (fun _ _ h => absurd h List.not_mem_nil) (fun z => absurd rfl z)
      | true =>
        rw [if_pos rfl]
        refine tup_of (c_of (rd_ofF rfl rfl p1 (by omega) nld (o1 l _ nld hl) f0 f12 fun H3 v hv o3 p3 => n_of ⟨by show 1 ≤ sizeLine; decide, fun a ha => ?_⟩))
        refine q _ (.ref a) [.tgt v] ((o1.trans o3).trans (Off.of (Ex.new ha))) ((p3.updD (p3.ne ha)).up (by omega)) (.tup (st_of upd_same) (.cons (.int v) .nil)) ⟨by show 1 ≤ 10; decide, fun z hz j hj => ?_, .inr (.inr ⟨rfl, fun z hz => ⟨v, List.mem_singleton.mp hz⟩⟩), .nil⟩ (fun k' v' h => nomatch List.mem_singleton.mp h) (fun z => absurd rfl z)
        rw [List.mem_singleton.mp hz] at hj
        rw [List.mem_singleton.mp hj]
        exact fb v hv
    · rw [decide_eq_false (fun e => hw (by injection e)), if_neg Bool.false_ne_true]
      have hsh2 : shape = "record" ∨ shape = "map" := by
        rcases hsh with e | e | e
        · exact .inl e
        · exact .inr e
        · exact absurd e hw
      show tSeq _ _ _ _ _
      refine seq_of (asg_of (newK_of fun dk hdk0 => ?_))
      have ndk := pot.ne hdk0
      have hD1 : (upd H dk (.dK [])) dk = some (.dK []) := upd_same
      have o1 : Off d H (upd H dk (.dK [])) := Off.of (Ex.new hdk0)
      have p1 := pot.updD (o := .dK []) ndk
      generalize upd H dk (.dK []) = H1 at hD1 o1 p1 ⊢
      dsimp only
      refine seq_join (fun σ' H' => ∃ kvs y4, σ' = [some (.ref d), some (.str shape), some (.ref l), some (.ref dk), y4, none] ∧ Off d H H' ∧ Pot H' d (n + 20) ∧ H' dk = some (.dK kvs) ∧ kvs.length ≤ 6 ∧ Ents (fun k => 0 ≤ k ∧ k ≤ 200) (fun x => ∃ o, x = vO o ∧ (∀ v, o = some v → v ∈ fs) ∧ (shape = "record" → o ≠ none)) kvs) (fun tail => ?_) ?_
      · refine ⟨.str shape, rfl, rfl, _, rfl, ?_⟩
        dsimp only
        by_cases hrec : shape = "record"
        · rw [decide_eq_true (by rw [hrec]), if_pos rfl]
          refine for1_of (c_of (rd_ofI (xs := [0, 1, 1, 2, 2, 3, 6]) rfl p1 (by omega) (el_lst (ea_cons ev_c (ea_cons ev_c (ea_cons ev_c (ea_cons ev_c (ea_cons ev_c (ea_cons ev_c (ea_cons ev_c ea_nil))))))) (by show 7 ≤ 100000; decide)) (by decide) (by decide) fun H2 r hr2 o2 p2 => ?_))
          have rb : 0 ≤ r ∧ r ≤ 6 := (show ∀ r ∈ [0, 1, 1, 2, 2, 3, (6 : Int)], 0 ≤ r ∧ r ≤ 6 by decide) r hr2
          refine n_of ⟨r, rfl, by omega, by omega, for_range (lo := 0) (n := r.toNat) (fun i σ' H' => ∃ kvs y4, σ' = [some (.ref d), some (.str shape), some (.ref l), some (.ref dk), y4, none] ∧ Off d H H' ∧ Pot H' d (n + 1 + 2 * (i : Int)) ∧ H' dk = some (.dK kvs) ∧ kvs.length ≤ i ∧ Ents (fun k => 0 ≤ k ∧ k ≤ 200) (fun x => ∃ o, x = vO o ∧ (∀ v, o = some v → v ∈ fs) ∧ (shape = "record" → o ≠ none)) kvs)
            ⟨[], none, rfl, o1.trans o2, p2.up (by omega), o2 dk _ ndk hD1, Nat.le_refl _, .nil⟩ ?_ ?_⟩
          · rintro i σ' H' hi ⟨kvs, y4, rfl, o, p, hd', len, en⟩
            dsimp only [gName]
            refine put_of (rd_ofF rfl rfl p (by omega) nld (o l _ nld hl) f0 f12 fun H3 v hv o3 p3 => v_of rfl ?_)
            refine rd_take (ev_var rfl) ev_c p3 (by omega) (by decide) (by decide) fun H4 k o4 p4 k0 k1 => ?_
            have hd4 := (o3.trans o4) dk _ ndk hd'
            refine ⟨dk, _, rfl, .k (k := .inl k) hd4 (sz_lt (by omega)), ?_⟩
            exact ⟨_, _, rfl, (o.trans (o3.trans o4)).fresh hdk0, (p4.updD ndk).up (by push_cast; omega), upd_same, Nat.le_trans (length_putK _ _ _) (by omega), en.put (by omega) ⟨some v, rfl, fun v' e => by cases e; exact hv, fun _ e => nomatch e⟩⟩
          · rintro σ' H' ⟨kvs, y4, rfl, o, p, hd', len, en⟩
            exact tail _ _ ⟨kvs, y4, rfl, o, p.up (by omega), hd', by omega, en⟩
        · rw [decide_eq_false (fun e => hrec (by injection e)), if_neg Bool.false_ne_true]
          refine for1_of (c_of (rd_ofI (xs := [0, 1, 2, 2, 3, 5]) rfl p1 (by omega) (el_lst (ea_cons ev_c (ea_cons ev_c (ea_cons ev_c (ea_cons ev_c (ea_cons ev_c (ea_cons ev_c ea_nil)))))) (by show 6 ≤ 100000; decide)) (by decide) (by decide) fun H2 r hr2 o2 p2 => ?_))
          have rb : 0 ≤ r ∧ r ≤ 5 := (show ∀ r ∈ [0, 1, 2, 2, 3, (5 : Int)], 0 ≤ r ∧ r ≤ 5 by decide) r hr2
          refine n_of ⟨r, rfl, by omega, by omega, for_range (lo := 0) (n := r.toNat) (fun i σ' H' => ∃ kvs y4, σ' = [some (.ref d), some (.str shape), some (.ref l), some (.ref dk), y4, none] ∧ Off d H H' ∧ Pot H' d (n + 1 + 3 * (i : Int)) ∧ H' dk = some (.dK kvs) ∧ kvs.length ≤ i ∧ Ents (fun k => 0 ≤ k ∧ k ≤ 200) (fun x => ∃ o, x = vO o ∧ (∀ v, o = some v → v ∈ fs) ∧ (shape = "record" → o ≠ none)) kvs)
            ⟨[], none, rfl, o1.trans o2, p2.up (by omega), o2 dk _ ndk hD1, Nat.le_refl _, .nil⟩ ?_ ?_⟩
          · rintro i σ' H' hi ⟨kvs, y4, rfl, o, p, hd', len, en⟩
            dsimp only [gName]
            have fin : ∀ (H3 : Hp) (ov : Option Int), (∀ v, ov = some v → v ∈ fs) → Off d H' H3 → Pot H3 d (n + 1 + 3 * (i : Int) + 2) → ∀ (H4 : Hp) (k : Int), k ∈ fs → Off d H3 H4 → Pot H4 d (n + 1 + 3 * (i : Int) + 3) → ∃ (a : Addr) (H5 : Hp), V.ref dk = .ref a ∧ DPut H4 a (.int k) (vO ov) H5 ∧ ∃ kvs y4', [some (V.ref d), some (.str shape), some (.ref l), some (.ref dk), some (.int (0 + (i : Int))), none] = [some (.ref d), some (.str shape), some (.ref l), some (.ref dk), y4', none] ∧ Off d H H5 ∧ Pot H5 d (n + 1 + 3 * ((i + 1 : Nat) : Int)) ∧ H5 dk = some (.dK kvs) ∧ kvs.length ≤ i + 1 ∧ Ents (fun k => 0 ≤ k ∧ k ≤ 200) (fun x => ∃ o, x = vO o ∧ (∀ v, o = some v → v ∈ fs) ∧ (shape = "record" → o ≠ none)) kvs := by
              intro H3 ov hov o3 p3 H4 k hk o4 p4
              have hd4 := (o3.trans o4) dk _ ndk hd'
              refine ⟨dk, _, rfl, .k (k := .inl k) hd4 (sz_lt (by omega)), ?_⟩
              exact ⟨_, _, rfl, (o.trans (o3.trans o4)).fresh hdk0, (p4.updD ndk).up (by push_cast; omega), upd_same, Nat.le_trans (length_putK _ _ _) (by omega), en.put (fb k hk) ⟨ov, rfl, hov, fun e => absurd e hrec⟩⟩
            refine put_of (if_of (test_of (op_of (rd_take (ev_var rfl) ev_c p (by omega) (by decide) (by decide) fun H3 r3 o3 p3 _ _ => k_of ⟨r3, 0, rfl, rfl, _, rfl, ?_⟩))))
            split
            · refine rd_ofF rfl rfl p3 (by omega) nld ((o.trans o3) l _ nld hl) f0 f12 fun H4 v hv o4 p4 => v_of rfl ?_
              refine rd_ofF rfl rfl p4 (by omega) nld ((o.trans (o3.trans o4)) l _ nld hl) f0 f12 fun H5 k hk o5 p5 => ?_
              exact fin H4 (some v) (fun v' e => by cases e; exact hv) (o3.trans o4) (p4.up (by omega)) H5 k hk o5 (p5.up (by omega))
            · refine k_of (v_of rfl ?_)
              refine rd_ofF rfl rfl p3 (by omega) nld ((o.trans o3) l _ nld hl) f0 f12 fun H5 k hk o5 p5 => ?_
              exact fin H3 none (fun v' e => nomatch e) o3 (p3.up (by omega)) H5 k hk o5 (p5.up (by omega))
          · rintro σ' H' ⟨kvs, y4, rfl, o, p, hd', len, en⟩
            exact tail _ _ ⟨kvs, y4, rfl, o, p.up (by omega), hd', by omega, en⟩
      · rintro σ' H' ⟨kvs, y4, rfl, o, p, hd', len, en⟩
        obtain ⟨ks, hks, knd, kl, kv⟩ := en.ints
        refine ret_of (cb_of (c_of ?_))
        refine lc_of (iL_of (cb_of (c_of (v_of rfl (n_of ⟨dk, kvs, ks, rfl, .inl hd', hks, by omega, fun ys pl perm srt hp => ⟨pl, rfl, ⟨_, sq_of upd_same⟩, ?_⟩⟩)))))
        intro Dp hDp
        have p2 := p.updD (o := .lst (ys.map V.int)) (p.ne hp)
        have e2 : Ex H' (upd H' pl (.lst (ys.map V.int))) := Ex.new hp
        have hd2 := e2 _ _ hd'
        have l2 : (upd H' pl (.lst (ys.map V.int))) pl = some (.lst (ys.map V.int)) := upd_same
        have npl := p.ne hp
        have yl : ys.length ≤ 6 := by
          rw [perm.length_eq]
          omega
        have asc := strict_of srt (perm.nodup_iff.mpr knd)
        generalize upd H' pl (.lst (ys.map V.int)) = H2 at p2 e2 hd2 l2 hDp ⊢
        refine lcj (K := K) (walk_list (K := K) (a := pl) (xs := ys.map V.int)) (fun i => (ys.map V.int)[i]?) (n := n + 20) (c := 0) (fun i zs H' => ∃ ps, TdAll K H' zs (ps.map dPart) ∧ ps.length ≤ i ∧ SmallIn fs ps ∧ (∀ p ∈ ps, ∃ k o, p = .pair k o ∧ (shape = "record" → o ≠ none)) ∧ ps.filterMap keyOf = ys.take i)
          (fun H' o => sq_of (o pl _ npl l2)) (fun i H x H' y => y) hDp p2 (by decide) (by rw [List.length_map]; omega) (fun _ => ⟨[], .nil, Nat.le_refl _, fun _ h => absurd h List.not_mem_nil, fun _ h => absurd h List.not_mem_nil, rfl⟩) (fun i zs H r => ?_) (fun i zs H H' kk r => ?_) (fun x => rfl) ?_ ?_
        · obtain ⟨ps, t, h, _⟩ := r
          rw [t.len, List.length_map]
          exact h
        · obtain ⟨ps, t, h⟩ := r
          exact ⟨ps, t.keep kk.t, h⟩
        · rintro i x zs H3 hi hx o3 p3 ⟨ps, t, pl2, sm, pr, ke⟩ k1 k0 h1 h0
          rw [List.length_map] at hi
          obtain ⟨k, hk, rfl⟩ := at_map hx
          obtain ⟨kb, v, hv, ov, rfl, ovs, ovr⟩ := kv k (perm.mem_iff.mp (List.mem_of_getElem? hk))
          have hd3 := o3 dk _ ndk hd2
          have kn : ps.filterMap keyOf ++ [k] = ys.take (i + 1) := by rw [ke, take_one hk]
          dsimp only [tYes]
          rw [if_pos rfl]
          have dg : DGet H3 dk (.int k) (some (vO ov)) := by
            have := DGet.k (k := .inl k) hd3
            rw [hv] at this
            exact this
          refine tup_of (c_of (v_of rfl (c_of (dget_of (v_of rfl (v_of rfl ⟨dk, vO ov, rfl, dg, n_of ⟨by show 2 ≤ sizeLine; decide, fun a ha => ?_⟩⟩))))))
          refine h1 _ _ (Off.of (Ex.new ha)) ((p3.updD (p3.ne ha)).up (by push_cast; omega)) ⟨ps ++ [.pair k ov], ?_, by rw [List.length_append, List.length_singleton]; omega, ?_, ?_, ?_⟩
          · rw [List.map_append]
            exact (t.ex (Ex.new ha)).snoc (.tup (st_of upd_same) (.cons (.int k) (.cons (td_vO ov) .nil)))
          · intro z hz
            rcases List.mem_append.mp hz with h | h
            · exact sm z h
            · rw [List.mem_singleton.mp h]
              cases ov with
              | none =>
                refine ⟨fun j hj => ?_, fun k' v' e => nomatch e⟩
                rw [List.mem_singleton.mp hj]
                exact kb
              | some v =>
                refine ⟨fun j hj => ?_, fun k' v' e => ?_⟩
                · rcases List.mem_cons.mp hj with e | h
                  · rw [e]
                    exact kb
                  · rw [List.mem_singleton.mp h]
                    exact fb v (ovs v rfl)
                · cases e
                  exact ovs _ rfl
          · intro z hz
            rcases List.mem_append.mp hz with h | h
            · exact pr z h
            · exact ⟨k, ov, List.mem_singleton.mp h, ovr⟩
          · rw [List.filterMap_append]
            exact kn
        · rintro H5 zs o5 p5 hD5 ⟨ps, t, pl2, sm, pr, ke⟩
          rw [List.length_map] at ke pl2 p5
          rw [List.take_length] at ke
          refine n_of ⟨Dp, zs, rfl, sq_of hD5, fun a ob od ha => ?_⟩
          refine q _ (.ref a) ps (((o.trans (Off.of e2)).trans o5).trans (Off.of (Ex.new ha))) ((p5.updD (p5.ne ha)).up (by omega)) (.tup (.inl (.inr ⟨ob, upd_same⟩)) (t.ex (Ex.new ha))) ⟨by omega, fun p hp => (sm p hp).1, ?_, by rw [ke]; exact asc⟩ (fun k v hm => (sm _ hm).2 k v rfl) (fun _ => ⟨a, zs, rfl, ⟨ob, od, upd_same⟩, t.ex (Ex.new ha)⟩)
          rcases hsh2 with e | e
          · refine .inl ⟨e, fun p hp => ?_⟩
            obtain ⟨k, ov, rfl, nn⟩ := pr p hp
            cases ov with
            | none => exact absurd rfl (nn e)
            | some v => exact ⟨k, v, rfl⟩
          · refine .inr (.inl ⟨e, fun p hp => ?_⟩)
            obtain ⟨k, ov, rfl, nn⟩ := pr p hp
            exact ⟨k, ov, rfl⟩
end
end Sn
namespace Sn
open PySem PySem.Spec PyProof.Rows L2 Evl Gd
def NameOk (z : Str) : Prop := (PyData.shown (.str z)).length ≤ 12 ∧ (PyData.shown (.str z)).cps.toList = 39 :: (z.cps.toList ++ [39]) ∧ PyData.strOk z = true ∧ z.cps.toList.all (fun c => decide (c < 128)) = true
def words3 : List Str := ["pin ", "hold ", "queue "]
def names4 : List Str := ["a", "b", "Top", "x"]
theorem grip_len : ∀ w ∈ words3, ∀ i : Fin 201, (PyData.shown (.str (w ++ ((toString ((i.val : Nat) : Int) : String) : Str)))).length ≤ 12 ∧ (PyData.shown (.str (w ++ ((toString ((i.val : Nat) : Int) : String) : Str)))).cps.toList = 39 :: ((w ++ ((toString ((i.val : Nat) : Int) : String) : Str)).cps.toList ++ [39]) ∧ PyData.strOk (w ++ ((toString ((i.val : Nat) : Int) : String) : Str)) = true ∧ (w ++ ((toString ((i.val : Nat) : Int) : String) : Str)).cps.toList.all (fun c => decide (c < 128)) = true := by decide +kernel
theorem name_len : ∀ w ∈ names4, (PyData.shown (.str w)).length ≤ 12 ∧ (PyData.shown (.str w)).cps.toList = 39 :: (w.cps.toList ++ [39]) ∧ PyData.strOk w = true ∧ w.cps.toList.all (fun c => decide (c < 128)) = true := by decide +kernel
theorem grip_ok {w : Str} {i : Int} (hw : w ∈ words3) (hi : 0 ≤ i ∧ i ≤ 200) : NameOk (w ++ ((toString i : String) : Str)) := by
  have := grip_len w hw ⟨i.toNat, by omega⟩
  rw [show (((⟨i.toNat, by omega⟩ : Fin 201).val : Nat) : Int) = i from Int.toNat_of_nonneg hi.1] at this
  exact this
/-- w + str(i) -/
theorem ev_grip {σ : L2.St} {H : Hp} {w : Str} {i : Int} {j : Nat} (h : σ[j]? = some (some (.int i))) (hi : 0 ≤ i ∧ i ≤ 200) (hw : w.length ≤ 10) :
    Ev (tOp (fun x y H Q => ∃ i j, x = .str i ∧ y = .str j ∧ i.length + j.length ≤ sizeLine ∧ Q (.str (i ++ j)) H) (tC (.str w)) (tCB (fun xs H Q => ∃ i : Int, xs = [.int i] ∧ i.natAbs.log2 < 1920 ∧ Q (.str (toString i)) H) (tCons (tVar j) tNil))) σ H (.str (w ++ ((toString i : String) : Str))) := by
  intro H1 e1 Q q
  have tl : ((toString i : String) : Str).length ≤ 10 := int_len (by omega)
  refine op_of (k_of (cb_of (c_of (v_of h (n_of ⟨i, rfl, ?_, ⟨w, _, rfl, rfl, ?_, q H1 (Ex.refl H1)⟩⟩)))))
  · have : i.natAbs < 2 ^ 1920 := Nat.lt_of_lt_of_le (show i.natAbs < 2 ^ 10 by omega) (Nat.pow_le_pow_right (by decide) (by decide))
    by_cases z : i.natAbs = 0
    · rw [z]
      decide
    · exact (Nat.log2_lt z).mpr this
  · rw [sizeLine_eq]
    omega
/-- a table with texts as keys, of roots -/
def EntsR (fs : List Int) (kvs : List (Key × V)) : Prop := (kvs.map (·.1)).Nodup ∧ ∀ p ∈ kvs, ∃ z i, p = (.inr z, .int i) ∧ NameOk z ∧ i ∈ fs
theorem EntsR.nil {fs : List Int} : EntsR fs [] := ⟨.nil, fun _ h => absurd h List.not_mem_nil⟩
theorem EntsR.put {fs : List Int} {kvs : List (Key × V)} {z : Str} {i : Int} (h : EntsR fs kvs) (hz : NameOk z) (hi : i ∈ fs) : EntsR fs (putK kvs (.inr z) (.int i)) := by
  refine ⟨put_nodup h.1, fun p hp => ?_⟩
  rcases put_mem hp with e | ⟨m, _⟩
  · exact ⟨z, i, e, hz, hi⟩
  · exact h.2 p m
theorem EntsR.texts {fs : List Int} {kvs : List (Key × V)} (h : EntsR fs kvs) : ∃ ks : List Str, kvs.map (·.1) = ks.map Sum.inr ∧ ks.Nodup ∧ ks.length = kvs.length ∧ ∀ z ∈ ks, NameOk z ∧ ∃ i, valV kvs (.inr z) = some (.int i) ∧ i ∈ fs := by
  have e : ∃ ks : List Str, kvs.map (·.1) = ks.map Sum.inr := by
    have g := h.2
    clear h
    induction kvs with
    | nil => exact ⟨[], rfl⟩
    | cons p r ih =>
      obtain ⟨ks, e⟩ := ih fun q hq => g q (List.mem_cons_of_mem _ hq)
      obtain ⟨k, i, e1, _⟩ := g p List.mem_cons_self
      exact ⟨k :: ks, by rw [List.map_cons, List.map_cons, e, e1]⟩
  obtain ⟨ks, e⟩ := e
  refine ⟨ks, e, ?_, ?_, fun k hk => ?_⟩
  · have := h.1
    rw [e] at this
    exact List.Pairwise.imp (fun q z => q (by rw [z])) (List.pairwise_map.mp this)
  · have := congrArg List.length e
    rw [List.length_map, List.length_map] at this
    exact this.symm
  · have m : (Sum.inr k : Key) ∈ kvs.map (·.1) := by
      rw [e]
      exact List.mem_map.mpr ⟨k, hk, rfl⟩
    obtain ⟨p, hp, e1⟩ := List.mem_map.mp m
    obtain ⟨k2, i, e2, a, b⟩ := h.2 p hp
    have e3 : p.1 = Sum.inr k := e1
    have v := val_at h.1 hp
    rw [e2] at e3 v
    have e4 : k2 = k := Sum.inr.inj e3
    exact ⟨e4 ▸ a, i, by rw [← e4]; exact v, b⟩
abbrev sShot : Stmt := topS 25
abbrev nShot : List Str := ["_law_box_here", "_law_most", "_law_numbers_here", "_law_objects", "_law_roots", "_law_item", "_law_sort", "_law_turn", "_law_root"]
theorem scShot : FnScope nShot ["_law_box_here", "_law_most"] (defScope sShot) := ⟨rfl, rfl, rfl, by decide +kernel, rfl, by decide +kernel, by decide +kernel⟩
/-- what is known of a drawn thing -/
def ThingOk (t : Thing) : Prop := OkParts t.sort t.parts ∧ 0 ≤ t.n ∧ t.n ≤ 200 ∧ (t.home = "counted" ∨ t.home = "traced")
structure Drawn (s : Shot) : Prop where
  len : s.things.length ≤ 12
  th : ∀ t ∈ s.things, ThingOk t
  ins : ∀ t ∈ s.things, InFs (s.things.map Thing.n) t.parts
  asc : (s.things.map Thing.n).Pairwise (· < ·)
  rl : s.roots.length ≤ 3
  rn : (s.roots.map (·.1)).Nodup
  rt : ∀ r ∈ s.roots, NameOk r.1 ∧ r.2 ∈ s.things.map Thing.n
theorem KeepP.pot {K : PySem.W.Frag} {H H' : Hp} {d : Addr} {n : Int} (p : Pot H d n) (o : Off d H H') : KeepP K H H' := by
  obtain ⟨g, b, m, h0, _⟩ := p
  exact .lst h0 o
def spShot (K : PySem.W.Frag) : Sp := fun vs H Q _ => ∃ (d : Addr) (n mo : Int), vs = [.ref d, .int mo] ∧ 0 < mo ∧ mo ≤ 12 ∧ Pot H d n ∧ n ≤ 700000 ∧
  ∀ (H' : Hp) (x : V) (s : Shot), Off d H H' → Pot H' d (n + 600) → Td K H' x (dShot s) → Drawn s → (1 ≤ s.things.length ∧ TdS K H' x s) → Q x H'
section
variable {P : Program} {w : World} {K : PySem.W.Frag} {mg : Str → Option Value} {base : Heap}
theorem ok_shot {f fT fO fN fP : Addr} {fd fdT fdO fdN fdP : FuncData} (F : Fun K "_law_shot" "_law_shot" sShot f fd) (FT : Fun K "_law_take" "_law_take" sTake fT fdT) (FO : Fun K "_law_of" "_law_of" sOf fO fdO) (FN : Fun K "_law_numbers" "_law_numbers" sNums fN fdN) (FP : Fun K "_law_parts" "_law_parts" sParts fP fdP)
    (bT : Binds K fdT ["_law_box_here", "_law_many"] []) (bO : Binds K fdO ["_law_box_here", "_law_some"] []) (bN : Binds K fdN ["_law_box_here", "_law_most"] []) (bP : Binds K fdP ["_law_box_here", "_law_sort", "_law_numbers_here"] [])
    (gT : mg "_law_take" = some (.ref fT)) (gO : mg "_law_of" = some (.ref fO)) (gN : mg "_law_numbers" = some (.ref fN)) (gP : mg "_law_parts" = some (.ref fP)) (mL : mg "len" = none) (mS : mg "str" = none) (mT : mg "tuple" = none) (mO : mg "sorted" = none) (mR : mg "range" = none) : FnOk P w K mg base CX0 4 f fd ["_law_box_here", "_law_most"] (spShot K) := by
  have GO : FnOk P w K mg base CX0 3 fO fdO ["_law_box_here", "_law_some"] spOf := (ok_of FO FT bT gT mL).mono (by decide)
  have GN : FnOk P w K mg base CX0 3 fN fdN ["_law_box_here", "_law_most"] spNums := ok_nums FN FT FO bT bO gT gO mL mR
  have GP : FnOk P w K mg base CX0 3 fP fdP ["_law_box_here", "_law_sort", "_law_numbers_here"] (spParts K) := ok_parts FP FT FO bT bO gT gO mL mR mT mO
  refine F.ok scShot (fun vs H Q E h => ?_) (fun cdv A outer s H vs Q E hr h => ?_)
  · obtain ⟨d, n, mo, rfl, _⟩ := h
    rfl
  · obtain ⟨d, n, mo, rfl, mo0, mo1, pot, hn, q⟩ := h
    have hu := hu_of hr
    refine ⟨_, pss_cons (ps_asg (pe_tup (pa_cons (pe_call GN hr (by rfl) gN FN.kp bN .nil pass0 (pa_cons (pv 0) <| pa_cons (pv 1) pa_nil)) <| pa_cons (pe_lst pa_nil) <| pa_cons pe_dnewK pa_nil)) (pg_tup (n := 3) rfl (pgs_cons (pg_name (i := 2) scShot.nd rfl (.inl rfl)) <| pgs_cons (pg_name (i := 3) scShot.nd rfl (.inl rfl)) <| pgs_cons (pg_name (i := 4) scShot.nd rfl (.inr rfl)) pgs_nil))) <|
      pss_cons (ps_for PassesOwn.never rfl (pi_list (pv 2)) (pg_name (i := 5) scShot.nd rfl (.inl rfl))
        (pss_cons (ps_set (i := 6) scShot.nd rfl (.inl rfl) (pe_call GO hr (by rfl) gO FO.kp bO .nil pass0 (pa_cons (pv 0) <| pa_cons (pe_lst (pa_cons pe_str <| pa_cons pe_str <| pa_cons pe_str <| pa_cons pe_str <| pa_cons pe_str <| pa_cons pe_str pa_nil)) pa_nil))) <|
        pss_one (ps_expr (pe_bm PySem.F.plainAttrs_list PySem.F.slot_list_append PySem.F.type_list_append mt_append (pv 3) (pa_cons (pe_tup (pa_cons (pv 5) <| pa_cons (pe_call GO hr (by rfl) gO FO.kp bO .nil pass0 (pa_cons (pv 0) <| pa_cons (pe_lst (pa_cons pe_str <| pa_cons pe_str pa_nil)) pa_nil)) <| pa_cons (pv 6) <| pa_cons (pe_call GP hr (by rfl) gP FP.kp bP .nil pass0 (pa_cons (pv 0) <| pa_cons (pv 6) <| pa_cons (pv 2) pa_nil)) pa_nil)) pa_nil))))) <|
      pss_cons (ps_for PassesOwn.never rfl (pi_range1 (by rfl) mR (pa_cons (pe_call GO hr (by rfl) gO FO.kp bO .nil pass0 (pa_cons (pv 0) <| pa_cons (pe_lst (pa_cons pe_int <| pa_cons pe_int <| pa_cons pe_int <| pa_cons pe_int <| pa_cons pe_int pa_nil)) pa_nil)) pa_nil)) (pg_name (i := 7) scShot.nd rfl (.inl rfl))
        (pss_cons (ps_set (i := 5) scShot.nd rfl (.inl rfl) (pe_call GO hr (by rfl) gO FO.kp bO .nil pass0 (pa_cons (pv 0) <| pa_cons (pv 2) pa_nil))) <|
        pss_cons (ps_set (i := 8) scShot.nd rfl (.inl rfl) (pe_call GO hr (by rfl) gO FO.kp bO .nil pass0 (pa_cons (pv 0) <| pa_cons (pe_lst (pa_cons pe_str <| pa_cons pe_str <| pa_cons pe_str <| pa_cons pe_str <|
            pa_cons (pe_op op_add_str pe_str (pe_callTy call_str_int (by rfl) mS (by decide +kernel) (pa_cons (pv 5) pa_nil))) <| pa_cons (pe_op op_add_str pe_str (pe_callTy call_str_int (by rfl) mS (by decide +kernel) (pa_cons (pv 5) pa_nil))) <| pa_cons (pe_op op_add_str pe_str (pe_callTy call_str_int (by rfl) mS (by decide +kernel) (pa_cons (pv 5) pa_nil))) pa_nil)) pa_nil))) <|
        pss_one (ps_dput hu (pv 4) (pv 8) (pv 5) rfl))) <|
      pss_one (ps_ret (pe_tup (pa_cons (pe_callTy cr_tupP (by rfl) mT (by decide +kernel) (pa_cons (pe_lc (own := [("_law_root", 8)]) (g := gName 8) (tt := tYes) (te := tTup (tCons (tVar 8) (tCons (tDGet (tVar 4) (tVar 8)) tNil))) rfl scShot.nd (pi_list (pe_callB (call_sortedD rfl) (by rfl) mO (by decide +kernel) (pa_cons (pv 4) pa_nil))) (blkOk_by (N := nShot) (sc := defScope sShot) (by decide +kernel))
          (fun _ _ _ _ _ => pg_name (i := 8) scShot.nd rfl (.inl rfl)) (fun _ _ _ _ _ => pts_nil) (fun _ _ _ _ _ => pe_tup (pa_cons (pv 8) <| pa_cons (pe_dget hu (pv 4) (pv 8) (fun _ _ => rfl)) pa_nil))) pa_nil)) <| pa_cons (pe_callTy call_tuple_of (by rfl) mT (by decide +kernel) (pa_cons (pv 3) pa_nil)) pa_nil))), ?_⟩
    refine seq_of (asgG_of (tup_of (c_of (call_of (c_of (v_of rfl (c_of (v_of rfl (n_of ⟨d, n, mo, rfl, mo0, mo1, pot, by omega, fun H1 l fs o1 p1 nld hl0 hl fl fl2 fb fasc => ?_⟩)))))))))
    refine c_of (lst_of (n_of ⟨Nat.zero_le _, fun th hth => ?_⟩))
    have nthd := p1.ne hth
    have nlt : l ≠ th := ne_of_none hl hth
    have eA : Ex H1 (upd H1 th (.lst [])) := Ex.new hth
    have lA := eA _ _ hl
    have tA : (upd H1 th (.lst [])) th = some (.lst []) := upd_same
    have pA := p1.ex eA
    have oA := o1.trans (Off.of eA)
    have Hth : H th = none := by
      cases e : H th with
      | none => rfl
      | some o => rw [o1 th o nthd e] at hth; cases hth
    generalize upd H1 th (.lst []) = HA at eA lA tA pA oA ⊢
    refine c_of (newK_of fun dk hdk => n_of ⟨by show 3 ≤ sizeLine; decide, fun p3 hp3 => ?_⟩)
    have ndk := pA.ne hdk
    have nld2 : l ≠ dk := ne_of_none lA hdk
    have ntd2 : th ≠ dk := ne_of_none tA hdk
    have Hdk : H dk = none := by
      cases e : H dk with
      | none => rfl
      | some o => rw [oA dk o ndk e] at hdk; cases hdk
    have eB : Ex HA (upd HA dk (.dK [])) := Ex.new hdk
    have eC : Ex (upd HA dk (.dK [])) (upd (upd HA dk (.dK [])) p3 (.tup [.ref l, .ref th, .ref dk])) := Ex.new hp3
    have lC := (eB.trans eC) _ _ lA
    have tC := (eB.trans eC) _ _ tA
    have dC := eC _ _ (upd_same (H := HA) (a := dk) (o := .dK []))
    have pC := pA.ex (eB.trans eC)
    have oC := oA.trans (Off.of (eB.trans eC))
    refine ⟨p3, _, rfl, st_of upd_same, rfl, .ref l, _, rfl, .ref th, _, rfl, .ref dk, _, rfl, rfl, ?_⟩
    generalize upd (upd HA dk (.dK [])) p3 (.tup [.ref l, .ref th, .ref dk]) = HC at lC tC dC pC oC ⊢
    refine ⟨.ref l, rfl, l, rfl, ⟨_, sq_of lC⟩, for_list (K := K) (a := l) (xs := fs.map V.int) (fun i σ' H' => ∃ y5 y6 ts ys, σ' = [some (.ref d), some (.int mo), some (.ref l), some (.ref th), some (.ref dk), y5, y6, none, none] ∧ Off d H H' ∧ Pot H' d (n + 30 + 42 * (i : Int)) ∧ H' l = some (.lst (fs.map V.int)) ∧ H' th = some (.lst ys) ∧ H' dk = some (.dK []) ∧ TdAll K H' ys (ts.map dThing) ∧ ts.map Thing.n = fs.take i ∧ (∀ t ∈ ts, ThingOk t ∧ InFs fs t.parts) ∧ Paired (ThS K H') ys ts)
      ⟨none, none, [], [], rfl, oC, pC.up (by omega), lC, tC, dC, .nil, rfl, fun _ h => absurd h List.not_mem_nil, .nil⟩ (fun i σ' H' _ ⟨_, _, _, _, _, _, _, h, _⟩ => sq_of h) ?_ ?_⟩
    · rintro i x σ' H' hx ⟨y5, y6, ts, ys, rfl, o, p, hl', ht', hd', td, tn, tok, plt⟩
      obtain ⟨k, hk, rfl⟩ := at_map hx
      have il : i < fs.length := (List.getElem?_eq_some_iff.mp hk).1
      have kb := fb k (List.mem_of_getElem? hk)
      have tsl : ts.length = i := by
        have := congrArg List.length tn
        rw [List.length_map, List.length_take] at this
        omega
      dsimp only [gName]
      refine seq_of (asg_of (rd_of (ev_var rfl) p (by omega) (el_lst (ea_cons ev_c (ea_cons ev_c (ea_cons ev_c (ea_cons ev_c (ea_cons ev_c (ea_cons ev_c ea_nil)))))) (by show 6 ≤ 100000; decide)) (by show 0 < 6; decide) (by show 6 ≤ 1000; decide) fun H4 x hx o4 p4 => ?_))
      obtain ⟨sh, hsh, rfl⟩ : ∃ sh : Str, (sh = "record" ∨ sh = "map" ∨ sh = "weak") ∧ x = .str sh := by
        simp only [List.mem_cons, List.not_mem_nil, or_false] at hx
        rcases hx with e | e | e | e | e | e
        · exact ⟨_, .inl rfl, e⟩
        · exact ⟨_, .inl rfl, e⟩
        · exact ⟨_, .inl rfl, e⟩
        · exact ⟨_, .inr (.inl rfl), e⟩
        · exact ⟨_, .inr (.inl rfl), e⟩
        · exact ⟨_, .inr (.inr rfl), e⟩
      have hth4 := o4 th _ nthd ht'
      have hl4 := o4 l _ nld hl'
      refine ⟨.ref th, rfl, .inl ⟨rfl, _, sq_of hth4⟩, ?_⟩
      refine c_of (tup_of (c_of (v_of rfl ?_)))
      refine c_of (rd_of (ev_var rfl) p4 (by omega) (el_lst (ea_cons ev_c (ea_cons ev_c ea_nil)) (by show 2 ≤ 100000; decide)) (by show 0 < 2; decide) (by show 2 ≤ 1000; decide) fun H5 x hx o5 p5 => ?_)
      refine c_of (v_of rfl ?_)
      refine c_of (call_of ?_)
      refine c_of (v_of rfl (c_of (v_of rfl (c_of (v_of rfl (n_of ?_))))))
      obtain ⟨hm, hhm, rfl⟩ : ∃ hm : Str, (hm = "counted" ∨ hm = "traced") ∧ x = .str hm := by
        rcases List.mem_cons.mp hx with e | hx
        · exact ⟨_, .inl rfl, e⟩
        · rw [List.mem_singleton.mp hx]
          exact ⟨_, .inr rfl, rfl⟩
      have hl5 := o5 l _ nld hl4
      refine ⟨d, l, n + 30 + 42 * (i : Int) + 1 + 1, sh, fs, rfl, p5, by omega, nld, hl5, by omega, fl2, fb, fasc, hsh, fun H6 x ps o6 p6 tdx okp inf pl6 => ?_⟩
      refine n_of ⟨by show 4 ≤ sizeLine; decide, fun a ha => ?_⟩
      have e7 : Ex H6 (upd H6 a (.tup [.int k, .str hm, .str sh, x])) := Ex.new ha
      have td7 : Td K (upd H6 a (.tup [.int k, .str hm, .str sh, x])) (.ref a) (dThing ⟨k, hm, sh, ps⟩) := .tup (st_of upd_same) (.cons (.int k) (.cons (.str hm) (.cons (.str sh) (.cons (tdx.ex e7) .nil))))
      have o47 : Off d H' (upd H6 a (.tup [.int k, .str hm, .str sh, x])) := ((o4.trans o5).trans o6).trans (Off.of e7)
      have p7 := p6.ex e7
      obtain ⟨p4, s4, e4', q4, tp4⟩ := Td.inv_tup tdx
      have pt7 : ThS K (upd H6 a (.tup [.int k, .str hm, .str sh, x])) (.ref a) ⟨k, hm, sh, ps⟩ := by
        by_cases z : sh = "weak"
        · exact ⟨a, p4, s4, rfl, by rw [e4']; exact st_of upd_same, ex_t e7 q4, tp4.ex e7, fun w => absurd z w⟩
        · obtain ⟨p5, s5, e5, q5, t5⟩ := pl6 z
          exact ⟨a, p5, s5, rfl, by rw [e5]; exact st_of upd_same, (q5.ex e7).sq, t5.ex e7, fun _ => q5.ex e7⟩
      generalize upd H6 a (.tup [.int k, .str hm, .str sh, x]) = H7 at e7 td7 o47 p7 pt7 ⊢
      have ht7 := o47 th _ nthd ht'
      have yl : ys.length = i := by
        rw [td.len, List.length_map, tsl]
      refine n_of ⟨th, ys, _, rfl, rfl, ht7, sz_lt (by omega), ?_⟩
      have k8 : KeepT K H7 (upd H7 th (.lst (ys ++ [.ref a]))) := .lst ht7 fun a o n h => by
        rw [upd_ne n]
        exact h
      have kp8 : KeepP K H7 (upd H7 th (.lst (ys ++ [.ref a]))) := .lst ht7 fun a o n h => by
        rw [upd_ne n]
        exact h
      refine ⟨_, _, ts ++ [⟨k, hm, sh, ps⟩], ys ++ [.ref a], rfl, (o.trans o47).fresh Hth, (p7.updD nthd).up (by push_cast; omega), ?_, upd_same, ?_, ?_, ?_, fun t ht => ?_, ?_⟩
      · rw [upd_ne nlt]
        exact o47 l _ nld hl'
      · rw [upd_ne ntd2.symm]
        exact o47 dk _ ndk hd'
      · rw [List.map_append]
        exact ((td.keep (keepOff p o47)).snoc td7).keep k8
      · rw [List.map_append, tn, take_one hk]
        rfl
      · rcases List.mem_append.mp ht with h | h
        · exact tok t h
        · rw [List.mem_singleton.mp h]
          exact ⟨⟨okp, kb.1, kb.2, hhm⟩, inf⟩
      · exact paired_snoc (pt7.kp kp8) (L2.Paired.mapP plt fun _ _ z => (z.kp (.pot p o47)).kp kp8)
    · rintro σ' H' ⟨y5, y6, ts, ys, rfl, o, p, hl', ht', hd', td, tn, tok, plt⟩
      rw [List.length_map] at tn p
      rw [List.take_length] at tn
      have tsl : ts.length = fs.length := by
        rw [← tn, List.length_map]
      refine seq_of (for1_of (c_of (rd_ofI (xs := [1, 1, 2, 3, 0]) rfl p (by omega) (el_lst (ea_cons ev_c (ea_cons ev_c (ea_cons ev_c (ea_cons ev_c (ea_cons ev_c ea_nil))))) (by show 5 ≤ 100000; decide)) (by decide) (by decide) fun H2 r hr2 o2 p2 => ?_)))
      have rb : 0 ≤ r ∧ r ≤ 3 := (show ∀ r ∈ [1, 1, 2, 3, (0 : Int)], 0 ≤ r ∧ r ≤ 3 by decide) r hr2
      refine n_of ⟨r, rfl, by omega, by omega, for_range (lo := 0) (n := r.toNat) (fun i σ' H' => ∃ y5 y6 y7 y8 kvs, σ' = [some (.ref d), some (.int mo), some (.ref l), some (.ref th), some (.ref dk), y5, y6, y7, y8] ∧ Off d H H' ∧ Pot H' d (n + 540 + 2 * (i : Int)) ∧ H' l = some (.lst (fs.map V.int)) ∧ H' th = some (.lst ys) ∧ TdAll K H' ys (ts.map dThing) ∧ H' dk = some (.dK kvs) ∧ kvs.length ≤ i ∧ EntsR fs kvs ∧ Paired (ThS K H') ys ts)
        ⟨_, _, _, _, [], rfl, o.trans o2, p2.up (by omega), o2 l _ nld hl', o2 th _ nthd ht', td.keep (keepOff p o2), o2 dk _ ndk hd', Nat.le_refl _, .nil, L2.Paired.mapP plt fun _ _ z => z.kp (.pot p o2)⟩ ?_ ?_⟩
      · rintro i σ' H3 hi ⟨y5, y6, y7, y8, kvs, rfl, o3, p3, hl3, ht3, td3, hd3, len, en, pl3⟩
        dsimp only [gName]
        refine seq_of (asg_of (rd_ofF rfl rfl p3 (by omega) nld hl3 (by omega) fl2 fun H4 k hk o4 p4 => ?_))
        have kb := fb k hk
        dsimp only
        refine seq_of (asg_of (rd_of (ev_var rfl) p4 (by omega) (el_lst (ea_cons ev_c (ea_cons ev_c (ea_cons ev_c (ea_cons ev_c (ea_cons (ev_grip (j := 5) rfl kb (by decide)) (ea_cons (ev_grip (j := 5) rfl kb (by decide)) (ea_cons (ev_grip (j := 5) rfl kb (by decide)) ea_nil))))))) (by show 7 ≤ 100000; decide)) (by show 0 < 7; decide) (by show 7 ≤ 1000; decide) fun H5 x hx o5 p5 => ?_))
        obtain ⟨z, hz, rfl⟩ : ∃ z : Str, NameOk z ∧ x = .str z := by
          simp only [List.mem_cons, List.not_mem_nil, or_false] at hx
          rcases hx with e | e | e | e | e | e | e
          · exact ⟨_, name_len _ (by decide), e⟩
          · exact ⟨_, name_len _ (by decide), e⟩
          · exact ⟨_, name_len _ (by decide), e⟩
          · exact ⟨_, name_len _ (by decide), e⟩
          · exact ⟨_, grip_ok (w := "pin ") (by decide) kb, e⟩
          · exact ⟨_, grip_ok (w := "hold ") (by decide) kb, e⟩
          · exact ⟨_, grip_ok (w := "queue ") (by decide) kb, e⟩
        have o35 := o4.trans o5
        have hd5 := o35 dk _ ndk hd3
        dsimp only
        refine put_of (v_of rfl (v_of rfl (v_of rfl ⟨dk, _, rfl, .k (k := .inr z) hd5 (sz_lt (by omega)), ?_⟩)))
        have k8 : KeepT K H5 (upd H5 dk (.dK (putK kvs (.inr z) (.int k)))) := .off hd5 ⟨(fun _ x => nomatch x), (fun _ _ x => nomatch x)⟩ fun a o n h => by
          rw [upd_ne n]
          exact h
        refine ⟨_, _, _, _, _, rfl, (o3.trans o35).fresh Hdk, (p5.updD ndk).up (by push_cast; omega), ?_, ?_, (td3.keep (keepOff p3 o35)).keep k8, upd_same, Nat.le_trans (length_putK _ _ _) (by omega), en.put hz hk, L2.Paired.mapP pl3 fun _ _ z => (z.kp (.pot p3 o35)).kp (.off hd5 ⟨(fun _ x => nomatch x), (fun _ _ x => nomatch x)⟩ fun a o n h => by rw [upd_ne n]; exact h)⟩
        · rw [upd_ne nld2]
          exact o35 l _ nld hl3
        · rw [upd_ne ntd2]
          exact o35 th _ nthd ht3
      · rintro σ' H3 ⟨y5, y6, y7, y8, kvs, rfl, o3, p3, hl3, ht3, td3, hd3, len, en, pl3⟩
        obtain ⟨ks, hks, knd, kl, kv⟩ := en.texts
        dsimp only
        refine ret_of (tup_of (c_of (cb_of (c_of ?_))))
        refine lc_of (iL_of (cb_of (c_of (v_of rfl (n_of ⟨dk, kvs, ks, rfl, .inl hd3, hks, by omega, fun zs pl perm srt hp => ⟨pl, rfl, ⟨_, sq_of upd_same⟩, ?_⟩⟩)))))
        intro Dp hDp
        have p4 := p3.updD (o := .lst (zs.map V.str)) (p3.ne hp)
        have e4 : Ex H3 (upd H3 pl (.lst (zs.map V.str))) := Ex.new hp
        have hd4 := e4 _ _ hd3
        have l4 : (upd H3 pl (.lst (zs.map V.str))) pl = some (.lst (zs.map V.str)) := upd_same
        have npl := p3.ne hp
        have yl : zs.length ≤ 3 := by
          rw [perm.length_eq]
          omega
        generalize upd H3 pl (.lst (zs.map V.str)) = H4 at p4 e4 hd4 l4 hDp ⊢
        refine lcj (K := K) (walk_list (K := K) (a := pl) (xs := zs.map V.str)) (fun i => (zs.map V.str)[i]?) (n := n + 546) (c := 0) (fun i us H' => ∃ rs : List (Str × Int), TdAll K H' us (rs.map dRoot) ∧ rs.length ≤ i ∧ rs.map (·.1) = zs.take i ∧ ∀ r ∈ rs, NameOk r.1 ∧ r.2 ∈ fs)
          (fun H' o => sq_of (o pl _ npl l4)) (fun i H x H' y => y) hDp (p4.up (by omega)) (by decide) (by rw [List.length_map]; omega) (fun _ => ⟨[], .nil, Nat.le_refl _, rfl, fun _ h => absurd h List.not_mem_nil⟩) (fun i us H r => ?_) (fun i us H H' kk r => ?_) (fun x => rfl) ?_ ?_
        · obtain ⟨ps, t, h, _⟩ := r
          rw [t.len, List.length_map]
          exact h
        · obtain ⟨ps, t, h⟩ := r
          exact ⟨ps, t.keep kk.t, h⟩
        · rintro i x us H5 hi hx o5 p5 ⟨rs, t, rl, rn, rt⟩ k1 k0 h1 h0
          rw [List.length_map] at hi
          obtain ⟨z, hz, rfl⟩ : ∃ z, zs[i]? = some z ∧ x = V.str z := by
            rw [List.getElem?_map] at hx
            cases e : zs[i]? with
            | none => rw [e] at hx; cases hx
            | some z => rw [e] at hx; exact ⟨z, rfl, (Option.some.inj hx).symm⟩
          obtain ⟨nz, k, hv, hk⟩ := kv z (perm.mem_iff.mp (List.mem_of_getElem? hz))
          have hd5 := o5 dk _ ndk hd4
          dsimp only [tYes]
          rw [if_pos rfl]
          have dg : DGet H5 dk (.str z) (some (.int k)) := by
            have := DGet.k (k := .inr z) hd5
            rw [hv] at this
            exact this
          refine tup_of (c_of (v_of rfl (c_of (dget_of (v_of rfl (v_of rfl ⟨dk, .int k, rfl, dg, n_of ⟨by show 2 ≤ sizeLine; decide, fun a ha => ?_⟩⟩))))))
          refine h1 _ _ (Off.of (Ex.new ha)) ((p5.updD (p5.ne ha)).up (by push_cast; omega)) ⟨rs ++ [(z, k)], ?_, by rw [List.length_append, List.length_singleton]; omega, ?_, ?_⟩
          · rw [List.map_append]
            exact (t.ex (Ex.new ha)).snoc (.tup (st_of upd_same) (.cons (.str z) (.cons (.int k) .nil)))
          · rw [List.map_append, rn, take_one hz]
            rfl
          · intro r hr
            rcases List.mem_append.mp hr with h | h
            · exact rt r h
            · rw [List.mem_singleton.mp h]
              exact ⟨nz, hk⟩
        · rintro H5 us o5 p5 hD5 ⟨rs, t, rl, rn, rt⟩
          rw [List.length_map] at rn rl p5
          rw [List.take_length] at rn
          refine n_of ⟨Dp, us, rfl, sq_of hD5, fun a ob od ha => ?_⟩
          have e6 : Ex H5 (upd H5 a (.frz ob (.tup us))) := Ex.new ha
          have tx6 : Td K (upd H5 a (.frz ob (.tup us))) (.ref a) (.tuple (rs.map dRoot)) := .tup (.inl (.inr ⟨ob, upd_same⟩)) (t.ex e6)
          have pl6 : PlT (upd H5 a (.frz ob (.tup us))) a us := ⟨ob, od, upd_same⟩
          have o36 := ((Off.of e4 (d := d)).trans o5).trans (Off.of e6)
          have th6 := o36 th _ nthd ht3
          have td6 := td3.keep (keepOff p3 o36)
          have p6 := p5.ex e6
          have pt6 : Paired (ThS K (upd H5 a (.frz ob (.tup us)))) ys ts := L2.Paired.mapP pl3 fun _ _ z => z.kp (.pot p3 o36)
          have tr6 := t.ex e6
          generalize upd H5 a (.frz ob (.tup us)) = H6 at e6 tx6 o36 th6 td6 p6 pl6 pt6 tr6 ⊢
          refine c_of (cb_of (c_of (v_of rfl (n_of ⟨th, ys, rfl, .inl ⟨sq_of th6, fun a1 h1 => n_of ⟨by show 2 ≤ sizeLine; decide, fun a2 h2 => ?_⟩⟩⟩))))
          have e7 : Ex H6 (upd H6 a1 (.tup ys)) := Ex.new h1
          have e8 : Ex (upd H6 a1 (.tup ys)) (upd (upd H6 a1 (.tup ys)) a2 (.tup [.ref a, .ref a1])) := Ex.new h2
          refine q _ (.ref a2) ⟨rs, ts⟩ ((o3.trans o36).trans (Off.of (e7.trans e8))) ((p6.ex (e7.trans e8)).up (by omega)) ?_ ⟨by show ts.length ≤ 12; omega, fun t ht => (tok t ht).1, fun t ht => by rw [show (Shot.mk rs ts).things.map Thing.n = _ from tn]; exact (tok t ht).2, by rw [show (Shot.mk rs ts).things.map Thing.n = _ from tn]; exact fasc, by show rs.length ≤ 3; omega, ?_, fun r hr => ?_⟩ ⟨by show 1 ≤ ts.length; omega, a2, a, a1, us, ys, rfl, st_of upd_same, pl6.ex (e7.trans e8), tr6.ex (e7.trans e8), st_of (e8 _ _ upd_same), L2.Paired.mapP pt6 fun _ _ z => z.kp (.ex (e7.trans e8))⟩
          · exact .tup (st_of upd_same) (.cons (tx6.ex (e7.trans e8)) (.cons (.tup (st_of (e8 _ _ upd_same)) (td6.ex (e7.trans e8))) .nil))
          · show (rs.map (·.1)).Nodup
            rw [rn]
            exact perm.nodup_iff.mpr knd
          · rw [show (Shot.mk rs ts).things.map Thing.n = _ from tn]
            exact rt r hr
end
end Sn
namespace Sn
open PySem PySem.Spec PyProof.Rows L2 Evl Gd
theorem nodup_len {α : Type} [DecidableEq α] : ∀ {a b : List α}, a.Nodup → (∀ x ∈ a, x ∈ b) → a.length ≤ b.length
  | [], _, _, _ => Nat.zero_le _
  | x :: a, b, nd, h => by
    obtain ⟨p, q, e⟩ := List.append_of_mem (h x List.mem_cons_self)
    have nx := (List.nodup_cons.mp nd).1
    have r := nodup_len (b := p ++ q) (List.nodup_cons.mp nd).2 fun y hy => by
      have m := h y (List.mem_cons_of_mem _ hy)
      rw [e] at m
      rcases List.mem_append.mp m with m | m
      · exact List.mem_append.mpr (.inl m)
      · rcases List.mem_cons.mp m with m | m
        · rw [m] at hy
          exact absurd hy nx
        · exact List.mem_append.mpr (.inr m)
    rw [e, List.length_append, List.length_cons, List.length_cons]
    rw [List.length_append] at r
    omega
theorem Live.tgt {as : List Arc} {n : Int} (h : Live as n) : n ∈ as.map Arc.tgt := by
  cases h with
  | mk m _ => exact List.mem_map.mpr ⟨_, m, rfl⟩
theorem live_len {as : List Arc} {met : List Int} (nd : met.Nodup) (h : ∀ n ∈ met, Live as n) : met.length ≤ as.length := by
  have := nodup_len (b := as.map Arc.tgt) nd fun x hx => (h x hx).tgt
  rw [List.length_map] at this
  exact this
def insAll (met : List Int) (ns : List Int) : List Int := ns.foldl insT met
theorem merge_true : ∀ (ns met : List Int), mergeK (kTrue met) (ns.map fun n => (Sum.inl n, V.bl true)) = kTrue (insAll met ns)
  | [], met => rfl
  | n :: ns, met => by
    show mergeK (putK (kTrue met) (.inl n) (.bl true)) (ns.map fun n => (Sum.inl n, V.bl true)) = _
    rw [put_ins]
    exact merge_true ns (insT met n)
theorem insAll_mem : ∀ (ns met : List Int) (m : Int), m ∈ insAll met ns ↔ m ∈ met ∨ m ∈ ns
  | [], met, m => by simp [insAll]
  | n :: ns, met, m => by
    show m ∈ insAll (insT met n) ns ↔ _
    rw [insAll_mem ns (insT met n) m, insT_mem, List.mem_cons, or_assoc]
theorem insAll_nodup : ∀ (ns met : List Int), met.Nodup → (insAll met ns).Nodup
  | [], _, h => h
  | n :: ns, met, h => insAll_nodup ns (insT met n) (insT_nodup h)
/-- may be shown by repr: depth at most k, at most L signs -/
structure Fit (d : PyData) (k L : Nat) : Prop where
  sh : d.showable = true
  nd : d.hasDict = false
  dp : d.depth ≤ k
  ln : d.shown.length ≤ L
structure FitAll (ds : List PyData) (k L : Nat) : Prop where
  sh : PyData.showableAll ds = true
  nd : PyData.hasDictAll ds = false
  dp : PyData.depthAll ds ≤ k
  ln : piled (PyData.shownAll ds) ≤ L
theorem Fit.up {d : PyData} {k L k' L' : Nat} (h : Fit d k L) (a : k ≤ k') (b : L ≤ L') : Fit d k' L' := ⟨h.sh, h.nd, Nat.le_trans h.dp a, Nat.le_trans h.ln b⟩
theorem FitAll.nil {k L : Nat} : FitAll [] k L := ⟨rfl, rfl, Nat.zero_le _, Nat.zero_le _⟩
theorem FitAll.cons {d : PyData} {ds : List PyData} {k a b L : Nat} (h : Fit d k a) (g : FitAll ds k b) (e : a + 2 + b ≤ L) : FitAll (d :: ds) k L := by
  refine ⟨?_, ?_, ?_, ?_⟩
  · rw [PyData.showableAll, h.sh, g.sh]
    rfl
  · rw [PyData.hasDictAll, h.nd, g.nd]
    rfl
  · rw [PyData.depthAll]
    have := h.dp
    have := g.dp
    omega
  · rw [PyData.shownAll, piled_cons]
    have := h.ln
    have := g.ln
    omega
theorem FitAll.map {α : Type} {f : α → PyData} {k a : Nat} : ∀ {l : List α}, (∀ x ∈ l, Fit (f x) k a) → FitAll (l.map f) k ((a + 2) * l.length)
  | [], _ => .nil
  | x :: l, h => by
    refine FitAll.cons (h x List.mem_cons_self) (FitAll.map fun y hy => h y (List.mem_cons_of_mem _ hy)) ?_
    rw [List.length_cons, Nat.mul_succ]
    omega
theorem FitAll.up {ds : List PyData} {k L k' L' : Nat} (h : FitAll ds k L) (a : k ≤ k') (b : L ≤ L') : FitAll ds k' L' := ⟨h.sh, h.nd, Nat.le_trans h.dp a, Nat.le_trans h.ln b⟩
theorem FitAll.tup {ds : List PyData} {k L : Nat} (h : FitAll ds k L) : Fit (.tuple ds) (k + 1) (L + 2) := by
  refine ⟨?_, ?_, ?_, ?_⟩
  · rw [PyData.showable]
    exact h.sh
  · rw [PyData.hasDict]
    exact h.nd
  · rw [PyData.depth]
    have := h.dp
    omega
  · rw [PyData.shown]
    have := fmt_text (PyData.shownAll ds)
    have := h.ln
    omega
theorem FitAll.lst {ds : List PyData} {k L : Nat} (h : FitAll ds k L) : Fit (.list ds) (k + 1) (L + 3) := by
  refine ⟨?_, ?_, ?_, ?_⟩
  · rw [PyData.showable]
    exact h.sh
  · rw [PyData.hasDict]
    exact h.nd
  · rw [PyData.depth]
    have := h.dp
    omega
  · rw [PyData.shown]
    have h1 := listText_len_le (PyData.shownAll ds)
    have h2 := h.ln
    have h3 : ∀ ts : List Str, (ts.map (·.length)).sum + 2 * ts.length = piled ts := by
      intro ts
      induction ts with
      | nil => rfl
      | cons t ts ih =>
        rw [piled_cons, List.map_cons, List.sum_cons, List.length_cons, ← ih]
        omega
    rw [h3] at h1
    omega
theorem fit_int {i : Int} (h : 0 ≤ i ∧ i ≤ 1000) : Fit (.int i) 0 10 := by
  have hb : i.natAbs < 10 ^ 9 := by omega
  refine ⟨?_, rfl, Nat.le_refl _, int_len hb⟩
  have := ints_show [i] (fun m hm => by rw [List.mem_singleton.mp hm]; exact hb)
  rw [List.map_cons, List.map_nil, PyData.showableAll, PyData.showableAll, Bool.and_true] at this
  exact this
theorem fit_none : Fit .none 0 10 := ⟨rfl, rfl, Nat.le_refl _, by decide +kernel⟩
theorem fit_str {z : Str} {L : Nat} (h : (PyData.shown (.str z)).length ≤ L) : Fit (.str z) 0 L := ⟨rfl, rfl, Nat.le_refl _, h⟩
theorem fit_part {p : Part} (h : ∀ i ∈ partInts p, 0 ≤ i ∧ i ≤ 200) : Fit (dPart p) 1 30 := by
  cases p with
  | tgt n =>
    have := h n List.mem_cons_self
    exact (fit_int (i := n) ⟨this.1, by omega⟩).up (by decide) (by decide)
  | pair k v =>
    cases v with
    | none =>
      have := h k List.mem_cons_self
      exact (FitAll.cons (fit_int ⟨this.1, by omega⟩) (FitAll.cons fit_none (FitAll.nil (L := 0)) (Nat.le_refl _)) (Nat.le_refl _)).tup.up (by decide) (by decide)
    | some v =>
      have h1 := h k List.mem_cons_self
      have h2 := h v (List.mem_cons_of_mem _ List.mem_cons_self)
      exact (FitAll.cons (fit_int ⟨h1.1, by omega⟩) (FitAll.cons (fit_int ⟨h2.1, by omega⟩) (FitAll.nil (L := 0)) (Nat.le_refl _)) (Nat.le_refl _)).tup.up (by decide) (by decide)
theorem fit_thing {t : Thing} (h : ThingOk t) : Fit (dThing t) 3 400 := by
  obtain ⟨⟨pl, sm, sh, _⟩, n0, n1, hm⟩ := h
  have f1 : Fit (.str t.home) 2 12 := by
    rcases hm with e | e
    · rw [e]
      exact (fit_str (L := 12) (by decide +kernel)).up (by decide) (by decide)
    · rw [e]
      exact (fit_str (L := 12) (by decide +kernel)).up (by decide) (by decide)
  have f2 : Fit (.str t.sort) 2 12 := by
    rcases sh with ⟨e, _⟩ | ⟨e, _⟩ | ⟨e, _⟩
    · rw [e]
      exact (fit_str (L := 12) (by decide +kernel)).up (by decide) (by decide)
    · rw [e]
      exact (fit_str (L := 12) (by decide +kernel)).up (by decide) (by decide)
    · rw [e]
      exact (fit_str (L := 12) (by decide +kernel)).up (by decide) (by decide)
  have f3 : Fit (.tuple (t.parts.map dPart)) 2 322 := (FitAll.map fun p hp => fit_part (sm p hp)).tup.up (by decide) (by omega)
  exact (FitAll.cons ((fit_int (i := t.n) ⟨n0, by omega⟩).up (by decide) (Nat.le_refl _)) (FitAll.cons f1 (FitAll.cons f2 (FitAll.cons f3 (FitAll.nil (L := 0)) (Nat.le_refl _)) (Nat.le_refl _)) (Nat.le_refl _)) (Nat.le_refl _)).tup.up (by decide) (by decide)
theorem Drawn.nums {s : Shot} (h : Drawn s) : ∀ i ∈ s.things.map Thing.n, 0 ≤ i ∧ i ≤ 200 := by
  intro i hi
  obtain ⟨t, ht, rfl⟩ := List.mem_map.mp hi
  exact ⟨(h.th t ht).2.1, (h.th t ht).2.2.1⟩
theorem fit_root {r : Str × Int} (h1 : NameOk r.1) (h2 : 0 ≤ r.2 ∧ r.2 ≤ 200) : Fit (dRoot r) 1 30 :=
  (FitAll.cons (fit_str h1.1) (FitAll.cons (fit_int ⟨h2.1, by omega⟩) (FitAll.nil (L := 0)) (Nat.le_refl _)) (Nat.le_refl _)).tup.up (by decide) (by decide)
theorem Drawn.fit {s : Shot} (h : Drawn s) : Fit (dShot s) 5 10000 := by
  have f1 : Fit (.tuple (s.roots.map dRoot)) 4 1200 := (FitAll.map fun r m => fit_root (h.rt r m).1 (h.nums _ (h.rt r m).2)).tup.up (by decide) (by have := h.rl; omega)
  have f2 : Fit (.tuple (s.things.map dThing)) 4 5000 := (FitAll.map fun t m => fit_thing (h.th t m)).tup.up (by decide) (by have := h.len; omega)
  exact (FitAll.cons f1 (FitAll.cons f2 (FitAll.nil (L := 0)) (Nat.le_refl _)) (Nat.le_refl _)).tup.up (by decide) (by decide)
theorem thingArcs_len (t : Thing) : (thingArcs t).length ≤ t.parts.length := by
  unfold thingArcs
  split
  · exact List.length_filterMap_le _ _
  · split
    · exact List.length_filterMap_le _ _
    · exact Nat.zero_le _
theorem arcs_len (s : Shot) (k : Nat) (h : ∀ t ∈ s.things, t.parts.length ≤ k) : (arcsOf s).length ≤ s.roots.length + k * s.things.length := by
  unfold arcsOf
  rw [List.length_append, List.length_map]
  have : ∀ l : List Thing, (∀ t ∈ l, t.parts.length ≤ k) → (l.flatMap thingArcs).length ≤ k * l.length := by
    intro l hl
    induction l with
    | nil => exact Nat.zero_le _
    | cons t l ih =>
      rw [List.flatMap_cons, List.length_append, List.length_cons, Nat.mul_succ]
      have h1 := ih fun t ht => hl t (List.mem_cons_of_mem _ ht)
      have h2 := thingArcs_len t
      have h3 := hl t List.mem_cons_self
      omega
  have := this s.things h
  omega
theorem Drawn.tgts {s : Shot} (h : Drawn s) {α : Arc} (m : α ∈ arcsOf s) : α.tgt ∈ s.things.map Thing.n := by
  rcases List.mem_append.mp m with m | m
  · obtain ⟨r, hr, rfl⟩ := List.mem_map.mp m
    exact (h.rt r hr).2
  · obtain ⟨t, ht, m⟩ := List.mem_flatMap.mp m
    unfold thingArcs at m
    split at m
    · obtain ⟨p, hp, e⟩ := List.mem_filterMap.mp m
      unfold slotArc at e
      split at e
      · cases e
        exact h.ins t ht _ _ hp
      · cases e
    · split at m
      · obtain ⟨p, hp, e⟩ := List.mem_filterMap.mp m
        unfold entryArc at e
        split at e
        · cases e
          exact h.ins t ht _ _ hp
        · cases e
      · cases m
theorem Drawn.ok {s : Shot} (h : Drawn s) : okShot s := by
  have h1 := arcs_len s 10 fun t ht => (h.th t ht).1.1
  have h2 := h.rl
  have h3 := h.len
  refine ok_shot_of (fun t ht => (h.th t ht).1.2.2.1) (fun t ht => ?_) (h.asc.imp fun {a b} l e => by omega) (fun α m => h.tgts m) (by omega) (by omega)
  have := (h.th t ht).1.1
  omega
theorem Drawn.few {s : Shot} (h : Drawn s) {met : List Int} (nd : met.Nodup) (l : ∀ n ∈ met, Live (arcsOf s) n) : met.length ≤ 12 := by
  have h1 := nodup_len (b := s.things.map Thing.n) nd fun n hn => by
    cases l n hn with
    | mk m _ => exact h.tgts m
  rw [List.length_map] at h1
  have := h.len
  omega
theorem thing_link {t : Thing} {α : Arc} (h : α ∈ thingArcs t) : ∃ w k, α.link = [w, .inl t.n, k] := by
  unfold thingArcs at h
  split at h
  · obtain ⟨p, hp, e⟩ := List.mem_filterMap.mp h
    unfold slotArc at e
    split at e
    · cases e
      exact ⟨_, _, rfl⟩
    · cases e
  · split at h
    · obtain ⟨p, hp, e⟩ := List.mem_filterMap.mp h
      unfold entryArc at e
      split at e
      · cases e
        exact ⟨_, _, rfl⟩
      · cases e
    · cases h
/-- no two arcs have one link -/
theorem Drawn.links {s : Shot} (h : Drawn s) : ((arcsOf s).map Arc.link).Nodup := by
  unfold List.Nodup
  rw [List.pairwise_map]
  unfold arcsOf
  rw [List.pairwise_append]
  refine ⟨?_, ?_, ?_⟩
  · rw [List.pairwise_map]
    refine List.Pairwise.imp (fun {a b} z e => z ?_) (List.pairwise_map.mp h.rn)
    have e1 : ([.inr "root", .inr a.1] : List Key) = [.inr "root", .inr b.1] := e
    injection e1 with _ e2
    injection e2 with e3 _
    exact Sum.inr.inj e3
  · rw [List.pairwise_flatMap]
    refine ⟨fun t ht => ?_, ?_⟩
    · have as := List.pairwise_filterMap.mp (h.th t ht).1.2.2.2
      unfold thingArcs
      split
      · rw [List.pairwise_filterMap]
        refine List.Pairwise.imp (fun {p q} z a ha b hb e => ?_) as
        unfold slotArc at ha hb
        split at ha
        · split at hb
          · cases ha
            cases hb
            have z1 := z _ rfl _ rfl
            injection e with _ e2
            injection e2 with _ e3
            injection e3 with e4 _
            have := Sum.inl.inj e4
            omega
          · cases hb
        · cases ha
      · split
        · rw [List.pairwise_filterMap]
          refine List.Pairwise.imp (fun {p q} z a ha b hb e => ?_) as
          unfold entryArc at ha hb
          split at ha
          · split at hb
            · cases ha
              cases hb
              have z1 := z _ rfl _ rfl
              injection e with _ e2
              injection e2 with _ e3
              injection e3 with e4 _
              have := Sum.inl.inj e4
              omega
            · cases hb
          · cases ha
        · exact .nil
    · refine List.Pairwise.imp (fun {t u} z x hx y hy e => ?_) (List.pairwise_map.mp h.asc)
      obtain ⟨w, k, e1⟩ := thing_link hx
      obtain ⟨w2, k2, e2⟩ := thing_link hy
      rw [e1, e2] at e
      injection e with _ e
      injection e with e _
      have := Sum.inl.inj e
      omega
  · intro a ha b hb e
    obtain ⟨r, hr, rfl⟩ := List.mem_map.mp ha
    obtain ⟨t, ht, hb⟩ := List.mem_flatMap.mp hb
    obtain ⟨w2, k2, e2⟩ := thing_link hb
    rw [e2] at e
    injection e with _ e
    injection e with _ e
    cases e
/-- a shot that the law's own functions can take: distinct links, few objects -/
structure Fair (s : Shot) : Prop where
  ok : okShot s
  links : ((arcsOf s).map Arc.link).Nodup
  len : s.things.length ≤ 12
theorem Drawn.fair {s : Shot} (h : Drawn s) : Fair s := ⟨h.ok, h.links, h.len⟩
theorem Fair.few {s : Shot} (h : Fair s) {met : List Int} (nd : met.Nodup) (l : ∀ n ∈ met, Live (arcsOf s) n) : met.length ≤ 12 := by
  have h1 := nodup_len (b := s.things.map Thing.n) nd fun n hn => by
    cases l n hn with
    | mk m _ => exact h.ok.tgts m
  rw [List.length_map] at h1
  have := h.len
  omega
theorem pre_new {s : Shot} (h : Fair s) {as : List Arc} {α : Arc} (p : as ++ [α] <+: arcsOf s) : α.link ∉ as.map Arc.link ∧ as.length < 1000 := by
  have nd := h.links.sublist (p.sublist.map Arc.link)
  rw [List.map_append, List.nodup_append] at nd
  have l := p.length_le
  rw [List.length_append, List.length_singleton] at l
  have := h.ok.arcs
  refine ⟨fun m => nd.2.2 _ m _ (by simp) rfl, by omega⟩
end Sn
namespace L2
open PySem PySem.Spec PyProof.Rows
end L2
namespace Sn
open PySem PySem.Spec PyProof.Rows L2 Evl Gd
abbrev sWays : Stmt := topS 26
abbrev nWays : List Str := ["_law_shot_here", "_law_found", "_law_root", "_law_item", "_law_home", "_law_sort", "_law_parts_here", "_law_key", "_law_other"]
theorem scWays : FnScope nWays ["_law_shot_here"] (defScope sWays) := ⟨rfl, rfl, rfl, by decide +kernel, rfl, by decide +kernel, by decide +kernel⟩
/-- (target, [sources]) -/
def WayAt (H : Hp) (v : V) (α : Arc) : Prop := ∃ t l, v = .ref t ∧ H t = some (.tup [.int α.tgt, .ref l]) ∧ H l = some (.lst (α.src.map V.int))
theorem WayAt.keep {H H' : Hp} {v : V} {α : Arc} (h : WayAt H v α) (e : ∀ a o, (∀ k, o ≠ .dT k) → H a = some o → H' a = some o) : WayAt H' v α := by
  obtain ⟨t, l, h1, h2, h3⟩ := h
  exact ⟨t, l, h1, e _ _ (fun _ z => nomatch z) h2, e _ _ (fun _ z => nomatch z) h3⟩
theorem WayAt.ex {H H' : Hp} {v : V} {α : Arc} (h : WayAt H v α) (e : Ex H H') : WayAt H' v α := h.keep fun a o _ => e a o
/-- a way whose list is new since H -/
def WayF (H0 H : Hp) (v : V) (α : Arc) : Prop := ∃ t l, v = .ref t ∧ H t = some (.tup [.int α.tgt, .ref l]) ∧ H l = some (.lst (α.src.map V.int)) ∧ H0 l = none
theorem WayF.at {H0 H : Hp} {v : V} {α : Arc} (h : WayF H0 H v α) : WayAt H v α := by
  obtain ⟨t, l, h1, h2, h3, _⟩ := h
  exact ⟨t, l, h1, h2, h3⟩
theorem WayF.keep {H0 H H' : Hp} {v : V} {α : Arc} (h : WayF H0 H v α) (e : ∀ a o, (∀ k, o ≠ .dT k) → H a = some o → H' a = some o) : WayF H0 H' v α := by
  obtain ⟨t, l, h1, h2, h3, h4⟩ := h
  exact ⟨t, l, h1, e _ _ (fun _ z => nomatch z) h2, e _ _ (fun _ z => nomatch z) h3, h4⟩
theorem WayF.ex {H0 H H' : Hp} {v : V} {α : Arc} (h : WayF H0 H v α) (e : Ex H H') : WayF H0 H' v α := h.keep fun a o _ => e a o
theorem WayF.back {G H0 H : Hp} {v : V} {α : Arc} (h : WayF H0 H v α) (e : Ex G H0) : WayF G H v α := by
  obtain ⟨t, l, h1, h2, h3, h4⟩ := h
  exact ⟨t, l, h1, h2, h3, fresh_back e h4⟩
abbrev tabW (zs : List (V × Arc)) : List (List Key × V) := zs.map fun z => (z.2.link, z.1)
/-- the table of ways that grows -/
def Wg (H H' : Hp) (D : Addr) (as : List Arc) : Prop := Ex H H' ∧ ∃ zs : List (V × Arc), H' D = some (.dT (tabW zs)) ∧ zs.map Prod.snd = as ∧ ∀ z ∈ zs, WayF H H' z.1 z.2
theorem tab_none {zs : List (V × Arc)} {k : List Key} (h : k ∉ (zs.map Prod.snd).map Arc.link) : valV (tabW zs) k = none := by
  induction zs with
  | nil => rfl
  | cons z r ih =>
    rw [List.map_cons, List.map_cons] at h
    show valV ((z.2.link, z.1) :: tabW r) k = none
    rw [valV_neg (fun e => h (by rw [show z.2.link = k from e]; exact List.mem_cons_self))]
    exact ih fun m => h (List.mem_cons_of_mem _ m)
theorem Wg.add {H H' H4 : Hp} {D b : Addr} {v : V} {as : List Arc} {α : Arc} (g : Wg H H' D as) (hD : H D = none) (e : Ex H' H4) (hb : H4 b = some (.tup (α.link.map kV))) (hw : WayF H H4 v α) (nl : α.link ∉ as.map Arc.link) (sz : as.length < 1000) : ∃ H5, DPut H4 D (.ref b) v H5 ∧ Wg H H5 D (as ++ [α]) := by
  obtain ⟨g1, zs, g2, g3, g4⟩ := g
  have d4 := e _ _ g2
  have len : zs.length = as.length := by rw [← g3, List.length_map]
  refine ⟨_, .t d4 hb (sz_lt (by rw [List.length_map]; omega)), Ex.mut (g1.trans e) hD, zs ++ [(v, α)], ?_, by rw [List.map_append, g3]; rfl, fun z hz => ?_⟩
  · rw [upd_same, putK_new v (tab_none (by rw [g3]; exact nl))]
    show some (HO.dT _) = some (HO.dT ((zs ++ [(v, α)]).map _))
    rw [List.map_append]
    rfl
  · have kp : ∀ a o, (∀ k, o ≠ .dT k) → H4 a = some o → upd H4 D (.dT (putK (tabW zs) α.link v)) a = some o := fun a o no h => by
      rw [upd_ne]
      · exact h
      · intro q
        rw [q, d4] at h
        exact no _ (Option.some.inj h).symm
    rcases List.mem_append.mp hz with m | m
    · exact ((g4 z m).ex e).keep kp
    · rw [List.mem_singleton.mp m]
      exact hw.keep kp
/-- (other, [..]) as it is displayed -/
theorem rd_way {σ : L2.St} {H : Hp} {ts : TA} {to : TE} (α : Arc) (ho : Ev to σ H (.int α.tgt)) (hs : EvA ts σ H (α.src.map V.int)) (z : α.src.length ≤ 1000)
    {Q : VK} (k : ∀ v H2, Ex H H2 → WayF H H2 v α → Q v H2) : tTup (tCons to (tCons (tLst ts) tNil)) σ H Q := by
  refine ho H (Ex.refl H) _ fun H1 e1 => ?_
  refine hs _ e1 _ fun H2 e2 => ⟨sz_of (by rw [List.length_map]; omega), fun l hl => ?_⟩
  refine ⟨by show 2 ≤ sizeLine; decide, fun t ht => ?_⟩
  have e3 : Ex H2 (upd H2 l (.lst (α.src.map V.int))) := Ex.new hl
  have e4 : Ex (upd H2 l (.lst (α.src.map V.int))) (upd (upd H2 l (.lst (α.src.map V.int))) t (.tup [.int α.tgt, .ref l])) := Ex.new ht
  exact k (.ref t) _ ((e1.trans e2).trans (e3.trans e4)) ⟨t, l, rfl, upd_same, e4 _ _ upd_same, fresh_back (e1.trans e2) hl⟩
theorem rd_key {σ : L2.St} {H : Hp} {tl : TA} (ks : List Key) (hl : EvA tl σ H (ks.map kV)) (z : ks.length ≤ 1000) {Q : VK} (k : ∀ b H2, Ex H H2 → H2 b = some (.tup (ks.map kV)) → Q (.ref b) H2) : tTup tl σ H Q := by
  refine hl H (Ex.refl H) _ fun H1 e1 => ⟨sz_of (by rw [List.length_map]; omega), fun p hp => ?_⟩
  exact k p _ (e1.trans (Ex.new hp)) upd_same
theorem pre_root {s : Shot} {i : Nat} {r : Str × Int} (h : s.roots[i]? = some r) : (s.roots.take i).map rootArc ++ [rootArc r] <+: arcsOf s := by
  have e : (s.roots.take (i + 1)).map rootArc = (s.roots.take i).map rootArc ++ [rootArc r] := by
    rw [take_one h, List.map_append]
    rfl
  rw [← e]
  unfold arcsOf
  conv => rhs; rw [← List.take_append_drop (i + 1) s.roots, List.map_append, List.append_assoc]
  exact List.prefix_append _ _
theorem pre_thing {s : Shot} {i : Nat} {t : Thing} (h : s.things[i]? = some t) {L : List Arc} (hL : L <+: thingArcs t) : s.roots.map rootArc ++ (s.things.take i).flatMap thingArcs ++ L <+: arcsOf s := by
  unfold arcsOf
  rw [List.append_assoc]
  refine List.prefix_append_right_inj _ |>.mpr ?_
  have e : (s.things.take (i + 1)).flatMap thingArcs = (s.things.take i).flatMap thingArcs ++ thingArcs t := flatMap_snoc _ h
  have h1 : (s.things.take i).flatMap thingArcs ++ thingArcs t <+: s.things.flatMap thingArcs := by
    rw [← e]
    conv => rhs; rw [← List.take_append_drop (i + 1) s.things, List.flatMap_append]
    exact List.prefix_append _ _
  exact ((List.prefix_append_right_inj _).mpr hL).trans h1
theorem pre_part {α : Type} {β : Type} {l : List α} {j : Nat} {x : α} {y : β} {f : α → Option β} (h : l[j]? = some x) (e : f x = some y) : (l.take j).filterMap f ++ [y] <+: l.filterMap f := by
  have e1 : (l.take (j + 1)).filterMap f = (l.take j).filterMap f ++ [y] := by
    rw [filterMap_snoc _ h, e]
    rfl
  rw [← e1]
  conv => rhs; rw [← List.take_append_drop (j + 1) l, List.filterMap_append]
  exact List.prefix_append _ _
def spWays (K : PySem.W.Frag) : Sp := fun vs H Q _ => ∃ (x : V) (s : Shot), vs = [x] ∧ Td K H x (dShot s) ∧ Fair s ∧
  ∀ (H' : Hp) (q : Addr) (zs : List (V × Arc)), Ex H H' → H q = none → H' q = some (.dT (tabW zs)) → zs.map Prod.snd = arcsOf s → (∀ z ∈ zs, WayF H H' z.1 z.2) → Q (.ref q) H'
section
variable {P : Program} {w : World} {K : PySem.W.Frag} {mg : Str → Option Value} {base : Heap}
theorem ok_ways {f : Addr} {fd : FuncData} (F : Fun K "_law_ways" "_law_ways" sWays f fd) : FnOk P w K mg base CX0 1 f fd ["_law_shot_here"] (spWays K) := by
  refine F.ok scWays (fun vs H Q E h => ?_) (fun cdv A outer s H vs Q E hr h => ?_)
  · obtain ⟨x, s, rfl, _⟩ := h
    rfl
  · obtain ⟨x, s, rfl, ht, dr, q⟩ := h
    have hu := hu_of hr
    refine ⟨_, pss_cons (ps_set (i := 1) scWays.nd rfl (.inl rfl) pe_dnewT) <|
      pss_cons (ps_for PassesOwn.never rfl (pi_tup (pe_ix ix_tup (pv 0) pe_int (fun _ _ => rfl))) (pg_tup (n := 2) rfl (pgs_cons (pg_name (i := 2) scWays.nd rfl (.inl rfl)) <| pgs_cons (pg_name (i := 3) scWays.nd rfl (.inl rfl)) pgs_nil))
        (pss_one (ps_dput hu (pv 1) (pe_tup (pa_cons pe_str <| pa_cons (pv 2) pa_nil)) (pe_tup (pa_cons (pv 3) <| pa_cons (pe_lst pa_nil) pa_nil)) rfl))) <|
      pss_cons (ps_for PassesOwn.never rfl (pi_tup (pe_ix ix_tup (pv 0) pe_int (fun _ _ => rfl))) (pg_tup (n := 4) rfl (pgs_cons (pg_name (i := 3) scWays.nd rfl (.inl rfl)) <| pgs_cons (pg_name (i := 4) scWays.nd rfl (.inl rfl)) <| pgs_cons (pg_name (i := 5) scWays.nd rfl (.inl rfl)) <| pgs_cons (pg_name (i := 6) scWays.nd rfl (.inl rfl)) pgs_nil))
        (pss_one (ps_for PassesOwn.never rfl (pi_seq (pe_ifExp (pt_cmpR op_ne (pv 5) pe_str (nomark _)) (pv 6) (pe_lst pa_nil))) (pg_tup (n := 2) rfl (pgs_cons (pg_name (i := 7) scWays.nd rfl (.inl rfl)) <| pgs_cons (pg_name (i := 8) scWays.nd rfl (.inl rfl)) pgs_nil))
          (pss_one (ps_if (pt_cmpR op_eq (pv 5) pe_str (nomark _))
            (pss_one (ps_dput hu (pv 1) (pe_tup (pa_cons pe_str <| pa_cons (pv 3) <| pa_cons (pv 7) pa_nil)) (pe_tup (pa_cons (pv 8) <| pa_cons (pe_lst (pa_cons (pv 3) pa_nil)) pa_nil)) rfl))
            (pss_one (ps_if (pt_cmpR op_notN (pv 8) pe_non (nomark _)) (pss_one (ps_dput hu (pv 1) (pe_tup (pa_cons pe_str <| pa_cons (pv 3) <| pa_cons (pv 7) pa_nil)) (pe_tup (pa_cons (pv 8) <| pa_cons (pe_lst (pa_cons (pv 3) <| pa_cons (pv 7) pa_nil)) pa_nil)) rfl)) pss_nil))))))) <|
      pss_one (ps_ret (pv 1)), ?_⟩
    obtain ⟨p, xr, xo, rfl, sp, tr, to⟩ := Td.inv2 ht
    obtain ⟨pr, rs, rfl, spr, tr⟩ := tr.inv_tup
    obtain ⟨po, os, rfl, spo, to⟩ := to.inv_tup
    refine seq_of (asg_of (fun D hD => ?_))
    have g0 : Wg H (upd H D (.dT [])) D [] := ⟨Ex.new hD, [], upd_same, rfl, fun _ h => absurd h List.not_mem_nil⟩
    generalize upd H D (.dT []) = H1 at g0 ⊢
    dsimp only
    refine ⟨.ref p, rfl, p, _, 0, _, rfl, rfl, ex_t g0.1 sp, atI_nat (j := 0) rfl, pr, rfl, ⟨_, ex_t g0.1 spr⟩, for_tup (xs := rs) (fun i σ' Hc => ∃ y2 y3, σ' = [some (.ref p), some (.ref D), y2, y3, none, none, none, none, none] ∧ Wg H Hc D ((s.roots.take i).map rootArc))
      ⟨none, none, rfl, g0⟩ (fun i σ' Hc _ ⟨_, _, _, g⟩ => ex_t g.1 spr) ?_ ?_⟩
    · rintro i x σ' Hc hx ⟨y2, y3, rfl, g⟩
      obtain ⟨δ, hδ, hT⟩ := tr.get hx
      obtain ⟨r, hr, rfl⟩ := map_at hδ
      obtain ⟨b, w1, w2, rfl, s3, u1, u2⟩ := Td.inv2 hT
      rw [u1.inv_str, u2.inv_int] at s3
      refine ⟨b, _, rfl, ex_t g.1 s3, rfl, .str r.1, _, rfl, .int r.2, _, rfl, rfl, ?_⟩
      dsimp only [gName]
      have pn := pre_new dr (pre_root hr)
      refine put_of (rd_way (rootArc r) (ev_var (by rfl)) ea_nil (by show 0 ≤ 1000; decide) fun v H2 e2 hw => v_of (by rfl) (rd_key [.inr "root", .inr r.1] (ea_cons ev_c (ea_cons (ev_var (by rfl)) ea_nil)) (by show 2 ≤ 1000; decide) fun b2 H3 e3 hb => ?_))
      obtain ⟨H5, dp, gg⟩ := g.add hD (e2.trans e3) hb ((hw.back g.1).ex e3) pn.1 pn.2
      refine ⟨D, H5, rfl, dp, _, _, rfl, ?_⟩
      rw [take_one hr, List.map_append]
      exact gg
    · rintro σ' Hc ⟨y2, y3, rfl, g⟩
      have lr := tr.len
      rw [List.length_map] at lr
      rw [lr, List.take_length] at g
      dsimp only
      refine ⟨.ref p, rfl, p, _, 1, _, rfl, rfl, ex_t g.1 sp, atI_nat (j := 1) rfl, po, rfl, ⟨_, ex_t g.1 spo⟩, for_tup (xs := os) (fun i σ' Hc => ∃ y2 y3 y4 y5 y6 y7 y8, σ' = [some (.ref p), some (.ref D), y2, y3, y4, y5, y6, y7, y8] ∧ Wg H Hc D (s.roots.map rootArc ++ (s.things.take i).flatMap thingArcs))
        ⟨_, _, _, _, _, _, _, rfl, by rw [List.take_zero, List.flatMap_nil, List.append_nil]; exact g⟩ (fun i σ' Hc _ ⟨_, _, _, _, _, _, _, _, g⟩ => ex_t g.1 spo) ?_ ?_⟩
      · rintro i x σ' Hc hx ⟨y2, y3, y4, y5, y6, y7, y8, rfl, g⟩
        obtain ⟨δ, hδ, hT⟩ := to.get hx
        obtain ⟨t, ht1, rfl⟩ := map_at hδ
        obtain ⟨a, v1, v2, v3, v4, rfl, s1, t1, t2, t3, t4⟩ := Td.inv4 hT
        rw [t1.inv_int, t2.inv_str, t3.inv_str] at s1
        obtain ⟨pp, ps, rfl, s2, tp⟩ := t4.inv_tup
        refine ⟨a, _, rfl, ex_t g.1 s1, rfl, .int t.n, _, rfl, .str t.home, _, rfl, .str t.sort, _, rfl, .ref pp, _, rfl, rfl, ?_⟩
        dsimp only [gName]
        have eT : ∀ {as' : List Arc}, s.roots.map rootArc ++ (s.things.take (i + 1)).flatMap thingArcs = s.roots.map rootArc ++ (s.things.take i).flatMap thingArcs ++ thingArcs t := by
          intro _
          rw [flatMap_snoc _ ht1, List.append_assoc]
        rcases dr.ok.1 t (List.mem_of_getElem? ht1) with ⟨srt, hp⟩ | ⟨srt, hp⟩ | ⟨srt, hp⟩
        · -- a record
          have eA : thingArcs t = t.parts.filterMap (slotArc t.n) := by
            unfold thingArcs
            rw [if_pos srt]
          rw [srt]
          refine forS_of (ifE_yes (fun k hk => test_of (op_of (v_of rfl (k_of ⟨rfl, _, rfl, by rw [show decide (V.str "record" = V.str "weak") = false from by decide +kernel]; exact hk⟩)))) ?_)
          refine v_of rfl ⟨pp, rfl, .inr ⟨⟨_, ex_t g.1 s2⟩, for_tup (xs := ps) (fun j σ' Hd => ∃ y7 y8, σ' = [some (.ref p), some (.ref D), y2, some (.int t.n), some (.str t.home), some (.str "record"), some (.ref pp), y7, y8] ∧ Wg H Hd D (s.roots.map rootArc ++ (s.things.take i).flatMap thingArcs ++ (t.parts.take j).filterMap (slotArc t.n)))
            ⟨y7, y8, rfl, by rw [List.take_zero, List.filterMap_nil, List.append_nil]; exact g⟩ (fun j σ' Hd _ ⟨_, _, _, g⟩ => ex_t g.1 s2) ?_ ?_⟩⟩
          · rintro j x σ' Hd hx ⟨y7, y8, rfl, g⟩
            obtain ⟨δ, hδ, hT⟩ := tp.get hx
            obtain ⟨pt, hp1, rfl⟩ := map_at hδ
            obtain ⟨k, v, rfl⟩ := hp pt (List.mem_of_getElem? hp1)
            obtain ⟨b, w1, w2, rfl, s3, u1, u2⟩ := Td.inv2 hT
            rw [u1.inv_int, Td.inv_int u2] at s3
            refine ⟨b, _, rfl, ex_t g.1 s3, rfl, .int k, _, rfl, .int v, _, rfl, rfl, ?_⟩
            dsimp only [gName]
            have pn := pre_new dr (by
              have := pre_thing ht1 (L := _) (by rw [eA]; exact pre_part (y := ⟨[.inr "slot", .inl t.n, .inl k], [t.n], v⟩) hp1 rfl)
              rw [← List.append_assoc] at this
              exact this)
            refine ⟨_, rfl, rfl, _, rfl, ?_⟩
            dsimp only
            rw [decide_eq_true rfl, if_pos rfl]
            refine put_of (rd_way ⟨[.inr "slot", .inl t.n, .inl k], [t.n], v⟩ (ev_var (by rfl)) (ea_cons (ev_var (by rfl)) ea_nil) (by show 1 ≤ 1000; decide) fun v' H2 e2 hw => v_of (by rfl) (rd_key [.inr "slot", .inl t.n, .inl k] (ea_cons ev_c (ea_cons (ev_var (by rfl)) (ea_cons (ev_var (by rfl)) ea_nil))) (by show 3 ≤ 1000; decide) fun b2 H3 e3 hb => ?_))
            obtain ⟨H5, dp, gg⟩ := g.add hD (e2.trans e3) hb ((hw.back g.1).ex e3) pn.1 pn.2
            refine ⟨D, H5, rfl, dp, _, _, rfl, ?_⟩
            rw [filterMap_snoc _ hp1, ← List.append_assoc]
            exact gg
          · rintro σ' Hd ⟨y7, y8, rfl, g⟩
            have lps := tp.len
            rw [List.length_map] at lps
            rw [lps, List.take_length, ← eA] at g
            refine ⟨_, _, _, _, _, _, _, rfl, ?_⟩
            rw [eT (as' := [])]
            exact g
        · -- a map
          have eA : thingArcs t = t.parts.filterMap (entryArc t.n) := by
            unfold thingArcs
            rw [srt, if_neg (by decide +kernel), if_pos rfl]
          rw [srt]
          refine forS_of (ifE_yes (fun k hk => test_of (op_of (v_of rfl (k_of ⟨rfl, _, rfl, by rw [show decide (V.str "map" = V.str "weak") = false from by decide +kernel]; exact hk⟩)))) ?_)
          refine v_of rfl ⟨pp, rfl, .inr ⟨⟨_, ex_t g.1 s2⟩, for_tup (xs := ps) (fun j σ' Hd => ∃ y7 y8, σ' = [some (.ref p), some (.ref D), y2, some (.int t.n), some (.str t.home), some (.str "map"), some (.ref pp), y7, y8] ∧ Wg H Hd D (s.roots.map rootArc ++ (s.things.take i).flatMap thingArcs ++ (t.parts.take j).filterMap (entryArc t.n)))
            ⟨y7, y8, rfl, by rw [List.take_zero, List.filterMap_nil, List.append_nil]; exact g⟩ (fun j σ' Hd _ ⟨_, _, _, g⟩ => ex_t g.1 s2) ?_ ?_⟩⟩
          · rintro j x σ' Hd hx ⟨y7, y8, rfl, g⟩
            obtain ⟨δ, hδ, hT⟩ := tp.get hx
            obtain ⟨pt, hp1, rfl⟩ := map_at hδ
            obtain ⟨k, v, rfl⟩ := hp pt (List.mem_of_getElem? hp1)
            obtain ⟨b, w1, w2, rfl, s3, u1, u2⟩ := Td.inv2 hT
            rw [u1.inv_int] at s3
            refine ⟨b, _, rfl, ex_t g.1 s3, rfl, .int k, _, rfl, w2, _, rfl, rfl, ?_⟩
            dsimp only [gName]
            refine ⟨_, rfl, rfl, _, rfl, ?_⟩
            dsimp only
            rw [decide_eq_false (by decide +kernel), if_neg Bool.false_ne_true]
            cases v with
            | none =>
              rw [Td.inv_non u2]
              refine ⟨_, rfl, rfl, _, rfl, ?_⟩
              dsimp only
              rw [if_neg (by decide)]
              refine ⟨_, _, rfl, ?_⟩
              rw [filterMap_snoc _ hp1]
              show Wg H Hd D (_ ++ ((t.parts.take j).filterMap (entryArc t.n) ++ []))
              rw [List.append_nil]
              exact g
            | some v =>
              rw [Td.inv_int u2]
              have pn := pre_new dr (by
                have := pre_thing ht1 (L := _) (by rw [eA]; exact pre_part (y := ⟨[.inr "entry", .inl t.n, .inl k], [t.n, k], v⟩) hp1 rfl)
                rw [← List.append_assoc] at this
                exact this)
              refine ⟨_, rfl, rfl, _, rfl, ?_⟩
              dsimp only
              rw [if_pos (show (!decide (V.int v = V.non)) = true from by simp)]
              refine put_of (rd_way ⟨[.inr "entry", .inl t.n, .inl k], [t.n, k], v⟩ (ev_var (by rfl)) (ea_cons (ev_var (by rfl)) (ea_cons (ev_var (by rfl)) ea_nil)) (by show 2 ≤ 1000; decide) fun v' H2 e2 hw => v_of (by rfl) (rd_key [.inr "entry", .inl t.n, .inl k] (ea_cons ev_c (ea_cons (ev_var (by rfl)) (ea_cons (ev_var (by rfl)) ea_nil))) (by show 3 ≤ 1000; decide) fun b2 H3 e3 hb => ?_))
              obtain ⟨H5, dp, gg⟩ := g.add hD (e2.trans e3) hb ((hw.back g.1).ex e3) pn.1 pn.2
              refine ⟨D, H5, rfl, dp, _, _, rfl, ?_⟩
              rw [filterMap_snoc _ hp1, ← List.append_assoc]
              exact gg
          · rintro σ' Hd ⟨y7, y8, rfl, g⟩
            have lps := tp.len
            rw [List.length_map] at lps
            rw [lps, List.take_length, ← eA] at g
            refine ⟨_, _, _, _, _, _, _, rfl, ?_⟩
            rw [eT (as' := [])]
            exact g
        · -- a weak object
          have eA : thingArcs t = [] := by
            unfold thingArcs
            rw [srt, if_neg (by decide +kernel), if_neg (by decide +kernel)]
          rw [srt]
          refine forS_of (ifE_no (fun k hk => test_of (op_of (v_of rfl (k_of ⟨rfl, _, rfl, by rw [show decide (V.str "weak" = V.str "weak") = true from by decide +kernel]; exact hk⟩)))) ?_)
          refine lst_of (n_of ⟨Nat.zero_le _, fun el hel => ?_⟩)
          have e2 : Ex Hc (upd Hc el (.lst [])) := Ex.new hel
          have g2 : Wg H (upd Hc el (.lst [])) D (s.roots.map rootArc ++ (s.things.take i).flatMap thingArcs) := by
            obtain ⟨ga, zs, gb, gc, gd⟩ := g
            exact ⟨ga.trans e2, zs, e2 _ _ gb, gc, fun z hz => (gd z hz).ex e2⟩
          have l2 : (upd Hc el (.lst [])) el = some (.lst []) := upd_same
          refine ⟨el, rfl, .inl ⟨⟨_, sq_of l2⟩, for_list (K := K) (a := el) (xs := []) (fun j σ' Hd => σ' = [some (.ref p), some (.ref D), y2, some (.int t.n), some (.str t.home), some (.str "weak"), some (.ref pp), y7, y8] ∧ Hd = upd Hc el (.lst []))
            ⟨rfl, rfl⟩ (fun j σ' Hd _ h => by rw [h.2]; exact sq_of l2) ?_ ?_⟩⟩
          · intro j x σ' Hd hx _
            simp at hx
          · rintro σ' Hd ⟨rfl, rfl⟩
            refine ⟨_, _, _, _, _, _, _, rfl, ?_⟩
            rw [eT (as' := []), eA, List.append_nil]
            exact g2
      · rintro σ' Hc ⟨y2, y3, y4, y5, y6, y7, y8, rfl, g⟩
        have lts := to.len
        rw [List.length_map] at lts
        rw [lts, List.take_length] at g
        obtain ⟨g1, zs, g2, g3, g4⟩ := g
        exact ⟨.ref D, rfl, q Hc D zs g1 hD g2 g3 g4⟩
end
end Sn
namespace Sn
open PySem PySem.Spec PyProof.Rows L2 Evl Gd
def cs (z : Str) : List Nat := z.cps.toList
theorem cs_app (a b : Str) : cs (a ++ b) = cs a ++ cs b := by
  show (a.cps ++ b.cps).toList = _
  rw [Array.toList_append]
  rfl
theorem cs_inj {a b : Str} (h : cs a = cs b) : a = b := Gd.str_ext h
/-- numbers back from their digits -/
def undec (l : List Nat) : Nat := l.foldl (fun a c => 10 * a + (c - 48)) 0
theorem dec_back : ∀ i : Fin 201, undec (cs ((toString ((i.val : Nat) : Int) : String) : Str)) = i.val ∧ 44 ∉ cs ((toString ((i.val : Nat) : Int) : String) : Str) := by decide +kernel
def dig (i : Int) : List Nat := cs ((toString i : String) : Str)
theorem dig_ok {i : Int} (h : 0 ≤ i ∧ i ≤ 200) : undec (dig i) = i.toNat ∧ 44 ∉ dig i := by
  have := dec_back ⟨i.toNat, by omega⟩
  rw [show (((⟨i.toNat, by omega⟩ : Fin 201).val : Nat) : Int) = i from Int.toNat_of_nonneg h.1] at this
  exact this
theorem dig_inj {i j : Int} (h : 0 ≤ i ∧ i ≤ 200) (g : 0 ≤ j ∧ j ≤ 200) (e : dig i = dig j) : i = j := by
  have h1 := (dig_ok h).1
  have h2 := (dig_ok g).1
  rw [e] at h1
  omega
/-- what stands before the first comma -/
theorem comma_split : ∀ {a b c d : List Nat}, 44 ∉ a → 44 ∉ b → a ++ 44 :: c = b ++ 44 :: d → a = b ∧ c = d
  | [], [], _, _, _, _, e => ⟨rfl, (List.cons.inj e).2⟩
  | [], y :: b, _, _, _, hb, e => absurd (by rw [← (List.cons.inj e).1]; exact List.mem_cons_self) hb
  | x :: a, [], _, _, ha, _, e => absurd (by rw [(List.cons.inj e).1]; exact List.mem_cons_self) ha
  | x :: a, y :: b, _, _, ha, hb, e => by
    obtain ⟨e1, e2⟩ := List.cons.inj e
    obtain ⟨e3, e4⟩ := comma_split (fun m => ha (List.mem_cons_of_mem _ m)) (fun m => hb (List.mem_cons_of_mem _ m)) e2
    exact ⟨by rw [e1, e3], e4⟩
def shownL (ks : List Key) : List Nat := cs (PyData.tuple (ks.map kD)).shown
theorem join2 (a b : Str) : Str.join ", " [a, b] = a ++ ", " ++ b := by rfl
theorem join3 (a b c : Str) : Str.join ", " [a, b, c] = a ++ ", " ++ b ++ ", " ++ c := by
  show a ++ ", " ++ (b ++ ", " ++ c) = _
  simp only [Str.append_assoc]
theorem shown_two (a b : PyData) : cs (PyData.tuple [a, b]).shown = 40 :: (cs a.shown ++ (44 :: 32 :: (cs b.shown ++ [41]))) := by
  rw [PyData.shown_tuple, PyData.shownAll_cons, PyData.shownAll_cons, PyData.shownAll_nil, join2]
  rw [cs_app, cs_app, cs_app, cs_app]
  show [40] ++ (cs a.shown ++ [44, 32] ++ cs b.shown) ++ [41] = _
  simp
theorem shown_three (a b c : PyData) : cs (PyData.tuple [a, b, c]).shown = 40 :: (cs a.shown ++ (44 :: 32 :: (cs b.shown ++ (44 :: 32 :: (cs c.shown ++ [41]))))) := by
  rw [PyData.shown_tuple, PyData.shownAll_cons, PyData.shownAll_cons, PyData.shownAll_cons, PyData.shownAll_nil, join3]
  rw [cs_app, cs_app, cs_app, cs_app, cs_app, cs_app]
  show [40] ++ (cs a.shown ++ [44, 32] ++ cs b.shown ++ [44, 32] ++ cs c.shown) ++ [41] = _
  simp
theorem root_word : cs (PyData.str "root").shown = [39, 114, 111, 111, 116, 39] := by decide +kernel
theorem slot_word : cs (PyData.str "slot").shown = [39, 115, 108, 111, 116, 39] := by decide +kernel
theorem entry_word : cs (PyData.str "entry").shown = [39, 101, 110, 116, 114, 121, 39] := by decide +kernel
def SmallKey : Key → Prop
  | .inl i => 0 ≤ i ∧ i ≤ 200
  | .inr _ => True
/-- a link of a drawn snapshot -/
def DLink (ks : List Key) : Prop := (∃ z, ks = [.inr "root", .inr z] ∧ NameOk z) ∨ (∃ n k, ks = [.inr "slot", .inl n, .inl k] ∧ (0 ≤ n ∧ n ≤ 200) ∧ 0 ≤ k ∧ k ≤ 200) ∨ ∃ n k, ks = [.inr "entry", .inl n, .inl k] ∧ (0 ≤ n ∧ n ≤ 200) ∧ 0 ≤ k ∧ k ≤ 200
theorem two_digs {n k n' k' : Int} (h1 : 0 ≤ n ∧ n ≤ 200) (h2 : 0 ≤ k ∧ k ≤ 200) (h3 : 0 ≤ n' ∧ n' ≤ 200) (h4 : 0 ≤ k' ∧ k' ≤ 200) (e : dig n ++ (44 :: 32 :: (dig k ++ [41])) = dig n' ++ (44 :: 32 :: (dig k' ++ [41]))) : n = n' ∧ k = k' := by
  obtain ⟨e1, e2⟩ := comma_split (dig_ok h1).2 (dig_ok h3).2 e
  have e3 := List.append_cancel_right (List.cons.inj e2).2
  exact ⟨dig_inj h1 h3 e1, dig_inj h2 h4 e3⟩
theorem shown_int' (i : Int) : cs (PyData.int i).shown = dig i := by
  rw [PyData.shown_int]
  rfl
theorem shown_inj {a b : List Key} (h : DLink a) (g : DLink b) (e : (PyData.tuple (a.map kD)).shown = (PyData.tuple (b.map kD)).shown) : a = b := by
  have e := congrArg cs e
  rcases h with ⟨z, rfl, hz⟩ | ⟨n, k, rfl, h1, h2⟩ | ⟨n, k, rfl, h1, h2⟩ <;> rcases g with ⟨z', rfl, hz'⟩ | ⟨n', k', rfl, h3, h4⟩ | ⟨n', k', rfl, h3, h4⟩
  · have e := (shown_two _ _).symm.trans (e.trans (shown_two _ _))
    have e1 := List.append_cancel_left (List.cons.inj e).2
    have e2 := List.append_cancel_right (List.cons.inj (List.cons.inj e1).2).2
    have e3 : (39 : Nat) :: (z.cps.toList ++ [39]) = 39 :: (z'.cps.toList ++ [39]) := hz.2.1.symm.trans (e2.trans hz'.2.1)
    have e4 := List.append_cancel_right (List.cons.inj e3).2
    rw [cs_inj e4]
  · have e := (shown_two _ _).symm.trans (e.trans (shown_three _ _ _))
    rw [show cs (kD (.inr "root")).shown = _ from root_word, show cs (kD (.inr "slot")).shown = _ from slot_word] at e
    exact absurd (List.cons.inj (List.cons.inj (List.cons.inj e).2).2).1 (by decide)
  · have e := (shown_two _ _).symm.trans (e.trans (shown_three _ _ _))
    rw [show cs (kD (.inr "root")).shown = _ from root_word, show cs (kD (.inr "entry")).shown = _ from entry_word] at e
    exact absurd (List.cons.inj (List.cons.inj (List.cons.inj e).2).2).1 (by decide)
  · have e := (shown_three _ _ _).symm.trans (e.trans (shown_two _ _))
    rw [show cs (kD (.inr "root")).shown = _ from root_word, show cs (kD (.inr "slot")).shown = _ from slot_word] at e
    exact absurd (List.cons.inj (List.cons.inj (List.cons.inj e).2).2).1 (by decide)
  · have e := (shown_three _ _ _).symm.trans (e.trans (shown_three _ _ _))
    have e1 := List.append_cancel_left (List.cons.inj e).2
    have e2 := (List.cons.inj (List.cons.inj e1).2).2
    rw [show cs (kD (.inl n)).shown = _ from shown_int' n, show cs (kD (.inl k)).shown = _ from shown_int' k, show cs (kD (.inl n')).shown = _ from shown_int' n', show cs (kD (.inl k')).shown = _ from shown_int' k'] at e2
    obtain ⟨rfl, rfl⟩ := two_digs h1 h2 h3 h4 e2
    rfl
  · have e := (shown_three _ _ _).symm.trans (e.trans (shown_three _ _ _))
    rw [show cs (kD (.inr "slot")).shown = _ from slot_word, show cs (kD (.inr "entry")).shown = _ from entry_word] at e
    exact absurd (List.cons.inj (List.cons.inj (List.cons.inj e).2).2).1 (by decide)
  · have e := (shown_three _ _ _).symm.trans (e.trans (shown_two _ _))
    rw [show cs (kD (.inr "root")).shown = _ from root_word, show cs (kD (.inr "entry")).shown = _ from entry_word] at e
    exact absurd (List.cons.inj (List.cons.inj (List.cons.inj e).2).2).1 (by decide)
  · have e := (shown_three _ _ _).symm.trans (e.trans (shown_three _ _ _))
    rw [show cs (kD (.inr "slot")).shown = _ from slot_word, show cs (kD (.inr "entry")).shown = _ from entry_word] at e
    exact absurd (List.cons.inj (List.cons.inj (List.cons.inj e).2).2).1 (by decide)
  · have e := (shown_three _ _ _).symm.trans (e.trans (shown_three _ _ _))
    have e1 := List.append_cancel_left (List.cons.inj e).2
    have e2 := (List.cons.inj (List.cons.inj e1).2).2
    rw [show cs (kD (.inl n)).shown = _ from shown_int' n, show cs (kD (.inl k)).shown = _ from shown_int' k, show cs (kD (.inl n')).shown = _ from shown_int' n', show cs (kD (.inl k')).shown = _ from shown_int' k'] at e2
    obtain ⟨rfl, rfl⟩ := two_digs h1 h2 h3 h4 e2
    rfl
theorem Drawn.dlink {s : Shot} (h : Drawn s) {α : Arc} (ha : α ∈ arcsOf s) : DLink α.link := by
  rcases List.mem_append.mp ha with m | m
  · obtain ⟨r, hr, rfl⟩ := List.mem_map.mp m
    exact .inl ⟨r.1, rfl, (h.rt r hr).1⟩
  · obtain ⟨t, ht, m⟩ := List.mem_flatMap.mp m
    obtain ⟨⟨_, sm, _⟩, n0, n1, _⟩ := h.th t ht
    have key : ∀ k v, Part.pair k (some v) ∈ t.parts → 0 ≤ k ∧ k ≤ 200 := fun k v hp => sm _ hp k (by simp [partInts])
    unfold thingArcs at m
    split at m
    · obtain ⟨p, hp, e⟩ := List.mem_filterMap.mp m
      rw [slot_pair] at e
      obtain ⟨z, hz, e⟩ := Option.map_eq_some_iff.mp e
      cases p with
      | tgt _ => cases hz
      | pair k v =>
        cases v with
        | none => cases hz
        | some v =>
          cases hz
          rw [← e]
          exact .inr (.inl ⟨_, _, rfl, ⟨n0, n1⟩, key _ _ hp⟩)
    · split at m
      · obtain ⟨p, hp, e⟩ := List.mem_filterMap.mp m
        rw [entry_pair] at e
        obtain ⟨z, hz, e⟩ := Option.map_eq_some_iff.mp e
        cases p with
        | tgt _ => cases hz
        | pair k v =>
          cases v with
          | none => cases hz
          | some v =>
            cases hz
            rw [← e]
            exact .inr (.inr ⟨_, _, rfl, ⟨n0, n1⟩, key _ _ hp⟩)
      · exact absurd m List.not_mem_nil
def shLink (α : Arc) : Str := (PyData.tuple (α.link.map kD)).shown
theorem Drawn.shows {s : Shot} (h : Drawn s) : ((arcsOf s).map shLink).Nodup := by
  have nd := h.links
  have key : ∀ l : List Arc, (∀ α ∈ l, DLink α.link) → (l.map Arc.link).Nodup → (l.map shLink).Nodup := by
    intro l
    induction l with
    | nil => exact fun _ _ => .nil
    | cons a l ih =>
      intro hl hn
      rw [List.map_cons, List.nodup_cons] at hn ⊢
      refine ⟨fun m => hn.1 ?_, ih (fun α ha => hl α (List.mem_cons_of_mem _ ha)) hn.2⟩
      obtain ⟨b, hb, e⟩ := List.mem_map.mp m
      exact List.mem_map.mpr ⟨b, hb, shown_inj (hl b (List.mem_cons_of_mem _ hb)) (hl a List.mem_cons_self) e⟩
  exact key _ (fun α ha => h.dlink ha) nd
/-- a link's text -/
theorem DLink.fit {ks : List Key} (h : DLink ks) : Fit (.tuple (ks.map kD)) 1 60 := by
  rcases h with ⟨z, rfl, hz⟩ | ⟨n, k, rfl, h1, h2⟩ | ⟨n, k, rfl, h1, h2⟩
  · exact (FitAll.cons (fit_str (z := "root") (L := 12) (by decide +kernel)) (FitAll.cons (fit_str hz.1) (FitAll.nil (L := 0)) (Nat.le_refl _)) (Nat.le_refl _)).tup.up (by decide) (by decide)
  · exact (FitAll.cons (fit_str (z := "slot") (L := 12) (by decide +kernel)) (FitAll.cons (fit_int (i := n) ⟨h1.1, by omega⟩) (FitAll.cons (fit_int (i := k) ⟨h2.1, by omega⟩) (FitAll.nil (L := 0)) (Nat.le_refl _)) (Nat.le_refl _)) (Nat.le_refl _)).tup.up (by decide) (by decide)
  · exact (FitAll.cons (fit_str (z := "entry") (L := 12) (by decide +kernel)) (FitAll.cons (fit_int (i := n) ⟨h1.1, by omega⟩) (FitAll.cons (fit_int (i := k) ⟨h2.1, by omega⟩) (FitAll.nil (L := 0)) (Nat.le_refl _)) (Nat.le_refl _)) (Nat.le_refl _)).tup.up (by decide) (by decide)
end Sn
namespace L2
open PySem PySem.Spec PyProof.Rows
/-- x not in () -/
def rNotIn0 (K : PySem.W.Frag) : R2 := fun x y H Q => ∃ p, y = .ref p ∧ SqT K H p [] ∧ Q (.bl true) H
theorem op_notIn0 {X : Cx} : OpR X (compareOp .NotIn) (rNotIn0 X.K) := by
  intro pins s σ H x y v u Q I rx ry h
  obtain ⟨p, rfl, hq, q⟩ := h
  cases ry
  obtain ⟨its, r, pl, hz⟩ := I.tuple hq
  cases r
  refine SeqAt.notIn_tupleAt (fun _ => false) pl (fun w hw => by simp at hw) ⟨.bl true, H, I, ?_, q⟩
  show Value.bool _ = Value.bool true
  simp
end L2
namespace Sn
open PySem PySem.Spec PyProof.Rows L2 Evl Gd
abbrev sAliv : Stmt := topS 27
abbrev nAliv : List Str := ["_law_shot_here", "_law_gone", "_law_cut", "_law_ways_here", "_law_seen", "_law_many", "_law_link", "_law_item", "_law_wants", "_law_want"]
theorem scAliv : FnScope nAliv ["_law_shot_here", "_law_gone", "_law_cut"] (defScope sAliv) := ⟨rfl, rfl, rfl, by decide +kernel, rfl, by decide +kernel, by decide +kernel⟩
theorem WayAt.keep2 {H H' : Hp} {v : V} {α : Arc} (h : WayAt H v α) (e1 : ∀ a xs, H a = some (.tup xs) → H' a = some (.tup xs)) (e2 : ∀ a xs, H a = some (.lst xs) → H' a = some (.lst xs)) : WayAt H' v α := by
  obtain ⟨t, l, h1, h2, h3⟩ := h
  exact ⟨t, l, h1, e1 _ _ h2, e2 _ _ h3⟩
theorem WayAt.upd {H : Hp} {v : V} {α : Arc} {p : Addr} {o u : HO} (h : WayAt H v α) (hp : H p = some o) (n1 : ∀ xs, o ≠ .tup xs) (n2 : ∀ xs, o ≠ .lst xs) : WayAt (L2.upd H p u) v α := by
  refine h.keep2 (fun a xs e => ?_) (fun a xs e => ?_)
  · rw [upd_ne]
    · exact e
    · intro q
      rw [q, hp] at e
      exact n1 _ (Option.some.inj e)
  · rw [upd_ne]
    · exact e
    · intro q
      rw [q, hp] at e
      exact n2 _ (Option.some.inj e)
structure See (L : List Arc) (zs : List (V × Arc)) (H H' : Hp) (sd : Addr) (met : List Int) : Prop where
  ex : Ex H H'
  at_ : H' sd = some (.dK (kTrue met))
  nd : met.Nodup
  live : ∀ n ∈ met, Live L n
  ways : ∀ z ∈ zs, WayAt H' z.1 z.2
theorem See.more {L : List Arc} {zs : List (V × Arc)} {H H2 H3 : Hp} {sd : Addr} {met : List Int} (h : See L zs H H2 sd met) (e : Ex H2 H3) : See L zs H H3 sd met := ⟨h.ex.trans e, e _ _ h.at_, h.nd, h.live, fun z hz => (h.ways z hz).ex e⟩
theorem See.upd {L : List Arc} {zs : List (V × Arc)} {H H2 : Hp} {sd p : Addr} {o u : HO} {met : List Int} (h : See L zs H H2 sd met) (hp : H2 p = some o) (n1 : ∀ xs, o ≠ .tup xs) (n2 : ∀ xs, o ≠ .lst xs) (n0 : H p = none) (ne : sd ≠ p) : See L zs H (L2.upd H2 p u) sd met :=
  ⟨Ex.mut h.ex n0, by rw [upd_ne ne]; exact h.at_, h.nd, h.live, fun z hz => (h.ways z hz).upd hp n1 n2⟩
theorem See.put {L : List Arc} {zs : List (V × Arc)} {H H2 : Hp} {sd : Addr} {met : List Int} {v : Int} (h : See L zs H H2 sd met) (h0 : H sd = none) (l : Live L v) : See L zs H (L2.upd H2 sd (.dK (kTrue (insT met v)))) sd (insT met v) := by
  refine ⟨Ex.mut h.ex h0, upd_same, insT_nodup h.nd, fun n hn => ?_, fun z hz => (h.ways z hz).upd h.at_ (fun _ x => nomatch x) (fun _ x => nomatch x)⟩
  rcases insT_mem.mp hn with z | z
  · exact h.live n z
  · rw [z]
    exact l
theorem inV_ints {n : Int} : ∀ gs : List Int, inV (.int n) (gs.map V.int) = decide (n ∈ gs)
  | [] => by simp [inV]
  | g :: gs => by
    have ih := inV_ints (n := n) gs
    unfold inV at ih ⊢
    rw [List.map_cons, List.any_cons, ih]
    show (decide (g = n) || decide (n ∈ gs)) = decide (n ∈ g :: gs)
    by_cases e : g = n
    · subst e
      simp
    · have e2 : ¬ n = g := fun q => e q.symm
      by_cases m : n ∈ gs
      · simp [m]
      · simp [m, e, e2]
theorem flat_ints : ∀ gs : List Int, (gs.map V.int).all flatV = true
  | [] => rfl
  | g :: gs => by
    rw [List.map_cons, List.all_cons, flat_ints gs]
    rfl
section
variable {K : PySem.W.Frag} {σ : L2.St} {H : Hp}
/-- all([want in seen for want in wants]) -/
theorem rd_all {y0 y1 y2 y3 y5 y6 y7 y9 : Option V} {l sd : Addr} {src met : List Int} {k : Bool → Hp → Prop} (hl : H l = some (.lst (src.map V.int))) (hsd : H sd = some (.dK (kTrue met))) (z : src.length ≤ 1000)
    (h : ∀ H', Ex H H' → k (decide (∀ n ∈ src, n ∈ met)) H') : tTest (tCB (rAll K) (tCons (tLc (iList K (tVar 8)) (gName 9) tYes (tDIn (tVar 9) (tVar 4)) [9]) tNil)) [y0, y1, y2, y3, some (.ref sd), y5, y6, y7, some (.ref l), y9] H k := by
  refine test_of (cb_of (c_of ?_))
  refine ⟨.ref l, rfl, l, rfl, ⟨_, sq_of hl⟩, fun D hD => lc_list (xs := src.map V.int) (fun i H' => Ex H H' ∧ H' D = some (.lst (((src.take i).map fun n => decide (n ∈ met)).map V.bl))) ⟨Ex.new hD, upd_same⟩ (fun i H' _ p => sq_of (p.1 _ _ hl)) ?_ ?_⟩
  · rintro i x H' hx ⟨e1, h1⟩
    obtain ⟨n, hn, rfl⟩ := at_map hx
    have il : i < src.length := (List.getElem?_eq_some_iff.mp hn).1
    refine ⟨rfl, ?_⟩
    dsimp only [tYes]
    rw [if_pos rfl]
    refine ⟨.int n, rfl, .ref sd, rfl, sd, _, rfl, DGet.k (k := Sum.inl n) (e1 _ _ hsd), _, h1, sz_lt (by rw [List.length_map, List.length_map, List.length_take]; omega), Ex.mut e1 hD, ?_⟩
    rw [upd_same, take_one hn, val_kTrue, List.map_append, List.map_append]
    rfl
  · rintro H' ⟨e1, h1⟩
    rw [List.length_map, List.take_length] at h1
    refine n_of ⟨D, _, rfl, sq_of h1, _, rfl, ?_⟩
    have e : (src.map fun n => decide (n ∈ met)).all id = decide (∀ n ∈ src, n ∈ met) := by
      by_cases q : ∀ n ∈ src, n ∈ met
      · rw [decide_eq_true q, List.all_eq_true]
        intro b hb
        obtain ⟨n, hn, rfl⟩ := List.mem_map.mp hb
        exact decide_eq_true (q n hn)
      · rw [decide_eq_false q]
        cases hb : (src.map fun n => decide (n ∈ met)).all id with
        | false => rfl
        | true =>
          refine absurd (fun n hn => ?_) q
          exact of_decide_eq_true (List.all_eq_true.mp hb _ (List.mem_map.mpr ⟨n, hn, rfl⟩))
    rw [e]
    exact h H' e1
end
/-- what is left without these objects and these links -/
def leftC (s : Shot) (gs : List Int) (ls : List (List Key)) : List Arc := (arcsOf s).filter fun α => decide (α.tgt ∉ gs) && decide (α.link ∉ ls)
theorem leftC_mem {s : Shot} {gs : List Int} {ls : List (List Key)} {α : Arc} : α ∈ leftC s gs ls ↔ α ∈ arcsOf s ∧ α.tgt ∉ gs ∧ α.link ∉ ls := by
  unfold leftC
  rw [List.mem_filter, Bool.and_eq_true, decide_eq_true_iff, decide_eq_true_iff]
theorem key_eqv : ∀ {a b : Key}, PyData.eqv (kD a) (kD b) = true → a = b
  | .inl a, .inl b, h => by
    have : a = b := by simpa [kD, PyData.eqv] using h
    rw [this]
  | .inr a, .inr b, h => by
    have : a = b := by simpa [kD, PyData.eqv] using h
    rw [this]
  | .inl a, .inr b, h => by simp [kD, PyData.eqv] at h
  | .inr a, .inl b, h => by simp [kD, PyData.eqv] at h
theorem keys_eqv : ∀ {a b : List Key}, PyData.eqvAll (a.map kD) (b.map kD) = true → a = b
  | [], [], _ => rfl
  | [], y :: b, h => by simp [PyData.eqvAll] at h
  | x :: a, [], h => by simp [PyData.eqvAll] at h
  | x :: a, y :: b, h => by
    rw [List.map_cons, List.map_cons, PyData.eqvAll, Bool.and_eq_true] at h
    rw [key_eqv h.1, keys_eqv h.2]
theorem link_eqv {a b : List Key} (h : PyData.eqv (.tuple (a.map kD)) (.tuple (b.map kD)) = true) : a = b := keys_eqv (by simpa [PyData.eqv] using h)
theorem DLink.layB {ks : List Key} (h : DLink ks) : PyData.canLay0 (.tuple (ks.map kD)) = true := by
  rcases h with ⟨z, rfl, hz⟩ | ⟨n, k, rfl, h1, h2⟩ | ⟨n, k, rfl, h1, h2⟩
  · simp only [List.map_cons, List.map_nil, kD, PyData.canLay0, PyData.canLayAll0, hz.2.2.1, Bool.and_true]
    decide +kernel
  · simp only [List.map_cons, List.map_nil, kD, PyData.canLay0, PyData.canLayAll0, Bool.and_true]
    decide +kernel
  · simp only [List.map_cons, List.map_nil, kD, PyData.canLay0, PyData.canLayAll0, Bool.and_true]
    decide +kernel
def ksD (ks : List Key) : PyData := .tuple (ks.map kD)
theorem any_eqv {ks : List Key} (hk : DLink ks) : ∀ {ls : List (List Key)}, ((ls.map ksD).any fun z => PyData.eqv z (ksD ks)) = decide (ks ∈ ls)
  | [] => by simp
  | l :: ls => by
    rw [List.map_cons, List.any_cons, any_eqv hk]
    by_cases e : l = ks
    · rw [e, show PyData.eqv (ksD ks) (ksD ks) = true from SeqAt.eqv_refl _ hk.layB]
      simp
    · have : PyData.eqv (ksD l) (ksD ks) = false := by
        cases c : PyData.eqv (ksD l) (ksD ks) with
        | false => rfl
        | true => exact absurd (link_eqv c) e
      rw [this, Bool.false_or]
      have e2 : ¬ ks = l := fun z => e z.symm
      simp [e2]
theorem lay_links : ∀ {ls : List (List Key)}, (∀ l ∈ ls, DLink l) → PyData.canLayAll0 (ls.map ksD) = true
  | [], _ => rfl
  | l :: ls, h => by
    rw [List.map_cons, PyData.canLayAll0, lay_links fun k m => h k (List.mem_cons_of_mem _ m), Bool.and_true]
    exact (h l List.mem_cons_self).layB
theorem dep_links : ∀ {ls : List (List Key)}, (∀ l ∈ ls, DLink l) → PyData.depthAll (ls.map ksD) ≤ 1
  | [], _ => by rw [List.map_nil, PyData.depthAll]; omega
  | l :: ls, h => by
    rw [List.map_cons, PyData.depthAll]
    have h1 := (h l List.mem_cons_self).fit.dp
    have h2 := dep_links fun k m => h k (List.mem_cons_of_mem _ m)
    unfold ksD at h2 ⊢
    omega
mutual
theorem dp_ex {K : PySem.W.Frag} {H H' : Hp} (e : Ex H H') : ∀ {x : V} {d : PyData}, Dp K H x d → Dp K H' x d
  | _, _, .non => .non
  | _, _, .bl b => .bl b
  | _, _, .int i => .int i
  | _, _, .str z => .str z
  | _, _, .lst h a => .lst (ex_l e h) (dpAll_ex e a)
  | _, _, .tup h a => .tup (ex_t e h) (dpAll_ex e a)
theorem dpAll_ex {K : PySem.W.Frag} {H H' : Hp} (e : Ex H H') : ∀ {xs : List V} {ds : List PyData}, DpAll K H xs ds → DpAll K H' xs ds
  | _, _, .nil => .nil
  | _, _, .cons a t => .cons (dp_ex e a) (dpAll_ex e t)
end
theorem un65 {k : Nat} {A : Around} (r : Room k A) : A.units + 65 < cLine := by
  have := r.un
  omega
/-- the links that are cut, as they are handed over -/
def CutAt (K : PySem.W.Frag) (H : Hp) (c : Addr) (s : Shot) (ls : List (List Key)) : Prop := (ls = [] ∧ SqT K H c []) ∨ ∃ ys, H c = some (.lst ys) ∧ DpAll K H ys (ls.map ksD) ∧ (∀ l ∈ ls, DLink l) ∧ ∀ α ∈ arcsOf s, DLink α.link
theorem CutAt.ex {K : PySem.W.Frag} {H H' : Hp} {c : Addr} {s : Shot} {ls : List (List Key)} (e : Ex H H') (h : CutAt K H c s ls) : CutAt K H' c s ls := by
  rcases h with ⟨a, b⟩ | ⟨ys, a, b, d⟩
  · exact .inl ⟨a, ex_t e b⟩
  · exact .inr ⟨ys, e _ _ a, dpAll_ex e b, d⟩
def rNotCut (K : PySem.W.Frag) : R2 := fun x y H Q => rNotIn0 K x y H Q ∨ rNotInD K x y H Q
theorem op_notCut {X : Cx} (hu : X.A.units + 65 < cLine) : OpR X (compareOp .NotIn) (rNotCut X.K) := by
  intro pins s σ H x y v u Q I rx ry h
  rcases h with h | h
  · exact op_notIn0 pins s σ H x y v u Q I rx ry h
  · exact op_notInD hu pins s σ H x y v u Q I rx ry h
theorem notCut_of {K : PySem.W.Frag} {H : Hp} {c kq : Addr} {s : Shot} {ls : List (List Key)} {α : Arc} {Q : VK} (h : CutAt K H c s ls) (hk : H kq = some (.tup (α.link.map kV))) (ha : α ∈ arcsOf s) (q : Q (.bl (decide (α.link ∉ ls))) H) : rNotCut K (.ref kq) (.ref c) H Q := by
  rcases h with ⟨rfl, h⟩ | ⟨ys, h1, h2, h3, h4⟩
  · rw [decide_eq_true List.not_mem_nil] at q
    exact .inl ⟨c, rfl, h, q⟩
  · refine .inr ⟨ksD α.link, ls.map ksD, .tup (st_of hk) (kVs_td _).dp, .lst (sq_of h1) h2, ?_, ?_, ?_⟩
    · unfold SeqAt.shaped
      rw [show PyData.canLay0 (ksD α.link) = true from (h4 α ha).layB, Bool.true_and]
      exact decide_eq_true (Nat.le_trans (h4 α ha).fit.dp (by decide))
    · unfold SeqAt.shaped
      rw [PyData.canLay0, lay_links h3, Bool.true_and, PyData.depth]
      have := dep_links h3
      exact decide_eq_true (by omega)
    · rw [any_eqv (h4 α ha)]
      have : (!decide (α.link ∈ ls)) = decide (α.link ∉ ls) := by simp
      rw [this]
      exact q
def spAliv (K : PySem.W.Frag) : Sp := fun vs H Q _ => ∃ (x : V) (g c : Addr) (s : Shot) (gs : List Int) (ls : List (List Key)), vs = [x, .ref g, .ref c] ∧ Td K H x (dShot s) ∧ Fair s ∧ (SqL K H g (gs.map V.int) ∨ SqT K H g (gs.map V.int)) ∧ CutAt K H c s ls ∧
  ∀ (H' : Hp) (q : Addr) (met : List Int), Ex H H' → H q = none → H' q = some (.dK (kTrue met)) → met.Nodup → (∀ n, n ∈ met ↔ Live (leftC s gs ls) n) → met.length ≤ 12 → Q (.ref q) H'
section
variable {P : Program} {w : World} {K : PySem.W.Frag} {mg : Str → Option Value} {base : Heap}
theorem ok_aliv {f fW : Addr} {fd fdW : FuncData} (F : Fun K "_law_alive" "_law_alive" sAliv f fd) (FW : Fun K "_law_ways" "_law_ways" sWays fW fdW) (bW : Binds K fdW ["_law_shot_here"] []) (gW : mg "_law_ways" = some (.ref fW)) (mL : mg "len" = none) (mA : mg "all" = none) : FnOk P w K mg base CX0 2 f fd ["_law_shot_here", "_law_gone", "_law_cut"] (spAliv K) := by
  have GW : FnOk P w K mg base CX0 1 fW fdW ["_law_shot_here"] (spWays K) := ok_ways FW
  refine F.ok scAliv (fun vs H Q E h => ?_) (fun cdv A outer s H vs Q E hr h => ?_)
  · obtain ⟨x, g, c, s, gs, ls, rfl, _⟩ := h
    rfl
  · obtain ⟨x, g, c, s, gs, ls, rfl, ht, dr, hg, hc, q⟩ := h
    have hu := hu_of hr
    refine ⟨_, pss_cons (ps_asg (pe_tup (pa_cons (pe_call GW hr (by rfl) gW FW.kp bW .nil pass0 (pa_cons (pv 0) pa_nil)) <| pa_cons pe_dnewK <| pa_cons (pe_un un_neg pe_int) pa_nil)) (pg_tup (n := 3) rfl (pgs_cons (pg_name (i := 3) scAliv.nd rfl (.inl rfl)) <| pgs_cons (pg_name (i := 4) scAliv.nd rfl (.inr rfl)) <| pgs_cons (pg_name (i := 5) scAliv.nd rfl (.inl rfl)) pgs_nil))) <|
      pss_cons (ps_while PassesOwn.never (pt_cmpR op_gt (pe_callB call_lenD (by rfl) mL PySem.boot_len (pa_cons (pv 4) pa_nil)) (pv 5) (nomark _))
        (pss_cons (ps_set (i := 5) scAliv.nd rfl (.inl rfl) (pe_callB call_lenD (by rfl) mL PySem.boot_len (pa_cons (pv 4) pa_nil))) <|
        pss_one (ps_lock (ps_for PassesOwn.never rfl (pi_itemsT (pv 3)) (pg_tup (n := 2) rfl (pgs_cons (pg_name (i := 6) scAliv.nd rfl (.inl rfl)) <| pgs_cons (pg_tup (n := 2) rfl (pgs_cons (pg_name (i := 7) scAliv.nd rfl (.inl rfl)) <| pgs_cons (pg_name (i := 8) scAliv.nd rfl (.inl rfl)) pgs_nil)) pgs_nil))
          (pss_one (ps_if (pw_and (pt_cmpR op_notIn_seq (pv 7) (pv 1) (by rfl)) (pw_and (pt_cmpR (op_notCut (un65 hr)) (pv 6) (pv 2) (by rfl)) (pw_and1 (pt_val (pe_callB (cr_all rfl) (by rfl) mA (by decide +kernel) (pa_cons (pe_lc (own := [("_law_want", 9)]) (g := gName 9) (tt := tYes) (te := tDIn (tVar 9) (tVar 4)) rfl scAliv.nd (pi_list (pv 8)) (blkOk_by (N := nAliv) (sc := defScope sAliv) (by decide +kernel))
              (fun _ _ _ _ _ => pg_name (i := 9) scAliv.nd rfl (.inl rfl)) (fun _ _ _ _ _ => pts_nil) (fun _ _ _ _ _ => pe_cmp (pc_din hu (pv 9) (pv 4)) rfl)) pa_nil)))))).pt
            (pss_one (ps_dput hu (pv 4) (pv 7) pe_bl rfl)) pss_nil)))))) <|
      pss_one (ps_ret (pv 4)), ?_⟩
    have hal := dr.ok.arcs
    have lefts : ∀ α ∈ leftC s gs ls, α ∈ arcsOf s ∧ α.tgt ∉ gs ∧ α.link ∉ ls := fun α ha => leftC_mem.mp ha
    have liveA : ∀ n, Live (leftC s gs ls) n → Live (arcsOf s) n := fun n h => Live.sub (S := fun n => Live (arcsOf s) n) (fun α ha hs => .mk (lefts α ha).1 hs) h
    have few : ∀ met : List Int, met.Nodup → (∀ n ∈ met, Live (leftC s gs ls) n) → met.length ≤ 12 := fun met nd h => dr.few nd fun n hn => liveA n (h n hn)
    refine seq_of (asgG_of (tup_of (c_of (call_of (c_of (v_of rfl (n_of ⟨x, s, rfl, ht, dr, fun H1 wd zs e1 hwd0 hwd hzs hways => ?_⟩)))))))
    refine c_of (newK_of fun sd hsd => ?_)
    refine c_of ⟨1, rfl, n_of ⟨by show 3 ≤ sizeLine; decide, fun p3 hp3 => ?_⟩⟩
    have hsd0 := fresh_back e1 hsd
    have nws : sd ≠ wd := fun q => by rw [q, hwd] at hsd; cases hsd
    have e2 : Ex H1 (upd H1 sd (.dK [])) := Ex.new hsd
    have e3 : Ex (upd H1 sd (.dK [])) (upd (upd H1 sd (.dK [])) p3 (.tup [.ref wd, .ref sd, .int (-1)])) := Ex.new hp3
    refine ⟨p3, _, rfl, st_of upd_same, rfl, .ref wd, _, rfl, .ref sd, _, rfl, .int (-1), _, rfl, rfl, ?_⟩
    have w0 : See (leftC s gs ls) zs H (upd (upd H1 sd (.dK [])) p3 (.tup [.ref wd, .ref sd, .int (-1)])) sd [] := ⟨(e1.trans e2).trans e3, e3 _ _ upd_same, List.nodup_nil, fun _ h => absurd h List.not_mem_nil, fun z hz => (hways z hz).at.ex (e2.trans e3)⟩
    have wd2 := (e2.trans e3) _ _ hwd
    generalize upd (upd H1 sd (.dK [])) p3 (.tup [.ref wd, .ref sd, .int (-1)]) = H2 at w0 wd2 ⊢
    refine ⟨fun m σ' H' => ∃ met many y6 y7 y8 y9, σ' = [some x, some (.ref g), some (.ref c), some (.ref wd), some (.ref sd), some (.int many), y6, y7, y8, y9] ∧ See (leftC s gs ls) zs H H' sd met ∧ H' wd = some (.dT (tabW zs)) ∧ -1 ≤ many ∧ many ≤ (met.length : Int) ∧ (many = (met.length : Int) → ∀ α ∈ leftC s gs ls, (∀ n ∈ α.src, n ∈ met) → α.tgt ∈ met) ∧ (m : Int) = 13 - many,
      ⟨14, [], -1, none, none, none, none, rfl, w0, wd2, by omega, by show (-1 : Int) ≤ 0; omega, (fun h => absurd h (by show ¬ (-1 : Int) = 0; omega)), by omega⟩, ?_⟩
    rintro m σ' H' ⟨met, many, y6, y7, y8, y9, rfl, sn, hw, b0, b1, cl, hm⟩
    have mlen := few met sn.nd sn.live
    have kl : (kTrue met).length = met.length := List.length_map _
    refine ⟨.ref sd, rfl, sd, _, rfl, sn.at_, .int many, rfl, _, _, rfl, rfl, _, rfl, ?_⟩
    dsimp only
    rw [kl]
    by_cases hgt : ((met.length : Nat) : Int) > many
    · rw [decide_eq_true hgt, if_pos rfl]
      refine ⟨fun σ2 H2 => ∃ m', m' < m ∧ ∃ met many y6 y7 y8 y9, σ2 = [some x, some (.ref g), some (.ref c), some (.ref wd), some (.ref sd), some (.int many), y6, y7, y8, y9] ∧ See (leftC s gs ls) zs H H2 sd met ∧ H2 wd = some (.dT (tabW zs)) ∧ -1 ≤ many ∧ many ≤ (met.length : Int) ∧ (many = (met.length : Int) → ∀ α ∈ leftC s gs ls, (∀ n ∈ α.src, n ∈ met) → α.tgt ∈ met) ∧ (m' : Int) = 13 - many, fun _ _ h => h, ?_⟩
      refine seq_of (asg_of (cb_of (c_of (v_of rfl (n_of ⟨sd, _, rfl, sn.at_, ?_⟩)))))
      rw [kl]
      refine ⟨wd, _, hw, trivial, fun od => ?_⟩
      have snL := sn.upd (u := .frz od (.dT (tabW zs))) hw (fun _ x => nomatch x) (fun _ x => nomatch x) hwd0 nws
      have hwL : upd H' wd (.frz od (.dT (tabW zs))) wd = some (.frz od (.dT (tabW zs))) := upd_same
      generalize upd H' wd (.frz od (.dT (tabW zs))) = HL at snL hwL ⊢
      refine ⟨.ref wd, rfl, wd, od, tabW zs, rfl, hwL, for_it walk_itemsT (fun i σ2 H2 => ∃ met' y6 y7 y8 y9, σ2 = [some x, some (.ref g), some (.ref c), some (.ref wd), some (.ref sd), some (.int ((met.length : Nat) : Int)), y6, y7, y8, y9] ∧ See (leftC s gs ls) zs H H2 sd met' ∧ H2 wd = some (.frz od (.dT (tabW zs))) ∧ met <+: met' ∧ ∀ α ∈ (arcsOf s).take i, α.tgt ∉ gs → α.link ∉ ls → (∀ n ∈ α.src, n ∈ met) → α.tgt ∈ met')
        ⟨met, y6, y7, y8, y9, rfl, snL, hwL, List.prefix_refl _, fun _ h => by simp at h⟩ (fun i σ2 H2 _ ⟨_, _, _, _, _, _, _, h, _⟩ => h) ?_ ?_⟩
      · rintro i x' σ2 H2 H3 hi ⟨met', y6, y7, y8, y9, rfl, sn', hw', pre, c'⟩ ⟨T, k, v, kq, hkv, hkq, rfl, hT, rfl⟩
        obtain ⟨z, hz, hzk⟩ := map_at hkv
        cases hzk
        have zin := List.mem_of_getElem? hz
        obtain ⟨t, l, h1, h2, h3⟩ := sn'.ways z zin
        have hα : (arcsOf s)[i]? = some z.2 := by
          rw [← hzs, List.getElem?_map, hz]
          rfl
        have αin := List.mem_of_getElem? hα
        have e5 : Ex H2 (upd H2 T (.tup [.ref kq, z.1])) := Ex.new hT
        have sn5 := sn'.more e5
        have hw5 := e5 _ _ hw'
        have T5 : (upd H2 T (.tup [.ref kq, z.1])) T = some (.tup [.ref kq, z.1]) := upd_same
        have h25 := e5 _ _ h2
        have h35 := e5 _ _ h3
        generalize upd H2 T (.tup [.ref kq, z.1]) = H5 at e5 sn5 hw5 T5 h25 h35 ⊢
        rw [h1] at T5
        have mlen' := few met' sn'.nd sn'.live
        have srcl := arcs_src αin
        refine ⟨T, _, rfl, st_of T5, rfl, .ref kq, _, rfl, .ref t, _, rfl, t, _, rfl, st_of h25, rfl, .int z.2.tgt, _, rfl, .ref l, _, rfl, rfl, rfl, ?_⟩
        dsimp only [gName]
        have step : ∀ (met2 : List Int) (H6 : Hp) (w6 w7 w8 w9 : Option V), See (leftC s gs ls) zs H H6 sd met2 → H6 wd = some (.frz od (.dT (tabW zs))) → met' <+: met2 → (z.2.tgt ∉ gs → z.2.link ∉ ls → (∀ n ∈ z.2.src, n ∈ met) → z.2.tgt ∈ met2) →
            ∃ met' y6 y7 y8 y9, [some x, some (.ref g), some (.ref c), some (.ref wd), some (.ref sd), some (V.int ((met.length : Nat) : Int)), w6, w7, w8, w9] = [some x, some (.ref g), some (.ref c), some (.ref wd), some (.ref sd), some (.int ((met.length : Nat) : Int)), y6, y7, y8, y9] ∧ See (leftC s gs ls) zs H H6 sd met' ∧ H6 wd = some (.frz od (.dT (tabW zs))) ∧ met <+: met' ∧ ∀ α ∈ (arcsOf s).take (i + 1), α.tgt ∉ gs → α.link ∉ ls → (∀ n ∈ α.src, n ∈ met) → α.tgt ∈ met' := by
          intro met2 H6 w6 w7 w8 w9 s2 hw6 p2 cc
          refine ⟨met2, w6, w7, w8, w9, rfl, s2, hw6, pre.trans p2, fun α ha hg2 hl2 hs => ?_⟩
          rw [take_one hα] at ha
          rcases List.mem_append.mp ha with m | m
          · exact p2.subset (c' α m hg2 hl2 hs)
          · rw [List.mem_singleton.mp m] at hg2 hl2 hs ⊢
            exact cc hg2 hl2 hs
        have hgG : SqL K H5 g (gs.map V.int) ∨ SqT K H5 g (gs.map V.int) := hg.elim (fun h => .inl (ex_l sn5.ex h)) (fun h => .inr (ex_t sn5.ex h))
        refine ifS_of (and_of (test_of (op_of (v_of rfl (v_of rfl ⟨g, gs.map V.int, rfl, hgG, rfl, flat_ints gs, _, rfl, ?_⟩)))))
        rw [inV_ints]
        by_cases hin : z.2.tgt ∈ gs
        · rw [decide_eq_true hin]
          try dsimp only
          rw [if_pos rfl, if_neg (show ¬ (!true) = true from Bool.false_ne_true), if_neg Bool.false_ne_true]
          exact step met' H5 _ _ _ _ sn5 hw5 (List.prefix_refl _) fun h => absurd hin h
        · rw [decide_eq_false hin]
          try dsimp only
          rw [if_pos rfl, if_pos (show (!false) = true from rfl)]
          refine and_of (test_of (op_of (v_of rfl (v_of rfl (notCut_of (hc.ex sn5.ex) (e5 _ _ hkq) αin ⟨_, rfl, ?_⟩)))))
          by_cases hcut : z.2.link ∈ ls
          · rw [decide_eq_false (fun z => z hcut), if_neg Bool.false_ne_true]
            try dsimp only
            rw [if_neg Bool.false_ne_true]
            exact step met' H5 _ _ _ _ sn5 hw5 (List.prefix_refl _) fun _ h => absurd hcut h
          rw [decide_eq_true hcut, if_pos rfl]
          refine rd_all h35 sn5.at_ (by omega) fun H6 e6 => ?_
          have sn6 := sn5.more e6
          have hw6 := e6 _ _ hw5
          by_cases hs : ∀ n ∈ z.2.src, n ∈ met'
          · rw [decide_eq_true hs, if_pos rfl]
            have lv : Live (leftC s gs ls) z.2.tgt := .mk (leftC_mem.mpr ⟨αin, hin, hcut⟩) fun n hn => sn'.live n (hs n hn)
            refine put_of (k_of (v_of rfl (v_of rfl ⟨sd, _, rfl, .k (k := .inl z.2.tgt) sn6.at_ (sz_lt (by rw [List.length_map]; omega)), ?_⟩)))
            rw [put_ins]
            refine step (insT met' z.2.tgt) _ _ _ _ _ (sn6.put hsd0 lv) ?_ (insT_pre _ _) fun _ _ _ => insT_mem.mpr (.inr rfl)
            rw [upd_ne nws.symm]
            exact hw6
          · rw [decide_eq_false hs, if_neg Bool.false_ne_true]
            exact step met' H6 _ _ _ _ sn6 hw6 (List.prefix_refl _) fun _ _ h => absurd (fun n hn => pre.subset (h n hn)) hs
      · rintro σ2 H2 ⟨met', y6, y7, y8, y9, rfl, sn', hw', pre, c'⟩
        have ml' := few met' sn'.nd sn'.live
        have pl := pre.length_le
        have lz : (tabW zs).length = (arcsOf s).length := by rw [List.length_map, ← hzs, List.length_map]
        rw [lz, List.take_length] at c'
        refine ⟨hw', 13 - met.length, by omega, met', _, _, _, _, _, rfl, sn'.upd hw' (fun _ x => nomatch x) (fun _ x => nomatch x) hwd0 nws, upd_same, by omega, by omega, fun he => ?_, by omega⟩
        have e : met = met' := pre.eq_of_length (by omega)
        subst e
        intro α ha hs
        exact c' α (lefts α ha).1 (lefts α ha).2.1 (lefts α ha).2.2 hs
    · rw [decide_eq_false hgt, if_neg Bool.false_ne_true]
      refine ⟨.ref sd, rfl, q H' sd met sn.ex hsd0 sn.at_ sn.nd (fun n => ⟨sn.live n, fun hn => ?_⟩) mlen⟩
      exact Live.sub (S := fun n => n ∈ met) (cl (by omega)) hn
end
end Sn
namespace Sn
open PySem PySem.Spec PyProof.Rows L2 Evl Gd
abbrev sDying : Stmt := topS 29
abbrev nDying : List Str := ["_law_shot_here", "_law_gone", "_law_cut", "_law_left", "_law_item"]
theorem scDying : FnScope nDying ["_law_shot_here", "_law_gone", "_law_cut"] (defScope sDying) := ⟨rfl, rfl, rfl, by decide +kernel, rfl, by decide +kernel, by decide +kernel⟩
theorem leftC_nil (s : Shot) : leftC s [] [] = arcsOf s := by
  unfold leftC
  rw [List.filter_eq_self]
  intro α _
  simp
def spDying (K : PySem.W.Frag) : Sp := fun vs H Q _ => ∃ (x : V) (g c : Addr) (s : Shot) (gs : List Int) (ls : List (List Key)), vs = [x, .ref g, .ref c] ∧ Td K H x (dShot s) ∧ Fair s ∧ (SqL K H g (gs.map V.int) ∨ SqT K H g (gs.map V.int)) ∧ CutAt K H c s ls ∧
  ∀ (H' : Hp) (t : Addr) (ns : List Int), Ex H H' → H t = none → H' t = some (.tup (ns.map V.int)) → ns.Pairwise (· < ·) → (∀ n, n ∈ ns ↔ Live (arcsOf s) n ∧ ¬ Live (leftC s gs ls) n) → Q (.ref t) H'
section
variable {P : Program} {w : World} {K : PySem.W.Frag} {mg : Str → Option Value} {base : Heap}
theorem ok_dying {f fV : Addr} {fd fdV : FuncData} (F : Fun K "_law_dying" "_law_dying" sDying f fd) (FV : Fun K "_law_alive" "_law_alive" sAliv fV fdV) (bV : Binds K fdV ["_law_shot_here", "_law_gone", "_law_cut"] []) (gV : mg "_law_alive" = some (.ref fV)) (mT : mg "tuple" = none) (mO : mg "sorted" = none)
    (GV : FnOk P w K mg base CX0 2 fV fdV ["_law_shot_here", "_law_gone", "_law_cut"] (spAliv K)) : FnOk P w K mg base CX0 3 f fd ["_law_shot_here", "_law_gone", "_law_cut"] (spDying K) := by
  refine F.ok scDying (fun vs H Q E h => ?_) (fun cdv A outer s H vs Q E hr h => ?_)
  · obtain ⟨x, g, c, s, gs, ls, rfl, _⟩ := h
    rfl
  · obtain ⟨x, g, c, s, gs, ls, rfl, ht, dr, hg, hc, q⟩ := h
    have hu := hu_of hr
    refine ⟨_, pss_cons (ps_set (i := 3) scDying.nd rfl (.inr rfl) (pe_call GV hr (by rfl) gV FV.kp bV .nil pass0 (pa_cons (pv 0) <| pa_cons (pv 1) <| pa_cons (pv 2) pa_nil))) <|
      pss_one (ps_ret (pe_callTy call_tuple_of (by rfl) mT (by decide +kernel) (pa_cons (pe_lc (own := [("_law_item", 4)]) (g := gName 4) (tt := tTest (tDNotIn (tVar 4) (tVar 3))) (te := tVar 4) rfl scDying.nd (pi_list (pe_callB (call_sortedDI rfl) (by rfl) mO (by decide +kernel) (pa_cons (pe_call GV hr (by rfl) gV FV.kp bV .nil pass0 (pa_cons (pv 0) <| pa_cons (pe_tup pa_nil) <| pa_cons (pe_tup pa_nil) pa_nil)) pa_nil))) (blkOk_by (N := nDying) (sc := defScope sDying) (by decide +kernel))
        (fun _ _ _ _ _ => pg_name (i := 4) scDying.nd rfl (.inl rfl)) (fun _ _ _ _ _ => pts_one (pt_cmp (pc_dnotin hu (pv 4) (pv 3)))) (fun _ _ _ _ _ => pv 4)) pa_nil))), ?_⟩
    refine seq_of (asg_of (call_of (c_of (v_of rfl (c_of (v_of rfl (c_of (v_of rfl (n_of ⟨x, g, c, s, gs, ls, rfl, ht, dr, hg, hc, fun H1 q1 met1 e1 hq10 hq1 nd1 iff1 ml1 => ?_⟩)))))))))
    dsimp only
    refine ret_of (cb_of (c_of ?_))
    refine lc_of (iL_of (cb_of (c_of (call_of (c_of (v_of rfl (c_of (tup_of (n_of ⟨Nat.zero_le _, fun a1 h1 => ?_⟩)))))))))
    refine c_of (tup_of (n_of ⟨Nat.zero_le _, fun a2 h2 => ?_⟩))
    have e2 : Ex H1 (upd H1 a1 (.tup [])) := Ex.new h1
    have e3 : Ex (upd H1 a1 (.tup [])) (upd (upd H1 a1 (.tup [])) a2 (.tup [])) := Ex.new h2
    have e13 := (e1.trans e2).trans e3
    refine n_of ⟨x, a1, a2, s, [], [], rfl, ht.ex e13, dr, .inr (st_of (e3 _ _ upd_same)), .inl ⟨rfl, st_of upd_same⟩, fun H4 q2 met2 e4 hq20 hq2 nd2 iff2 ml2 => ?_⟩
    rw [leftC_nil] at iff2
    refine n_of ⟨q2, _, met2, rfl, .inl hq2, by rw [List.map_map]; rfl, by omega, fun ys p perm srt hp => ⟨p, rfl, ⟨_, sq_of upd_same⟩, fun D hD => ?_⟩⟩
    have e5 : Ex H4 (upd H4 p (.lst (ys.map V.int))) := Ex.new hp
    have hq1' := (e5.trans (Ex.refl _)) _ _ (e4 _ _ (e3 _ _ (e2 _ _ hq1)))
    have p5 : (upd H4 p (.lst (ys.map V.int))) p = some (.lst (ys.map V.int)) := upd_same
    have e15 := (e13.trans e4).trans e5
    have yl : ys.length ≤ 12 := by
      rw [perm.length_eq]
      exact ml2
    have asc := strict_of srt (perm.nodup_iff.mpr nd2)
    generalize upd H4 p (.lst (ys.map V.int)) = H5 at e5 hq1' p5 e15 hD ⊢
    refine lc_list (xs := ys.map V.int) (fun i H' => Ex H5 H' ∧ H' D = some (.lst (((ys.take i).filter fun n => decide (n ∉ met1)).map V.int))) ⟨Ex.new hD, upd_same⟩ (fun i H' _ h => sq_of (h.1 _ _ p5)) ?_ ?_
    · rintro i x' H6 hx ⟨e6, h6⟩
      obtain ⟨n, hn, rfl⟩ := at_map hx
      have il : i < ys.length := (List.getElem?_eq_some_iff.mp hn).1
      refine ⟨rfl, ?_⟩
      refine test_of ⟨.int n, rfl, .ref q1, rfl, q1, _, rfl, DGet.k (k := Sum.inl n) (e6 _ _ hq1'), _, rfl, ?_⟩
      rw [val_kTrue]
      by_cases hm : n ∈ met1
      · rw [decide_eq_true hm, if_neg (show ¬ (!true) = true from Bool.false_ne_true)]
        refine ⟨e6, ?_⟩
        rw [h6, take_one hn, List.filter_append, List.filter_cons_of_neg (by simp [hm]), List.filter_nil, List.append_nil]
      · rw [decide_eq_false hm, if_pos (show (!false) = true from rfl)]
        refine v_of rfl ⟨_, h6, sz_lt ?_, Ex.mut e6 hD, ?_⟩
        · rw [List.length_map]
          have h1 := List.length_filter_le (fun n => decide (n ∉ met1)) (ys.take i)
          rw [List.length_take] at h1
          omega
        · rw [upd_same, take_one hn, List.filter_append, List.filter_cons_of_pos (by simp [hm]), List.filter_nil, List.map_append]
          rfl
    · rintro H6 ⟨e6, h6⟩
      rw [List.length_map, List.take_length] at h6
      refine n_of ⟨D, _, rfl, .inl ⟨sq_of h6, fun t ht' => ?_⟩⟩
      have e16 := e15.trans e6
      refine q _ t _ (e16.trans (Ex.new ht')) (fresh_back e16 ht') upd_same (asc.sublist List.filter_sublist) fun n => ?_
      rw [List.mem_filter, perm.mem_iff, iff2 n]
      constructor
      · rintro ⟨h1, h2⟩
        exact ⟨h1, fun l => of_decide_eq_true h2 ((iff1 n).mpr l)⟩
      · rintro ⟨h1, h2⟩
        exact ⟨h1, decide_eq_true fun m => h2 ((iff1 n).mp m)⟩
end
end Sn
namespace Sn
open PySem PySem.Spec PyProof.Rows L2 Evl Gd
abbrev sLinks : Stmt := topS 28
abbrev nLinks : List Str := ["_law_shot_here", "_law_seen", "_law_link", "_law_way", "_law_want"]
theorem scLinks : FnScope nLinks ["_law_shot_here"] (defScope sLinks) := ⟨rfl, rfl, rfl, by decide +kernel, rfl, by decide +kernel, by decide +kernel⟩
theorem lockT_of {td : TE} {σ : L2.St} {H : Hp} {Q : VK} (h : td σ H fun x H1 => ∃ d kvs, x = .ref d ∧ H1 d = some (.dT kvs) ∧ ∀ od, Q x (upd H1 d (.frz od (.dT kvs)))) : tLockT td σ H Q := h
theorem itT_of {td : TE} {σ : L2.St} {H : Hp} {R : It → Hp → Prop} (h : td σ H fun x H1 => ∃ d o kvs, x = .ref d ∧ H1 d = some (.frz o (.dT kvs)) ∧ R (Itit d o kvs) H1) : iItemsT td σ H R := h
/-- a link's tuple -/
def KAt (H : Hp) (y : V) (β : Arc) : Prop := ∃ t, y = .ref t ∧ H t = some (.tup (β.link.map kV))
theorem map_of_paired {R : V → Arc → Prop} {xs : List V} {βs : List Arc} (h : Paired R xs βs) (u : ∀ x β β', R x β → R x β' → β ∈ βs → β' ∈ βs → β = β') : ∃ g : V → Arc, xs.map g = βs ∧ ∀ x ∈ xs, R x (g x) := by
  have one : ∀ x : V, ∃ β : Arc, (∃ β' ∈ βs, R x β') → β ∈ βs ∧ R x β := fun x => by
    by_cases e : ∃ β' ∈ βs, R x β'
    · obtain ⟨β, b1, b2⟩ := e
      exact ⟨β, fun _ => ⟨b1, b2⟩⟩
    · exact ⟨⟨[], [], 0⟩, fun z => absurd z e⟩
  obtain ⟨g, hg⟩ := Classical.axiomOfChoice one
  have ok : ∀ (j : Nat) (x : V), xs[j]? = some x → ∃ β, βs[j]? = some β ∧ g x = β ∧ R x β := fun j x hx => by
    obtain ⟨β, b1, b2⟩ := paired_at h hx
    have bm := List.mem_of_getElem? b1
    obtain ⟨c1, c2⟩ := hg x ⟨β, bm, b2⟩
    exact ⟨β, b1, u x _ _ c2 b2 c1 bm, b2⟩
  refine ⟨g, List.ext_getElem? fun j => ?_, fun x hx => ?_⟩
  · rw [List.getElem?_map]
    cases e : xs[j]? with
    | none =>
      have l := Paired.length h
      have := List.getElem?_eq_none_iff.mp e
      rw [List.getElem?_eq_none_iff.mpr (by omega)]
      rfl
    | some x =>
      obtain ⟨β, b1, b2, _⟩ := ok j x e
      rw [b1, ← b2]
      rfl
  · obtain ⟨j, hj⟩ := List.mem_iff_getElem?.mp hx
    obtain ⟨β, _, b2, b3⟩ := ok j x hj
    rw [b2]
    exact b3
theorem ali_refl : ∀ ks : List Key, Ali ks ks
  | [] => trivial
  | k :: ks => ⟨fun _ => ali_refl ks, fun h => absurd rfl h⟩
theorem ali_ints : ∀ {a b : List Int}, Ali (a.map Sum.inl) (b.map Sum.inl)
  | [], _ => by cases ‹List Int› <;> trivial
  | _ :: _, [] => trivial
  | x :: a, y :: b => ⟨fun _ => ali_ints, fun _ => rfl⟩
theorem formed_ali {α β : Arc} (h : Formed α) (g : Formed β) : Ali α.link β.link := by
  have w : ∀ {a b : Str} {r s : List Key}, (a = b → Ali r s) → Ali (.inr a :: r) (.inr b :: s) := fun {a b r s} h => ⟨fun e => h (Sum.inr.inj e), fun _ => rfl⟩
  rcases h with ⟨r, e1, _⟩ | ⟨n, k, e1, _⟩ | ⟨n, k, e1, _⟩ <;> rcases g with ⟨r', e2, _⟩ | ⟨n', k', e2, _⟩ | ⟨n', k', e2, _⟩ <;> rw [e1, e2] <;> refine w fun e => ?_
  · exact ⟨fun _ => trivial, fun _ => rfl⟩
  · exact absurd e (by decide +kernel)
  · exact absurd e (by decide +kernel)
  · exact absurd e (by decide +kernel)
  · exact ali_ints (a := [n, k]) (b := [n', k'])
  · exact absurd e (by decide +kernel)
  · exact absurd e (by decide +kernel)
  · exact absurd e (by decide +kernel)
  · exact ali_ints (a := [n, k]) (b := [n', k'])
theorem formed_arc {s : Shot} {α : Arc} (h : α ∈ arcsOf s) : Formed α := formed_net (N := netM s) (by rw [net_arcs]; exact h)
theorem formed_word {α : Arc} (h : Formed α) : ∃ z r, α.link = .inr z :: r := by
  rcases h with ⟨r, e, _⟩ | ⟨n, k, e, _⟩ | ⟨n, k, e, _⟩
  · exact ⟨_, _, e⟩
  · exact ⟨_, _, e⟩
  · exact ⟨_, _, e⟩
theorem keys_td {K : PySem.W.Frag} {H : Hp} {g : V → Arc} : ∀ {ys : List V}, (∀ y ∈ ys, KAt H y (g y)) → TdAll K H ys ((ys.map g).map fun β => PyData.tuple (β.link.map kD))
  | [], _ => .nil
  | y :: ys, h => by
    obtain ⟨t, e, ht⟩ := h y List.mem_cons_self
    refine .cons ?_ (keys_td fun z hz => h z (List.mem_cons_of_mem _ hz))
    rw [e] at ht ⊢
    rw [← e]
    rw [e]
    exact .tup (st_of ht) (kVs_td _)
theorem lnks_map {H : Hp} {g : V → Arc} : ∀ {ys : List V}, (∀ y ∈ ys, KAt H y (g y)) → Paired (LnkA H) ys (ys.map g)
  | [], _ => .nil
  | y :: ys, h => .cons (h y List.mem_cons_self) (lnks_map fun z hz => h z (List.mem_cons_of_mem _ hz))
def dLink (α : Arc) : PyData := .tuple (α.link.map kD)
/-- the links whose sources live, in some order -/
def spLinks (K : PySem.W.Frag) : Sp := fun vs H Q _ => ∃ (x : V) (s : Shot), vs = [x] ∧ Td K H x (dShot s) ∧ Fair s ∧
  ∀ (H' : Hp) (p : Addr) (ys : List V) (βs : List Arc), Ex H H' → H' p = some (.lst ys) → TdAll K H' ys (βs.map dLink) → Paired (LnkA H') ys βs → (∀ β, β ∈ βs ↔ β ∈ arcsOf s ∧ ∀ m ∈ β.src, Live (arcsOf s) m) → βs.length ≤ (arcsOf s).length → Q (.ref p) H'
section
variable {P : Program} {w : World} {K : PySem.W.Frag} {mg : Str → Option Value} {base : Heap}
theorem ok_links {f fV fW : Addr} {fd fdV fdW : FuncData} (F : Fun K "_law_links" "_law_links" sLinks f fd) (FV : Fun K "_law_alive" "_law_alive" sAliv fV fdV) (FW : Fun K "_law_ways" "_law_ways" sWays fW fdW) (bV : Binds K fdV ["_law_shot_here", "_law_gone", "_law_cut"] []) (bW : Binds K fdW ["_law_shot_here"] []) (gV : mg "_law_alive" = some (.ref fV)) (gW : mg "_law_ways" = some (.ref fW))
    (mO : mg "sorted" = none) (mA : mg "all" = none) (GV : FnOk P w K mg base CX0 2 fV fdV ["_law_shot_here", "_law_gone", "_law_cut"] (spAliv K)) : FnOk P w K mg base CX0 3 f fd ["_law_shot_here"] (spLinks K) := by
  have GW : FnOk P w K mg base CX0 2 fW fdW ["_law_shot_here"] (spWays K) := (ok_ways FW).mono (by decide)
  refine F.ok scLinks (fun vs H Q E h => ?_) (fun cdv A outer s H vs Q E hr h => ?_)
  · obtain ⟨x, s, rfl, _⟩ := h
    rfl
  · obtain ⟨x, s, rfl, ht, dr, q⟩ := h
    have hu := hu_of hr
    refine ⟨_, pss_cons (ps_set (i := 1) scLinks.nd rfl (.inr rfl) (pe_call GV hr (by rfl) gV FV.kp bV .nil pass0 (pa_cons (pv 0) <| pa_cons (pe_tup pa_nil) <| pa_cons (pe_tup pa_nil) pa_nil))) <|
      pss_one (ps_ret (pe_callB cr_sortedK (by rfl) mO (by decide +kernel) (pa_cons (pe_lc (own := [("_law_link", 2), ("_law_way", 3)]) (g := gTup K 2 _) (tt := tTest (tCB (rAll K) (tCons (tLc (iList K (tOp (rIxT K) (tVar 3) (tC (.int 1)))) (gName 4) tYes (tDIn (tVar 4) (tVar 1)) [4]) tNil))) (te := tVar 2) rfl scLinks.nd (pi_itemsT (pe_lockT (pe_call GW hr (by rfl) gW FW.kp bW .nil pass0 (pa_cons (pv 0) pa_nil)))) (blkOk_by (N := nLinks) (sc := defScope sLinks) (by decide +kernel))
          (fun _ _ _ _ _ => pg_tup (n := 2) rfl (pgs_cons (pg_name (i := 2) scLinks.nd rfl (.inl rfl)) <| pgs_cons (pg_name (i := 3) scLinks.nd rfl (.inl rfl)) pgs_nil)) (fun _ _ _ _ _ => pts_one (pt_val (pe_callB (cr_all rfl) (by rfl) mA (by decide +kernel) (pa_cons (pe_lc (own := [("_law_want", 4)]) (g := gName 4) (tt := tYes) (te := tDIn (tVar 4) (tVar 1)) rfl scLinks.nd (pi_list (pe_ix ix_tup (pv 3) pe_int (fun _ _ => rfl))) (blkOk_by (N := nLinks) (by kernel_rfl))
            (fun _ _ _ _ _ => pg_name (i := 4) scLinks.nd rfl (.inl rfl)) (fun _ _ _ _ _ => pts_nil) (fun _ _ _ _ _ => pe_cmp (pc_din hu (pv 4) (pv 1)) rfl)) pa_nil)))) (fun _ _ _ _ _ => pv 2)) pa_nil))), ?_⟩
    refine seq_of (asg_of (call_of (c_of (v_of rfl (c_of (tup_of (n_of ⟨Nat.zero_le _, fun a1 h1 => ?_⟩)))))))
    refine c_of (tup_of (n_of ⟨Nat.zero_le _, fun a2 h2 => ?_⟩))
    have e2 : Ex H (upd H a1 (.tup [])) := Ex.new h1
    have e3 : Ex (upd H a1 (.tup [])) (upd (upd H a1 (.tup [])) a2 (.tup [])) := Ex.new h2
    refine n_of ⟨x, a1, a2, s, [], [], rfl, ht.ex (e2.trans e3), dr, .inr (st_of (e3 _ _ upd_same)), .inl ⟨rfl, st_of upd_same⟩, fun H4 sn met e4 _ hsn nd iff ml => ?_⟩
    have e14 := (e2.trans e3).trans e4
    have iff2 : ∀ n, n ∈ met ↔ Live (arcsOf s) n := fun n => by
      rw [iff n, leftC_nil]
    clear e2 e3 e4 h1 h2 iff
    have al := dr.ok.arcs
    dsimp only
    refine ret_of (cb_of (c_of (lc_of (itT_of (lockT_of (call_of (c_of (v_of rfl (n_of ⟨x, s, rfl, ht.ex e14, dr, fun H5 wd zs e5 hwd0 hwd hzs hways => ⟨wd, _, rfl, hwd, fun od => ⟨wd, od, _, rfl, upd_same, fun D hD => lc_it walk_itemsT (fun i H' => Ex H4 H' ∧ H' wd = some (.frz od (.dT (tabW zs))) ∧ (∀ a o, a ≠ wd → H5 a = some o → H' a = some o) ∧ ∃ ys, H' D = some (.lst ys) ∧ Paired (KAt H') ys (((arcsOf s).take i).filter fun α => decide (∀ m ∈ α.src, m ∈ met))) ?_ (fun i H' _ h => h.2.1) ?_ ?_⟩⟩⟩)))))))))
    · refine ⟨(Ex.mut e5 hwd0).trans (Ex.new hD), (Ex.new hD) _ _ upd_same, fun a o n h => (Ex.new hD) _ _ ?_, [], upd_same, .nil⟩
      rw [upd_ne n]
      exact h
    · rintro i x' H0 H' hi ⟨e, hw, k5, ys, hD', pr⟩ ⟨T, k, v, q1, hkv, hq1, rfl, hT, rfl⟩
      obtain ⟨z, hz, ez⟩ := map_at hkv
      cases ez
      have zin := List.mem_of_getElem? hz
      obtain ⟨t, l, ev, ht1, hl1⟩ := (hways z zin).at.keep fun a o n h => k5 a o (ne_of h hwd (n _)) h
      have wn : D ≠ wd := (ne_of_none (upd_same (H := H5) (a := wd)) hD).symm
      have hD5 : H5 D = none := by
        rw [upd_ne wn] at hD
        exact hD
      have haj : (arcsOf s)[i]? = some z.2 := by
        rw [← hzs, List.getElem?_map, hz]
        rfl
      have il : i < (arcsOf s).length := (List.getElem?_eq_some_iff.mp haj).1
      have s2 := arcs_src (List.mem_of_getElem? haj)
      have eT : Ex H0 (upd H0 T (.tup [.ref q1, z.1])) := Ex.new hT
      have ht2 := eT _ _ ht1
      have hl2 := eT _ _ hl1
      refine ⟨T, _, rfl, st_of upd_same, rfl, .ref q1, _, rfl, z.1, _, rfl, rfl, rfl, ?_⟩
      rw [ev] at eT ht2 hl2 ⊢
      generalize upd H0 T (.tup [.ref q1, .ref t]) = H1 at eT ht2 hl2 ⊢
      refine test_of (cb_of (c_of (lc_of (iL_of (op_of (v_of rfl (k_of ⟨t, _, 1, _, rfl, rfl, st_of ht2, atI_nat (j := 1) rfl, l, rfl, ⟨_, sq_of hl2⟩, fun D2 hD2 => lc_list (xs := z.2.src.map V.int) (fun j H' => Ex H1 H' ∧ H' D2 = some (.lst (((z.2.src.take j).map fun m => decide (m ∈ met)).map V.bl))) ⟨Ex.new hD2, upd_same⟩ (fun j H' _ p => sq_of (p.1 _ _ hl2)) ?_ ?_⟩)))))))
      · rintro j x' H' hx ⟨e5, h5⟩
        obtain ⟨m, hm', rfl⟩ := at_map hx
        have jl : j < z.2.src.length := (List.getElem?_eq_some_iff.mp hm').1
        refine ⟨rfl, ?_⟩
        dsimp only [tYes]
        rw [if_pos rfl]
        refine ⟨.int m, rfl, .ref sn, rfl, sn, _, rfl, DGet.k (k := Sum.inl m) (((e.trans eT).trans e5) _ _ hsn), _, h5, sz_lt (by rw [List.length_map, List.length_map, List.length_take]; omega), Ex.mut e5 hD2, ?_⟩
        rw [upd_same, take_one hm', val_kTrue, List.map_append, List.map_append]
        rfl
      rintro H6 ⟨e6, h6⟩
      rw [List.length_map, List.take_length] at h6
      refine n_of ⟨D2, _, rfl, sq_of h6, _, rfl, ?_⟩
      rw [all_dec (p := fun m => m ∈ met) fun m => rfl]
      have e06 := eT.trans e6
      have prl := Paired.length pr
      have fl := List.length_filter_le (fun α : Arc => decide (∀ m ∈ α.src, m ∈ met)) ((arcsOf s).take i)
      rw [List.length_take] at fl
      have kp : ∀ {o : HO} {y β}, KAt H0 y β → KAt (upd H6 D o) y β := fun {o y β} ⟨t, e1, h1⟩ => ⟨t, e1, by rw [upd_ne (ne_of h1 hD' (fun z => nomatch z))]; exact e06 _ _ h1⟩
      by_cases lv : ∀ m ∈ z.2.src, m ∈ met
      · rw [decide_eq_true lv, if_pos rfl]
        refine v_of rfl ⟨ys, e06 _ _ hD', sz_lt (by omega), Ex.mut ((e.trans eT).trans e6) (fresh_back (Ex.mut e5 hwd0) hD), ?_, fun a o n h => ?_, ys ++ [.ref q1], upd_same, ?_⟩
        · rw [upd_ne wn.symm]
          exact e06 _ _ hw
        · rw [upd_ne (ne_of_none h hD5)]
          exact e06 _ _ (k5 a o n h)
        · rw [take_one haj, List.filter_append, List.filter_cons_of_pos (by simpa using lv), List.filter_nil]
          exact paired_snoc (kp ⟨q1, rfl, hq1⟩) (L2.Paired.mapP pr fun y β h => kp h)
      · rw [decide_eq_false lv, if_neg Bool.false_ne_true]
        refine ⟨(e.trans eT).trans e6, e06 _ _ hw, fun a o n h => e06 _ _ (k5 a o n h), ys, e06 _ _ hD', ?_⟩
        rw [take_one haj, List.filter_append, List.filter_cons_of_neg (by simpa using lv), List.filter_nil, List.append_nil]
        exact L2.Paired.mapP pr fun y β ⟨t, e1, h1⟩ => ⟨t, e1, e06 _ _ h1⟩
    · rintro H6 ⟨e, hw, k5, ys, hD', pr⟩
      have zl : (tabW zs).length = (arcsOf s).length := by
        rw [List.length_map, ← hzs, List.length_map]
      rw [zl, List.take_length] at pr
      have mb : ∀ β, β ∈ (arcsOf s).filter (fun α => decide (∀ m ∈ α.src, m ∈ met)) ↔ β ∈ arcsOf s ∧ ∀ m ∈ β.src, Live (arcsOf s) m := fun β => by
        rw [List.mem_filter]
        constructor
        · exact fun h => ⟨h.1, fun m hm => (iff2 m).mp (of_decide_eq_true h.2 m hm)⟩
        · exact fun h => ⟨h.1, decide_eq_true fun m hm => (iff2 m).mpr (h.2 m hm)⟩
      have uniq : ∀ x β β', KAt H6 x β → KAt H6 x β' → β ∈ (arcsOf s).filter (fun α => decide (∀ m ∈ α.src, m ∈ met)) → β' ∈ (arcsOf s).filter (fun α => decide (∀ m ∈ α.src, m ∈ met)) → β = β' := by
        rintro x β β' ⟨t, rfl, h1⟩ ⟨t', e', h2⟩ m1 m2
        cases e'
        rw [h1] at h2
        have el : β.link = β'.link := by
          have := keysOf_at h1
          rw [← this, keysOf_at (h1.trans h2)]
        obtain ⟨j, hj⟩ := List.mem_iff_getElem?.mp (List.mem_filter.mp m1).1
        obtain ⟨j', hj'⟩ := List.mem_iff_getElem?.mp (List.mem_filter.mp m2).1
        have a1 : ((arcsOf s).map Arc.link)[j]? = some β.link := by
          rw [List.getElem?_map, hj]
          rfl
        have a2 : ((arcsOf s).map Arc.link)[j']? = some β.link := by
          rw [List.getElem?_map, hj', el]
          rfl
        have := (List.getElem?_inj (by rw [List.length_map]; exact (List.getElem?_eq_some_iff.mp hj).1) dr.links).mp (a1.trans a2.symm)
        rw [this, hj'] at hj
        exact (Option.some.inj hj).symm
      obtain ⟨g, hg1, hg2⟩ := map_of_paired pr uniq
      have prl := Paired.length pr
      have fl := List.length_filter_le (fun α : Arc => decide (∀ m ∈ α.src, m ∈ met)) (arcsOf s)
      have gin : ∀ y ∈ ys, g y ∈ arcsOf s := fun y hy => by
        have : g y ∈ ys.map g := List.mem_map_of_mem hy
        rw [hg1] at this
        exact (List.mem_filter.mp this).1
      have gk : ∀ y ∈ ys, keysOf H6 y = (g y).link := fun y hy => by
        obtain ⟨t, e1, h1⟩ := hg2 y hy
        rw [e1] at h1 ⊢
        exact keysOf_at h1
      refine n_of ⟨D, ys, keysOf H6, rfl, sq_of hD', fun y hy => ?_, fun y hy y' hy' => ?_, fun zs' p srt stb hp => ?_⟩
      · obtain ⟨t, e1, h1⟩ := hg2 y hy
        obtain ⟨z, r, ew⟩ := formed_word (formed_arc (gin y hy))
        refine ⟨t, z, r, e1, by rw [gk y hy, ew], ?_⟩
        rw [gk y hy]
        exact h1
      · rw [gk y hy, gk y' hy']
        exact formed_ali (formed_arc (gin y hy)) (formed_arc (gin y' hy'))
      · have pm : zs'.Perm ys := stb.perm
        have e9 : Ex H6 (upd H6 p (.lst zs')) := Ex.new hp
        have ka : ∀ y ∈ zs', KAt (upd H6 p (.lst zs')) y (g y) := fun y hy => by
          obtain ⟨t, e1, h1⟩ := hg2 y (pm.mem_iff.mp hy)
          exact ⟨t, e1, e9 _ _ h1⟩
        have pg : (zs'.map g).Perm ((arcsOf s).filter fun α => decide (∀ m ∈ α.src, m ∈ met)) := by
          rw [← hg1]
          exact pm.map g
        exact q _ p zs' (zs'.map g) ((e14.trans e).trans e9) upd_same (keys_td ka) (lnks_map ka) (fun β => by rw [pg.mem_iff, mb]) (by rw [pg.length_eq]; omega)
end
end Sn
/-! What any value shows, beside what a link or a number shows -/
namespace Sn
open PySem PySem.Spec PyProof.Rows L2 Evl Gd PySem.Builtin.Str PySem.Builtin PySem.StrLaws
def esc (q : Nat) (l : List Nat) : List Nat := l.flatMap (reprChar q)
theorem fold_esc (q : Nat) : ∀ (l : List Nat) (acc : Array Nat), (l.foldl (fun out c => out ++ (reprChar q c).toArray) acc).toList = acc.toList ++ esc q l
  | [], acc => by simp [esc]
  | c :: r, acc => by
    rw [List.foldl_cons, fold_esc q r]
    simp [esc]
theorem shown_str_cs (v : Str) : cs (PyData.str v).shown = reprQuote v :: (esc (reprQuote v) (cs v) ++ [reprQuote v]) := by
  rw [PyData.shown_str]
  show ((v.cps.foldl (fun out c => out ++ (reprChar (reprQuote v) c).toArray) #[reprQuote v]).push (reprQuote v)).toList = _
  rw [Array.toList_push, ← Array.foldl_toList, fold_esc]
  rfl
theorem quote_is (v : Str) : reprQuote v = 39 ∨ reprQuote v = 34 := by
  unfold reprQuote
  split
  · exact .inr rfl
  · exact .inl rfl
theorem char_is (c : Nat) : (∃ a t, reprChar 39 c = 92 :: a :: t) ∨ (reprChar 39 c = [c] ∧ c ≠ 39 ∧ c ≠ 92) := by
  have hl : ∀ w d : List Nat, True := fun _ _ => trivial
  unfold reprChar
  by_cases h : (c == 39 || c == 92) = true
  · rw [if_pos h]
    exact .inl ⟨_, _, rfl⟩
  · have hn : c ≠ 39 ∧ c ≠ 92 := by
      simpa using h
    rw [if_neg h]
    by_cases h1 : (c == 10) = true
    · rw [if_pos h1]; exact .inl ⟨_, _, rfl⟩
    rw [if_neg h1]
    by_cases h2 : (c == 13) = true
    · rw [if_pos h2]; exact .inl ⟨_, _, rfl⟩
    rw [if_neg h2]
    by_cases h3 : (c == 9) = true
    · rw [if_pos h3]; exact .inl ⟨_, _, rfl⟩
    rw [if_neg h3]
    by_cases h4 : Unicode.isPrintable c = true
    · rw [if_pos h4]; exact .inr ⟨rfl, hn⟩
    rw [if_neg h4]
    by_cases h5 : c < 256
    · rw [if_pos h5]; exact .inl ⟨_, _, rfl⟩
    rw [if_neg h5]
    by_cases h6 : c < 65536
    · rw [if_pos h6]; exact .inl ⟨_, _, rfl⟩
    rw [if_neg h6]; exact .inl ⟨_, _, rfl⟩
theorem esc_len : ∀ l : List Nat, l.length ≤ (esc 39 l).length
  | [] => Nat.zero_le _
  | c :: r => by
    have ih := esc_len r
    show (c :: r).length ≤ (reprChar 39 c ++ esc 39 r).length
    rw [List.length_append, List.length_cons]
    rcases char_is c with ⟨a, t, e⟩ | ⟨e, _⟩ <;> rw [e] <;> simp only [List.length_cons, List.length_nil] <;> omega
theorem esc_self : ∀ {l : List Nat}, esc 39 l = l → 39 ∉ l ∧ 92 ∉ l
  | [], _ => ⟨List.not_mem_nil, List.not_mem_nil⟩
  | c :: r, h => by
    have h : reprChar 39 c ++ esc 39 r = c :: r := h
    rcases char_is c with ⟨a, t, e⟩ | ⟨e, n1, n2⟩
    · have := congrArg List.length h
      rw [e, List.length_append, List.length_cons, List.length_cons, List.length_cons] at this
      have := esc_len r
      omega
    · rw [e] at h
      obtain ⟨i1, i2⟩ := esc_self (List.cons.inj h).2
      exact ⟨fun z => (List.mem_cons.mp z).elim (fun z => n1 z.symm) i1, fun z => (List.mem_cons.mp z).elim (fun z => n2 z.symm) i2⟩
/-- a text that is shown between single quotes as it stands -/
structure Plainly (z : Str) : Prop where
  q : 39 ∉ cs z
  b : 92 ∉ cs z
  e : cs (PyData.str z).shown = 39 :: (cs z ++ [39])
theorem NameOk.plainly {z : Str} (h : NameOk z) : Plainly z := by
  have e : cs (PyData.str z).shown = 39 :: (cs z ++ [39]) := h.2.1
  have e2 := (shown_str_cs z).symm.trans e
  have q : reprQuote z = 39 := (List.cons.inj e2).1
  rw [q] at e2
  obtain ⟨a, b⟩ := esc_self (List.append_cancel_right (List.cons.inj e2).2)
  exact ⟨a, b, e⟩
theorem word_plainly : ∀ z ∈ (["root", "slot", "entry"] : List Str), Plainly z := by
  have all : ∀ z ∈ (["root", "slot", "entry"] : List Str), 39 ∉ cs z ∧ 92 ∉ cs z ∧ cs (PyData.str z).shown = 39 :: (cs z ++ [39]) := by decide +kernel
  intro z h
  obtain ⟨a, b, c⟩ := all z h
  exact ⟨a, b, c⟩
theorem esc_pref : ∀ {l w r r' : List Nat}, esc 39 l ++ 39 :: r = w ++ 39 :: r' → 39 ∉ w → 92 ∉ w → l = w ∧ r = r'
  | [], [], _, _, h, _, _ => ⟨rfl, (List.cons.inj h).2⟩
  | [], x :: w, _, _, h, n, _ => absurd (by rw [← (List.cons.inj h).1]; exact List.mem_cons_self) n
  | c :: l, w, r, r', h, n, m => by
    have h : (reprChar 39 c ++ esc 39 l) ++ 39 :: r = w ++ 39 :: r' := h
    rcases char_is c with ⟨a, t, e⟩ | ⟨e, n1, n2⟩
    · rw [e] at h
      cases w with
      | nil => exact absurd (List.cons.inj h).1 (by decide)
      | cons x w => exact absurd (by rw [← (List.cons.inj h).1]; exact List.mem_cons_self) m
    · rw [e] at h
      cases w with
      | nil => exact absurd (List.cons.inj h).1 n1
      | cons x w =>
        obtain ⟨e1, e2⟩ := List.cons.inj h
        obtain ⟨e3, e4⟩ := esc_pref (l := l) (w := w) e2 (fun z => n (List.mem_cons_of_mem _ z)) (fun z => m (List.mem_cons_of_mem _ z))
        exact ⟨by rw [e1, e3], e4⟩
/-- where what a value shows begins -/
def headOf : PyData → List Nat
  | .none => [78]
  | .bool _ => [84, 70]
  | .int _ => [45, 48, 49, 50, 51, 52, 53, 54, 55, 56, 57]
  | .str _ => [39, 34]
  | .list _ => [91]
  | .tuple _ => [40]
  | .dict _ => [123]
theorem dig_head {i : Int} {c : Nat} {r : List Nat} (h : dig i = c :: r) : c ∈ headOf (.int i) := by
  have m : c ∈ (PyData.int i).shown.cps.toList := by
    have : cs (PyData.int i).shown = c :: r := (shown_int' i).trans h
    show c ∈ cs (PyData.int i).shown
    rw [this]
    exact List.mem_cons_self
  by_cases z : c ≠ 45 ∧ (c < 48 ∨ 57 < c)
  · exact absurd m (shown_int_free' z i)
  · have : c = 45 ∨ (48 ≤ c ∧ c ≤ 57) := by omega
    simp only [headOf, List.mem_cons, List.not_mem_nil, or_false]
    omega
theorem dig_nat (n : Nat) : dig (n : Int) = TL.numL n := TL.tl_num n
theorem dig_neg {i : Int} (h : i < 0) : ∃ r, dig i = 45 :: r := by
  have e : dig i = ((toString i : String)).toList.map Char.toNat := signs_ofString _
  rw [Int.toString_eq_repr, Int.repr_eq_if, if_neg (by omega), String.toList_append, List.map_append] at e
  exact ⟨_, e⟩
theorem dig_ne (i : Int) : dig i ≠ [] := by
  by_cases h : i < 0
  · obtain ⟨r, e⟩ := dig_neg h
    rw [e]
    exact fun z => nomatch z
  · have : i = (i.toNat : Int) := by omega
    rw [this, dig_nat]
    exact TL.numL_ne _
theorem undec_numL (n : Nat) : undec (TL.numL n) = n := by
  induction n using Nat.strongRecOn with
  | _ n ih =>
    by_cases h : n < 10
    · rw [TL.numL_lt h]
      show 10 * 0 + (48 + n - 48) = n
      omega
    · rw [TL.numL_step (by omega)]
      have := ih (n / 10) (by omega)
      unfold undec at this ⊢
      rw [List.foldl_append, this]
      show 10 * (n / 10) + (48 + n % 10 - 48) = n
      omega
theorem dig_any {i j : Int} (h : 0 ≤ j) (e : dig i = dig j) : i = j := by
  have hj : j = (j.toNat : Int) := by omega
  by_cases h' : i < 0
  · obtain ⟨r, z⟩ := dig_neg h'
    rw [hj, dig_nat] at e
    have m : 45 ∈ TL.numL j.toNat := by
      rw [← e, z]
      exact List.mem_cons_self
    exact absurd m (TL.numL_free (by decide))
  · have hi : i = (i.toNat : Int) := by omega
    rw [hi, hj, dig_nat, dig_nat] at e
    have := congrArg undec e
    rw [undec_numL, undec_numL] at this
    omega
theorem join_cons_pref (t : Str) : ∀ ts : List Str, ∃ r, cs (Str.join ", " (t :: ts)) = cs t ++ r ∧ (ts = [] → r = [])
  | [] => ⟨[], by rw [List.append_nil]; rfl, fun _ => rfl⟩
  | u :: us => ⟨cs (", " ++ Str.join ", " (u :: us)), by
      show cs (t ++ ", " ++ Str.join ", " (u :: us)) = _
      rw [cs_app, cs_app, cs_app, List.append_assoc], fun z => nomatch z⟩
theorem shown_head (d : PyData) : ∃ c r, cs d.shown = c :: r ∧ c ∈ headOf d := by
  cases d with
  | none => exact ⟨78, _, rfl, List.mem_cons_self⟩
  | bool b => cases b <;> exact ⟨_, _, rfl, by decide⟩
  | int i =>
    rw [shown_int']
    cases h : dig i with
    | nil => exact absurd h (dig_ne i)
    | cons c r => exact ⟨c, r, rfl, dig_head h⟩
  | str x => exact ⟨_, _, shown_str_cs x, by
      show reprQuote x ∈ [39, 34]
      rcases quote_is x with h | h <;> rw [h] <;> decide⟩
  | list xs =>
    have e : ∀ y z : Str, cs (("[" : Str) ++ y ++ z) = 91 :: (cs y ++ cs z) := fun y z => by
      rw [cs_app, cs_app, show cs ("[" : Str) = [91] from by decide +kernel]
      rfl
    exact ⟨91, _, by rw [PyData.shown_list]; exact e _ _, List.mem_cons_self⟩
  | tuple xs =>
    have e : ∀ y z : Str, cs (("(" : Str) ++ y ++ z) = 40 :: (cs y ++ cs z) := fun y z => by
      rw [cs_app, cs_app, show cs ("(" : Str) = [40] from by decide +kernel]
      rfl
    exact ⟨40, _, by rw [PyData.shown_tuple]; exact e _ _, List.mem_cons_self⟩
  | dict kvs =>
    have e : ∀ y z : Str, cs (("{" : Str) ++ y ++ z) = 123 :: (cs y ++ cs z) := fun y z => by
      rw [cs_app, cs_app, show cs ("{" : Str) = [123] from by decide +kernel]
      rfl
    exact ⟨123, _, by rw [PyData.shown_dict]; exact e _ _, List.mem_cons_self⟩
/-- what may stand behind an item -/
def Behind (r : List Nat) : Prop := r = [] ∨ ∃ c t, r = c :: t ∧ (c = 44 ∨ c = 41)
theorem free_pref : ∀ {a b r r' : List Nat}, a ++ r = b ++ r' → (44 ∉ a ∧ 41 ∉ a) → (44 ∉ b ∧ 41 ∉ b) → Behind r → Behind r' → a = b ∧ r = r'
  | [], [], _, _, h, _, _, _, _ => ⟨rfl, h⟩
  | [], y :: b, r, r', h, _, fb, hr, _ => by
    rcases hr with rfl | ⟨c, t, rfl, hc⟩
    · cases h
    · have e := (List.cons.inj h).1
      rcases hc with rfl | rfl
      · exact absurd (by rw [e]; exact List.mem_cons_self) fb.1
      · exact absurd (by rw [e]; exact List.mem_cons_self) fb.2
  | x :: a, [], r, r', h, fa, _, _, hr => by
    rcases hr with rfl | ⟨c, t, rfl, hc⟩
    · cases h
    · have e := (List.cons.inj h).1
      rcases hc with rfl | rfl
      · exact absurd (by rw [← e]; exact List.mem_cons_self) fa.1
      · exact absurd (by rw [← e]; exact List.mem_cons_self) fa.2
  | x :: a, y :: b, r, r', h, fa, fb, hr, hr' => by
    obtain ⟨e1, e2⟩ := List.cons.inj h
    obtain ⟨e3, e4⟩ := free_pref (a := a) (b := b) e2 ⟨fun m => fa.1 (List.mem_cons_of_mem _ m), fun m => fa.2 (List.mem_cons_of_mem _ m)⟩ ⟨fun m => fb.1 (List.mem_cons_of_mem _ m), fun m => fb.2 (List.mem_cons_of_mem _ m)⟩ hr hr'
    exact ⟨by rw [e1, e3], e4⟩
theorem dig_free (i : Int) : 44 ∉ dig i ∧ 41 ∉ dig i := by
  have := shown_int' i
  exact ⟨by rw [← this]; exact shown_int_free' (by decide) i, by rw [← this]; exact shown_int_free' (by decide) i⟩
/-- what shows as a number that is not below 0 is that number -/
theorem as_int {d : PyData} {j : Int} {r r' : List Nat} (h : cs d.shown ++ r = dig j ++ r') (hj : 0 ≤ j) (hr : Behind r) (hr' : Behind r') : d = .int j ∧ r = r' := by
  obtain ⟨c, t, e, m⟩ := shown_head d
  obtain ⟨c', t', e', m'⟩ := shown_head (.int j)
  rw [shown_int'] at e'
  have hc : c = c' := by
    rw [e, e'] at h
    exact (List.cons.inj h).1
  rw [← hc] at m'
  cases d with
  | int i =>
    rw [shown_int'] at h
    obtain ⟨e1, e2⟩ := free_pref h (dig_free i) (dig_free j) hr hr'
    exact ⟨by rw [dig_any hj e1], e2⟩
  | none => exact absurd m' (by simp only [headOf, List.mem_cons, List.not_mem_nil, or_false] at m m' ⊢; omega)
  | bool b => exact absurd m' (by simp only [headOf, List.mem_cons, List.not_mem_nil, or_false] at m m' ⊢; omega)
  | str b => exact absurd m' (by simp only [headOf, List.mem_cons, List.not_mem_nil, or_false] at m m' ⊢; omega)
  | list b => exact absurd m' (by simp only [headOf, List.mem_cons, List.not_mem_nil, or_false] at m m' ⊢; omega)
  | tuple b => exact absurd m' (by simp only [headOf, List.mem_cons, List.not_mem_nil, or_false] at m m' ⊢; omega)
  | dict b => exact absurd m' (by simp only [headOf, List.mem_cons, List.not_mem_nil, or_false] at m m' ⊢; omega)
/-- what shows as a plain text is that text -/
theorem as_str {d : PyData} {w : Str} {r r' : List Nat} (p : Plainly w) (h : cs d.shown ++ r = cs (PyData.str w).shown ++ r') : d = .str w ∧ r = r' := by
  obtain ⟨c, t, e, m⟩ := shown_head d
  have h0 := h
  rw [e, p.e] at h
  have hc : c = 39 := (List.cons.inj h).1
  rw [hc] at m
  cases d with
  | str x =>
    rw [shown_str_cs, p.e] at h0
    have q : reprQuote x = 39 := (List.cons.inj h0).1
    rw [q] at h0
    have h1 : (esc 39 (cs x) ++ [39]) ++ r = (cs w ++ [39]) ++ r' := (List.cons.inj h0).2
    rw [List.append_assoc, List.append_assoc] at h1
    obtain ⟨e1, e2⟩ := esc_pref h1 p.q p.b
    exact ⟨by rw [cs_inj e1], e2⟩
  | none => exact absurd m (by simp only [headOf, List.mem_cons, List.not_mem_nil, or_false]; omega)
  | bool b => exact absurd m (by simp only [headOf, List.mem_cons, List.not_mem_nil, or_false]; omega)
  | int b => exact absurd m (by simp only [headOf, List.mem_cons, List.not_mem_nil, or_false]; omega)
  | list b => exact absurd m (by simp only [headOf, List.mem_cons, List.not_mem_nil, or_false]; omega)
  | tuple b => exact absurd m (by simp only [headOf, List.mem_cons, List.not_mem_nil, or_false]; omega)
  | dict b => exact absurd m (by simp only [headOf, List.mem_cons, List.not_mem_nil, or_false]; omega)
theorem behind_comma (l : List Nat) : Behind (44 :: l) := .inr ⟨44, l, rfl, .inl rfl⟩
theorem behind_close (l : List Nat) : Behind (41 :: l) := .inr ⟨41, l, rfl, .inr rfl⟩
/-- what a tuple shows, one item taken off -/
theorem tup_nil : cs (PyData.tuple []).shown = [40, 41] := by decide +kernel
theorem tup_one (a : PyData) : cs (PyData.tuple [a]).shown = 40 :: (cs a.shown ++ [44, 41]) := by
  rw [PyData.shown_tuple, PyData.shownAll_cons, PyData.shownAll_nil]
  show cs (("(" : Str) ++ a.shown ++ (if ([a].length == 1) = true then (",)" : String) else ")")) = _
  rw [cs_app, cs_app, show cs (Str.ofString (if ([a].length == 1) = true then (",)" : String) else ")")) = [44, 41] from by
    show cs (Str.ofString ",)") = _
    decide +kernel]
  show [40] ++ cs a.shown ++ [44, 41] = _
  simp
theorem tup_more (a b : PyData) (r : List PyData) : ∃ t, cs (PyData.tuple (a :: b :: r)).shown = 40 :: (cs a.shown ++ (44 :: 32 :: (cs b.shown ++ t))) ∧ (r = [] → t = [41]) ∧ (∀ c r', r = c :: r' → ∃ t', t = 44 :: 32 :: (cs c.shown ++ t') ∧ (r' = [] → t' = [41]) ∧ (r' ≠ [] → ∃ t2, t' = 44 :: t2)) := by
  have tail : ∀ (x : Str) (l : List Str), ∃ u, cs (Str.join ", " (x :: l)) = cs x ++ u ∧ (l = [] → u = []) ∧ (∀ y l', l = y :: l' → u = 44 :: 32 :: cs (Str.join ", " (y :: l'))) := fun x l => by
    cases l with
    | nil => exact ⟨[], by rw [List.append_nil]; rfl, fun _ => rfl, fun _ _ h => nomatch h⟩
    | cons y l' =>
      refine ⟨44 :: 32 :: cs (Str.join ", " (y :: l')), ?_, (fun h => nomatch h), (fun y' l'' h => by cases h; rfl)⟩
      show cs (x ++ ", " ++ Str.join ", " (y :: l')) = _
      rw [cs_app, cs_app, List.append_assoc]
      rfl
  rw [PyData.shown_tuple, PyData.shownAll_cons, PyData.shownAll_cons]
  have len : ((a :: b :: r).length == 1) = false := by simp
  rw [len]
  obtain ⟨u, e1, _, e2⟩ := tail a.shown (b.shown :: PyData.shownAll r)
  have e2 := e2 _ _ rfl
  obtain ⟨v, f1, f0, f2⟩ := tail b.shown (PyData.shownAll r)
  rw [cs_app, cs_app, e1, e2, f1]
  refine ⟨v ++ [41], ?_, fun h => ?_, fun c r' h => ?_⟩
  · show [40] ++ (cs a.shown ++ (44 :: 32 :: (cs b.shown ++ v))) ++ [41] = _
    simp
  · rw [f0 (by rw [h]; exact PyData.shownAll_nil)]
    rfl
  · rw [h, PyData.shownAll_cons] at f2
    have f2 := f2 _ _ rfl
    obtain ⟨w', g1, g0, g2⟩ := tail c.shown (PyData.shownAll r')
    rw [f2, g1]
    refine ⟨w' ++ [41], by simp, fun h => ?_, fun h => ?_⟩
    · rw [g0 (by rw [h]; exact PyData.shownAll_nil)]
      rfl
    · cases r' with
      | nil => exact absurd rfl h
      | cons y l' =>
        rw [PyData.shownAll_cons] at g2
        exact ⟨_, by rw [g2 _ _ rfl]; rfl⟩
/-- what shows as a link is that link -/
theorem as_link {d : PyData} {ks : List Key} (g : DLink ks) (e : d.shown = (PyData.tuple (ks.map kD)).shown) : d = .tuple (ks.map kD) := by
  have e := congrArg cs e
  obtain ⟨c, r0, h0, m0⟩ := shown_head d
  have notTup : ∀ r1 : List Nat, cs (PyData.tuple (ks.map kD)).shown = 40 :: r1 → ∃ ds, d = .tuple ds := fun r1 h1 => by
    have hc : c = 40 := by
      rw [h0, h1] at e
      exact (List.cons.inj e).1
    rw [hc] at m0
    cases d with
    | tuple ds => exact ⟨ds, rfl⟩
    | none => exact absurd m0 (by simp only [headOf, List.mem_cons, List.not_mem_nil, or_false]; omega)
    | bool b => exact absurd m0 (by simp only [headOf, List.mem_cons, List.not_mem_nil, or_false]; omega)
    | int b => exact absurd m0 (by simp only [headOf, List.mem_cons, List.not_mem_nil, or_false]; omega)
    | str b => exact absurd m0 (by simp only [headOf, List.mem_cons, List.not_mem_nil, or_false]; omega)
    | list b => exact absurd m0 (by simp only [headOf, List.mem_cons, List.not_mem_nil, or_false]; omega)
    | dict b => exact absurd m0 (by simp only [headOf, List.mem_cons, List.not_mem_nil, or_false]; omega)
  -- the first item, then the rest
  have first : ∀ (w : Str) (k2 : PyData) (t2 : List Nat), w ∈ (["root", "slot", "entry"] : List Str) → cs (PyData.tuple (ks.map kD)).shown = 40 :: (cs (PyData.str w).shown ++ (44 :: 32 :: (cs k2.shown ++ t2))) → ∃ b r t, d = .tuple (.str w :: b :: r) ∧ cs b.shown ++ t = cs k2.shown ++ t2 ∧ (r = [] → t = [41]) ∧ (∀ c r', r = c :: r' → ∃ t', t = 44 :: 32 :: (cs c.shown ++ t') ∧ (r' = [] → t' = [41]) ∧ (r' ≠ [] → ∃ t2, t' = 44 :: t2)) := fun w k2 t2 hw h1 => by
    obtain ⟨ds, rfl⟩ := notTup _ h1
    rw [h1] at e
    have p := word_plainly w hw
    match ds, e with
    | [], e =>
      rw [tup_nil, p.e] at e
      exact absurd (List.cons.inj (List.cons.inj e).2).1 (by decide)
    | [a], e =>
      rw [tup_one] at e
      obtain ⟨_, e2⟩ := as_str p (List.cons.inj e).2
      exact absurd (List.cons.inj (List.cons.inj e2).2).1 (by decide)
    | a :: b :: r, e =>
      obtain ⟨t, e1, q1, q2⟩ := tup_more a b r
      rw [e1] at e
      obtain ⟨rfl, e2⟩ := as_str p (List.cons.inj e).2
      exact ⟨b, r, t, rfl, (List.cons.inj (List.cons.inj e2).2).2, q1, q2⟩
  have tb : ∀ {r : List PyData} {t : List Nat}, (r = [] → t = [41]) → (∀ c r', r = c :: r' → ∃ t', t = 44 :: 32 :: (cs c.shown ++ t') ∧ (r' = [] → t' = [41]) ∧ (r' ≠ [] → ∃ t2, t' = 44 :: t2)) → Behind t := fun {r t} h1 h2 => by
    cases r with
    | nil => rw [h1 rfl]; exact behind_close _
    | cons c r' =>
      obtain ⟨t', z, _⟩ := h2 c r' rfl
      rw [z]
      exact behind_comma _
  have three : ∀ (w : Str) (n k : Int), w ∈ (["root", "slot", "entry"] : List Str) → ks.map kD = [.str w, .int n, .int k] → 0 ≤ n → 0 ≤ k → d = .tuple (ks.map kD) := fun w n k hw hk hn hk0 => by
    obtain ⟨b, r, t, rfl, e1, q1, q2⟩ := first w (.int n) (44 :: 32 :: (cs (PyData.int k).shown ++ [41])) hw (by rw [hk]; exact shown_three _ _ _)
    rw [shown_int'] at e1
    obtain ⟨rfl, e2⟩ := as_int e1 hn (tb q1 q2) (behind_comma _)
    cases r with
    | nil =>
      rw [q1 rfl] at e2
      exact absurd (List.cons.inj e2).1 (by decide)
    | cons c r' =>
      obtain ⟨t', z, z1, z2⟩ := q2 c r' rfl
      rw [z] at e2
      have e3 := (List.cons.inj (List.cons.inj e2).2).2
      rw [shown_int'] at e3
      have bt : Behind t' := by
        by_cases hr : r' = []
        · rw [z1 hr]; exact behind_close _
        · obtain ⟨t2, z3⟩ := z2 hr
          rw [z3]; exact behind_comma _
      obtain ⟨rfl, e4⟩ := as_int e3 hk0 bt (behind_close _)
      by_cases hr : r' = []
      · rw [hr, hk]
      · obtain ⟨t2, z3⟩ := z2 hr
        rw [z3] at e4
        exact absurd (List.cons.inj e4).1 (by decide)
  rcases g with ⟨z, rfl, hz⟩ | ⟨n, k, rfl, h1, h2⟩ | ⟨n, k, rfl, h1, h2⟩
  · obtain ⟨b, r, t, rfl, e1, q1, q2⟩ := first "root" (.str z) [41] (by decide +kernel) (shown_two _ _)
    obtain ⟨rfl, e2⟩ := as_str hz.plainly e1
    cases r with
    | nil => rfl
    | cons c r' =>
      obtain ⟨t', z', _⟩ := q2 c r' rfl
      rw [z'] at e2
      exact absurd (List.cons.inj e2).1 (by decide)
  · exact three "slot" n k (by decide +kernel) rfl h1.1 h2.1
  · exact three "entry" n k (by decide +kernel) rfl h1.1 h2.1
/-- repr(x) == repr(a number) -/
theorem as_num {d : PyData} {j : Int} (hj : 0 ≤ j) (e : d.shown = (PyData.int j).shown) : d = .int j := by
  have e := congrArg cs e
  rw [shown_int'] at e
  exact (as_int (r := []) (r' := []) (by rw [List.append_nil, List.append_nil]; exact e) hj (.inl rfl) (.inl rfl)).1
end Sn
/-! t[1::2], t a tuple -/
namespace L2
open PySem PySem.Spec PyProof.Rows
/-- every other item, from the second -/
def odds {α : Type} (xs : List α) : List α := (List.range (Builtin.Slice.slicePlaces (Builtin.Slice.sliceAdjust (some 1) none 2 (xs.length : Int)).1 (Builtin.Slice.sliceAdjust (some 1) none 2 (xs.length : Int)).2 2)).filterMap fun (k : Nat) => xs[((Builtin.Slice.sliceAdjust (some 1) none 2 (xs.length : Int)).1 + (k : Int) * 2).toNat]?
theorem vals_pick (f : Nat → Nat) {xs : List V} {its : List Value} (r : Vals xs its) : ∀ ks : List Nat, Vals (ks.filterMap fun k => xs[f k]?) (ks.filterMap fun k => its[f k]?)
  | [] => .nil
  | k :: ks => by
    have ih := vals_pick f r ks
    have ln := r.length
    cases e : xs[f k]? with
    | none =>
      have e2 : its[f k]? = none := by
        rw [List.getElem?_eq_none_iff] at e ⊢
        omega
      rw [List.filterMap_cons_none (f := fun k => xs[f k]?) e, List.filterMap_cons_none (f := fun k => its[f k]?) e2]
      exact ih
    | some x =>
      obtain ⟨u, hu, ru⟩ := r.get e
      rw [List.filterMap_cons_some (f := fun k => xs[f k]?) e, List.filterMap_cons_some (f := fun k => its[f k]?) hu]
      exact .cons ru ih
theorem vals_odds {xs : List V} {its : List Value} (r : Vals xs its) : Vals (odds xs) (odds its) := by
  unfold odds
  rw [← r.length]
  exact vals_pick _ r _
theorem odds_le {α : Type} (xs : List α) : (odds xs).length ≤ xs.length + 1 := by
  unfold odds
  refine Nat.le_trans (List.length_filterMap_le _ _) ?_
  rw [List.length_range]
  unfold Builtin.Slice.slicePlaces Builtin.Slice.sliceAdjust
  simp only [show ¬ (2 : Int) < 0 from by decide, show (2 : Int) > 0 from by decide, if_true, if_false, show ¬ (1 : Int) < 0 from by decide]
  split <;> omega
section
variable {prog : Program} {w : World} {A : Around} {E : Value → Shared → Prop} {s : Shared}
theorem getItem_odds {t sl : Addr} {items : Array Value} {tu ts : Tok} {Q : Value → Shared → Prop} (ht : IsTup s.heap t items) (hs : s.heap.IsSliceOf sl (.int 1 tu) .none (.int 2 ts))
    (h : Q (.ref s.heap.objs.size) { s with heap := s.heap.push { cls := .type "tuple", data := .seq (odds items.toList).toArray } })
    (hsz : items.size < sizeLine) : wpAny (model prog w) A (getItem (.ref t) (.ref sl)) Q E s := by
  have htake : sizeOk (.seq (odds items.toList).toArray) := by
    show (odds items.toList).toArray.size ≤ sizeLine
    have := odds_le items.toList
    have l2 : items.toList.length = items.size := Array.length_toList
    have l3 : (odds items.toList).toArray.size = (odds items.toList).length := List.size_toArray
    omega
  obtain ⟨os, hos, hcs, hds⟩ := id hs
  have hTs : s.TypeIs (.ref sl) "slice" := ⟨os, hos, hcs⟩
  unfold getItem
  try with_reducible refine wpAny_holding ?_
  first | refine wpAny_bind (wpAny_pure ?_) | skip
  refine wpAny_bind (wpAny_sequenceKey ht.typeIs (by decide) ?_)
  refine wpAny_bind (wpAny_callSpecial?_slot (name := Str.ofString "__getitem__") ht.typeIs PyProof.Rows.slot_tuple_getitem (wpAny_call_entry PyProof.Rows.slot_tuple_getitem ht.typeIs entry_tuple_getitem ?_ (args_tuple_getitem _ _)))
  show wpAny _ _ (Builtin.Tuple.tupleItemsOf (.ref t) >>= fun _ => _) _ _ s
  refine wpAny_bind (tupleItemsOf_ ht ?_)
  refine wpAny_bind (wpAny_typeOf hTs ?_)
  rw [if_pos (by decide)]
  have app : ∀ {Q2 : Int × Int × Nat → Shared → Prop} {E2 : Value → Shared → Prop} {A2 : Around}, Q2 ((Builtin.Slice.sliceAdjust (some 1) none 2 (items.size : Int)).1, 2, Builtin.Slice.slicePlaces (Builtin.Slice.sliceAdjust (some 1) none 2 (items.size : Int)).1 (Builtin.Slice.sliceAdjust (some 1) none 2 (items.size : Int)).2 2) s →
      wpAny (model prog w) A2 (Builtin.Slice.sliceApplied (.ref sl) (pure (items.size : Int))) Q2 E2 s := fun {Q2 E2 A2} q => by
    unfold Builtin.Slice.sliceApplied Builtin.Slice.sliceFields
    refine wpAny_bind (wpAny_bind (wpAny_field hos hds (x := .int 1 tu) rfl (wpAny_bind (wpAny_field hos hds (x := .none) rfl (wpAny_bind (wpAny_field hos hds (x := .int 2 ts) rfl (wpAny_pure ?_)))))))
    refine wpAny_bind (slicePart_int ?_)
    show wpAny _ _ (if ((2 : Int) == 0) = true then _ else _) _ _ s
    rw [if_neg (by decide)]
    refine wpAny_bind (slicePart_int (wpAny_bind (slicePart_none (wpAny_bind (wpAny_pure ?_)))))
    exact wpAny_pure q
  refine wpAny_bind (app ?_)
  have hno : ¬ (((Builtin.Slice.sliceAdjust (some 1) none 2 (items.size : Int)).1 == 0 && (2 : Int) == 1 && Builtin.Slice.slicePlaces (Builtin.Slice.sliceAdjust (some 1) none 2 (items.size : Int)).1 (Builtin.Slice.sliceAdjust (some 1) none 2 (items.size : Int)).2 2 == items.size) = true) := by
    rw [show ((2 : Int) == 1) = false from by decide, Bool.and_false, Bool.false_and]
    exact Bool.false_ne_true
  show wpAny _ _ (if ((Builtin.Slice.sliceAdjust (some 1) none 2 (items.size : Int)).1 == 0 && (2 : Int) == 1 && Builtin.Slice.slicePlaces (Builtin.Slice.sliceAdjust (some 1) none 2 (items.size : Int)).1 (Builtin.Slice.sliceAdjust (some 1) none 2 (items.size : Int)).2 2 == items.size) = true then _ else _) _ _ s
  rw [if_neg hno]
  have e : ((List.range (Builtin.Slice.slicePlaces (Builtin.Slice.sliceAdjust (some 1) none 2 (items.size : Int)).1 (Builtin.Slice.sliceAdjust (some 1) none 2 (items.size : Int)).2 2)).filterMap fun (m : Nat) => items[((Builtin.Slice.sliceAdjust (some 1) none 2 (items.size : Int)).1 + (m : Int) * 2).toNat]?).toArray = (odds items.toList).toArray := by
    unfold odds
    rw [Array.length_toList]
    congr 2
    funext m
    rw [Array.getElem?_toList]
  rw [e]
  first
    | exact wpAny_bind (m := Builtin.Tuple.tupleExact _) (wpAny_newObj_type (wpAny_pure ⟨_, rfl, wpAny_pure h⟩) htake)
    | exact wpAny_bind (m := Builtin.Tuple.tupleExact _) (wpAny_newObj_type (wpAny_bind (wpAny_pure (wpAny_pure ⟨_, rfl, wpAny_pure h⟩))) htake)
    | exact wpAny_bind (wpAny_bind (m := Builtin.Tuple.tupleExact _) (wpAny_newObj_type (wpAny_pure (wpAny_pure ⟨_, rfl, wpAny_pure h⟩)) htake))
    | exact wpAny_bind (wpAny_bind (m := Builtin.Tuple.tupleExact _) (wpAny_newObj_type (wpAny_pure ⟨_, rfl, wpAny_pure h⟩) htake))
end
def rOdds (K : PySem.W.Frag) : V → Hp → VK → Prop := fun x H Q => ∃ a xs, x = .ref a ∧ SqT K H a xs ∧ xs.length ≤ 100000 ∧ ∀ p, H p = none → Q (.ref p) (upd H p (.tup (odds xs)))
def tOdds (K : PySem.W.Frag) (te : TE) : TE := fun σ H Q => te σ H fun x H1 => rOdds K x H1 Q
section
variable {X : Cx} {e : Expr} {te : TE} {p1 p2 p3 pos : Pos} {r1 r2 : Literal}
theorem pe_odds (he : PE X e te) (e1 : PE X l1 (tC (.int 1))) (e2 : PE X l2 (tC (.int 2))) : PE X (.Subscript e (.Slice (some l1) none (some l2) p2) pos) (tOdds X.K te) := by
  refine ⟨fun pins s σ H Q I h => ?_⟩
  refine Subscript_ (thn (he.run pins s σ H _ I h) fun v s1 ⟨x, H1, I1, rx, a, xs, ex, hx, hz, q⟩ => ?_)
  subst ex
  obtain rfl : v = Value.ref a := rx
  refine wpAny_Slice (thn ((po_some e1).run pins s1 σ H1 (fun o H2 => o = some 1 ∧ H2 = H1) I1 ⟨1, rfl, rfl, rfl⟩) fun vl s2 ⟨l, H2, I2, pl, el, eh⟩ => ?_)
  subst el eh
  rw [evalPart_none]
  refine wpAny_pure ?_
  refine thn ((po_some e2).run pins s2 σ H2 (fun o H3 => o = some 2 ∧ H3 = H2) I2 ⟨2, rfl, rfl, rfl⟩) fun vs s3 ⟨st, H3, I3, ps, es, eh⟩ => ?_
  subst es eh
  have I4 : Inv X pins σ H3 { s3 with heap := s3.heap.push { cls := .type "slice", data := .fields #[vl, .none, vs] } } := I3.kept (t' := s3.toks) fun b ob q => Heap.get?_push_of_some _ q
  obtain ⟨its, r, pt, hz2⟩ := I4.tuple hx
  have l63 := line63
  cases pl
  cases ps
  refine tail_any (ops := [.ref a, .ref s3.heap.objs.size]) pt.typeIs PyProof.Rows.slot_tuple_getitem.lookup ?_ (by with_unfolding_all rfl)
  refine getItem_odds pt (Heap.IsSliceOf.new ..) ?_ ?_
  · exact ⟨.ref _, _, I4.laid (t' := s3.toks) (o := .tup (odds xs)) (fun b ob y => Heap.get?_push_of_some _ y) (Nat.le_refl _) ⟨by have := odds_le xs; rw [sizeLine_eq]; omega, _, vals_odds r, IsTup.new _ _⟩, rfl, q _ (I4.hok.fresh (Nat.le_refl _))⟩
  · rw [List.size_toArray, ← r.length, sizeLine_eq]
    omega
end
end L2
/-! t[::-1], t a tuple -/
namespace L2
open PySem PySem.Spec PyProof.Rows
/-- from the last to the first -/
def revs {α : Type} (xs : List α) : List α := (List.range (Builtin.Slice.slicePlaces (Builtin.Slice.sliceAdjust none none (-1) (xs.length : Int)).1 (Builtin.Slice.sliceAdjust none none (-1) (xs.length : Int)).2 (-1))).filterMap fun (k : Nat) => xs[((Builtin.Slice.sliceAdjust none none (-1) (xs.length : Int)).1 + (k : Int) * (-1)).toNat]?
theorem vals_revs {xs : List V} {its : List Value} (r : Vals xs its) : Vals (revs xs) (revs its) := by
  unfold revs
  rw [← r.length]
  exact vals_pick _ r _
theorem filterMap_on {α β : Type} {f g : α → Option β} : ∀ {l : List α}, (∀ x ∈ l, f x = g x) → l.filterMap f = l.filterMap g
  | [], _ => rfl
  | x :: l, h => by
    have ih := filterMap_on (l := l) fun y m => h y (List.mem_cons_of_mem _ m)
    simp only [List.filterMap_cons, h x List.mem_cons_self, ih]
theorem revs_at {α : Type} (xs : List α) : (Builtin.Slice.sliceAdjust none none (-1) (xs.length : Int)) = ((xs.length : Int) - 1, -1) := by
  unfold Builtin.Slice.sliceAdjust
  simp
theorem revs_n {α : Type} (xs : List α) : Builtin.Slice.slicePlaces ((xs.length : Int) - 1) (-1) (-1) = xs.length := by
  unfold Builtin.Slice.slicePlaces
  rw [if_neg (by decide)]
  by_cases c : (xs.length : Int) - 1 > -1
  · rw [if_pos c, show (-(-1) : Int) = 1 from rfl, Int.ediv_one]
    omega
  · rw [if_neg c]
    omega
theorem revs_is {α : Type} (xs : List α) : revs xs = xs.reverse := by
  unfold revs
  rw [revs_at, revs_n]
  have hf : ∀ k ∈ List.range xs.length, xs[((xs.length : Int) - 1 + (k : Int) * (-1)).toNat]? = (xs.reverse)[k]? := fun k hk => by
    have hk := List.mem_range.mp hk
    rw [List.getElem?_reverse hk]
    congr 1
    omega
  have all : ∀ (l : List α), (List.range l.length).filterMap (fun k => l[k]?) = l := fun l => by
    have := PySem.W.krv_all l.toArray
    simpa using this
  dsimp only
  rw [show ((List.range xs.length).filterMap fun (k : Nat) => xs[((xs.length : Int) - 1 + (k : Int) * (-1)).toNat]?) = (List.range xs.length).filterMap (fun k => (xs.reverse)[k]?) from filterMap_on hf]
  have := all xs.reverse
  rw [List.length_reverse] at this
  exact this
theorem revs_le {α : Type} (xs : List α) : (revs xs).length ≤ xs.length + 1 := by
  rw [revs_is, List.length_reverse]
  omega
section
variable {prog : Program} {w : World} {A : Around} {E : Value → Shared → Prop} {s : Shared}
theorem getItem_revs {t sl : Addr} {items : Array Value} {tu ts : Tok} {Q : Value → Shared → Prop} (ht : IsTup s.heap t items) (hs : s.heap.IsSliceOf sl .none .none (.int (-1) ts))
    (h : Q (.ref s.heap.objs.size) { s with heap := s.heap.push { cls := .type "tuple", data := .seq (revs items.toList).toArray } })
    (hsz : items.size < sizeLine) : wpAny (model prog w) A (getItem (.ref t) (.ref sl)) Q E s := by
  have htake : sizeOk (.seq (revs items.toList).toArray) := by
    show (revs items.toList).toArray.size ≤ sizeLine
    have := revs_le items.toList
    have l2 : items.toList.length = items.size := Array.length_toList
    have l3 : (revs items.toList).toArray.size = (revs items.toList).length := List.size_toArray
    omega
  obtain ⟨os, hos, hcs, hds⟩ := id hs
  have hTs : s.TypeIs (.ref sl) "slice" := ⟨os, hos, hcs⟩
  unfold getItem
  try with_reducible refine wpAny_holding ?_
  first | refine wpAny_bind (wpAny_pure ?_) | skip
  refine wpAny_bind (wpAny_sequenceKey ht.typeIs (by decide) ?_)
  refine wpAny_bind (wpAny_callSpecial?_slot (name := Str.ofString "__getitem__") ht.typeIs PyProof.Rows.slot_tuple_getitem (wpAny_call_entry PyProof.Rows.slot_tuple_getitem ht.typeIs entry_tuple_getitem ?_ (args_tuple_getitem _ _)))
  show wpAny _ _ (Builtin.Tuple.tupleItemsOf (.ref t) >>= fun _ => _) _ _ s
  refine wpAny_bind (tupleItemsOf_ ht ?_)
  refine wpAny_bind (wpAny_typeOf hTs ?_)
  rw [if_pos (by decide)]
  have app : ∀ {Q2 : Int × Int × Nat → Shared → Prop} {E2 : Value → Shared → Prop} {A2 : Around}, Q2 ((Builtin.Slice.sliceAdjust none none (-1) (items.size : Int)).1, -1, Builtin.Slice.slicePlaces (Builtin.Slice.sliceAdjust none none (-1) (items.size : Int)).1 (Builtin.Slice.sliceAdjust none none (-1) (items.size : Int)).2 (-1)) s →
      wpAny (model prog w) A2 (Builtin.Slice.sliceApplied (.ref sl) (pure (items.size : Int))) Q2 E2 s := fun {Q2 E2 A2} q => by
    unfold Builtin.Slice.sliceApplied Builtin.Slice.sliceFields
    refine wpAny_bind (wpAny_bind (wpAny_field hos hds (x := .none) rfl (wpAny_bind (wpAny_field hos hds (x := .none) rfl (wpAny_bind (wpAny_field hos hds (x := .int (-1) ts) rfl (wpAny_pure ?_)))))))
    refine wpAny_bind (slicePart_int ?_)
    show wpAny _ _ (if ((-1 : Int) == 0) = true then _ else _) _ _ s
    rw [if_neg (by decide)]
    refine wpAny_bind (slicePart_none (wpAny_bind (slicePart_none (wpAny_bind (wpAny_pure ?_)))))
    exact wpAny_pure q
  refine wpAny_bind (app ?_)
  have hno : ¬ (((Builtin.Slice.sliceAdjust none none (-1) (items.size : Int)).1 == 0 && (-1 : Int) == 1 && Builtin.Slice.slicePlaces (Builtin.Slice.sliceAdjust none none (-1) (items.size : Int)).1 (Builtin.Slice.sliceAdjust none none (-1) (items.size : Int)).2 (-1) == items.size) = true) := by
    rw [show ((-1 : Int) == 1) = false from by decide, Bool.and_false, Bool.false_and]
    exact Bool.false_ne_true
  show wpAny _ _ (if ((Builtin.Slice.sliceAdjust none none (-1) (items.size : Int)).1 == 0 && (-1 : Int) == 1 && Builtin.Slice.slicePlaces (Builtin.Slice.sliceAdjust none none (-1) (items.size : Int)).1 (Builtin.Slice.sliceAdjust none none (-1) (items.size : Int)).2 (-1) == items.size) = true then _ else _) _ _ s
  rw [if_neg hno]
  have e : ((List.range (Builtin.Slice.slicePlaces (Builtin.Slice.sliceAdjust none none (-1) (items.size : Int)).1 (Builtin.Slice.sliceAdjust none none (-1) (items.size : Int)).2 (-1))).filterMap fun (m : Nat) => items[((Builtin.Slice.sliceAdjust none none (-1) (items.size : Int)).1 + (m : Int) * (-1)).toNat]?).toArray = (revs items.toList).toArray := by
    unfold revs
    rw [Array.length_toList]
    congr 2
    funext m
    rw [Array.getElem?_toList]
  rw [e]
  first
    | exact wpAny_bind (m := Builtin.Tuple.tupleExact _) (wpAny_newObj_type (wpAny_pure ⟨_, rfl, wpAny_pure h⟩) htake)
    | exact wpAny_bind (m := Builtin.Tuple.tupleExact _) (wpAny_newObj_type (wpAny_bind (wpAny_pure (wpAny_pure ⟨_, rfl, wpAny_pure h⟩))) htake)
    | exact wpAny_bind (wpAny_bind (m := Builtin.Tuple.tupleExact _) (wpAny_newObj_type (wpAny_pure (wpAny_pure ⟨_, rfl, wpAny_pure h⟩)) htake))
    | exact wpAny_bind (wpAny_bind (m := Builtin.Tuple.tupleExact _) (wpAny_newObj_type (wpAny_pure ⟨_, rfl, wpAny_pure h⟩) htake))
end
def rRevs (K : PySem.W.Frag) : V → Hp → VK → Prop := fun x H Q => ∃ a xs, x = .ref a ∧ SqT K H a xs ∧ xs.length ≤ 100000 ∧ ∀ p, H p = none → Q (.ref p) (upd H p (.tup (revs xs)))
def tRevs (K : PySem.W.Frag) (te : TE) : TE := fun σ H Q => te σ H fun x H1 => rRevs K x H1 Q
section
variable {X : Cx} {e : Expr} {te : TE} {p1 p2 p3 pos : Pos} {k : Nat}
theorem pe_revT (he : PE X e te) : PE X (.Subscript e (.Slice none none (some (.UnaryOp .USub (.Constant (.int 1) k p1) p2)) p3) pos) (tRevs X.K te) := by
  refine ⟨fun pins s σ H Q I h => ?_⟩
  refine Subscript_ (thn (he.run pins s σ H _ I h) fun v s1 ⟨x, H1, I1, rx, a, xs, ex, hx, hz, q⟩ => ?_)
  subst ex
  obtain rfl : v = Value.ref a := rx
  have hst : PO X (some (.UnaryOp .USub (.Constant (.int 1) k p1) p2)) (tPart (tUn (rU fun i => .int (-i)) (tC (.int 1)))) := po_some (pe_un un_neg pe_int)
  refine wpAny_Slice (thn (po_none.run pins s1 σ H1 (fun o H2 => o = none ∧ H2 = H1) I1 ⟨rfl, rfl⟩) fun vl s2 ⟨l, H2, I2, pl, el, eh⟩ => ?_)
  subst el eh
  refine thn (po_none.run pins s2 σ H2 (fun o H3 => o = none ∧ H3 = H2) I2 ⟨rfl, rfl⟩) fun vu s3 ⟨u, H3, I3, pu, eu, eh⟩ => ?_
  subst eu eh
  refine thn (hst.run pins s3 σ H3 (fun o H4 => o = some (-1) ∧ H4 = H3) I3 ⟨1, rfl, -1, rfl, rfl, rfl⟩) fun vs s4 ⟨st, H4, I4, ps, es, eh⟩ => ?_
  subst es eh
  have I5 : Inv X pins σ H4 { s4 with heap := s4.heap.push { cls := .type "slice", data := .fields #[vl, vu, vs] } } := I4.kept (t' := s4.toks) fun b ob q => Heap.get?_push_of_some _ q
  obtain ⟨its, r, pt, hz2⟩ := I5.tuple hx
  have l63 := line63
  cases pl
  cases pu
  cases ps
  refine tail_any (ops := [.ref a, .ref s4.heap.objs.size]) pt.typeIs PyProof.Rows.slot_tuple_getitem.lookup ?_ (by with_unfolding_all rfl)
  refine getItem_revs (tu := 0) pt (Heap.IsSliceOf.new ..) ?_ ?_
  · exact ⟨.ref _, _, I5.laid (t' := s4.toks) (o := .tup (revs xs)) (fun b ob y => Heap.get?_push_of_some _ y) (Nat.le_refl _) ⟨by have := revs_le xs; rw [sizeLine_eq]; omega, _, vals_revs r, IsTup.new _ _⟩, rfl, q _ (I5.hok.fresh (Nat.le_refl _))⟩
  · rw [List.size_toArray, ← r.length, sizeLine_eq]
    omega
end
end L2
/-! new lists that are not sys.modules; ints and bools as numbers -/
namespace Sn
open PySem PySem.Spec PyProof.Rows L2 Gd
section
variable {X : Cx}
def tLstN (t : TA) : TE := fun σ H Q => t σ H fun xs H1 => xs.length ≤ sizeLine ∧ ∀ p, H1 p = none → p ≠ sysModules → Q (.ref p) (upd H1 p (.lst xs))
theorem pe_lstN {es : List Expr} {t : TA} {pos : Pos} (h : PA X es t) : PE X (.List es pos) (tLstN t) := by
  constructor
  intro pins s σ H Q I want
  refine wpAny_List_spliced (thn (h.run pos pins s σ H _ I want) ?_)
  rintro us s1 ⟨xs, H1, I1, r, z, q⟩
  refine ⟨by rw [← r.length]; exact z, ?_⟩
  have n : H1 s1.heap.objs.size = none := I1.hok.fresh (Nat.le_refl _)
  exact ⟨.ref s1.heap.objs.size, _, I1.laid (t' := s1.toks) (a := s1.heap.objs.size) (o := .lst xs) (fun b u e => Heap.get?_push_of_some _ e) (Nat.le_refl _) ⟨z, us, 0, r, Heap.get?_push_size _ rfl⟩, rfl, q _ n (Nat.ne_of_gt I1.big)⟩
def rListN (K : PySem.W.Frag) : List V → Hp → VK → Prop := fun xs H Q => ∃ p ys, xs = [.ref p] ∧ SqT K H p ys ∧ ∀ l, H l = none → l ≠ sysModules → Q (.ref l) (upd H l (.lst ys))
theorem call_listN : CallR X (.type "list") (rListN X.K) := by
  intro pins s σ H xs us Q I r h
  obtain ⟨p, ys, rfl, hq, q⟩ := h
  obtain ⟨u, rfl, rx⟩ := vals1 r
  cases (show u = Value.ref p from rx)
  obtain ⟨its, r', pl, hz⟩ := I.tuple hq
  have hlen := r'.length
  obtain ⟨o, ho, hc, n, hd⟩ := pl
  have fin : ∀ (h' : Heap) (c' : Nat), (∀ b o', s.heap.get? b = some o' → h'.get? b = some o') →
      h'.get? s.heap.objs.size = some { cls := .type "list", dict := none, data := .seq its.toArray c', slots := #[] } → EP X pins σ Q (.ref s.heap.objs.size) { s with heap := h' } := fun h' c' kp e =>
    ⟨.ref s.heap.objs.size, _, I.laid (t' := s.toks) kp (Nat.le_refl _) (show ObjOk X.prog X.w _ h' _ (.lst ys) from ⟨hz, its, c', r', e⟩), rfl, q _ (I.hok.fresh (Nat.le_refl _)) (Nat.ne_of_gt I.big)⟩
  exact call_list_seq p (.inr rfl) ho hc hd (fun h' c' kp e => fin h' c' kp e) (by simp only [List.size_toArray] <;> omega)
/-- an int or a bool, as a number -/
def numV : V → Option Int
  | .int i => some i
  | .bl b => some (if b = true then 1 else 0)
  | _ => none
def rNumI (g : Int → Int → Int) : R2 := fun x y H Q => ∃ i j, numV x = some i ∧ y = .int j ∧ Q (.int (g i j)) H
theorem num_is {x : V} {i : Int} (h : numV x = some i) : x = .int i ∨ ∃ b, x = .bl b ∧ i = if b = true then 1 else 0 := by
  cases x <;> simp only [numV, Option.some.injEq, reduceCtorEq] at h
  · exact .inr ⟨_, rfl, h.symm⟩
  · exact .inl (by rw [h])
theorem op_addB : OpR X (binaryOp .Add) (rNumI (· + ·)) := by
  intro pins s σ H x y v u Q I rx ry h
  obtain ⟨i, j, hx, rfl, q⟩ := h
  obtain ⟨t', rfl⟩ := (show ∃ t', u = Value.int j t' from ry)
  rcases num_is hx with rfl | ⟨b, rfl, rfl⟩
  · obtain ⟨t, rfl⟩ := (show ∃ t, v = Value.int i t from rx)
    exact add_int ⟨.int (i + j), H, I.tok _, ⟨_, rfl⟩, q⟩
  · cases (show v = Value.bool b from rx)
    exact PySem.IntBool.add_bool_int ⟨.int _, H, I.tok _, ⟨_, rfl⟩, q⟩
theorem op_subB : OpR X (binaryOp .Sub) (rNumI (· - ·)) := by
  intro pins s σ H x y v u Q I rx ry h
  obtain ⟨i, j, hx, rfl, q⟩ := h
  obtain ⟨t', rfl⟩ := (show ∃ t', u = Value.int j t' from ry)
  rcases num_is hx with rfl | ⟨b, rfl, rfl⟩
  · obtain ⟨t, rfl⟩ := (show ∃ t, v = Value.int i t from rx)
    exact sub_int ⟨.int (i - j), H, I.tok _, ⟨_, rfl⟩, q⟩
  · cases (show v = Value.bool b from rx)
    exact PySem.IntBool.sub_bool_int ⟨.int _, H, I.tok _, ⟨_, rfl⟩, q⟩
def rEqNum : R2 := fun x y H Q => ∃ i j, numV x = some i ∧ y = .int j ∧ Q (.bl (i == j)) H
theorem op_eqB : OpR X (compareOp .Eq) rEqNum := by
  intro pins s σ H x y v u Q I rx ry h
  obtain ⟨i, j, hx, rfl, q⟩ := h
  obtain ⟨t', rfl⟩ := (show ∃ t', u = Value.int j t' from ry)
  rcases num_is hx with rfl | ⟨b, rfl, rfl⟩
  · obtain ⟨t, rfl⟩ := (show ∃ t, v = Value.int i t from rx)
    exact SeqAt.RcAt.int_int i t j t' X.prog X.w _ _ ⟨.bl _, H, I, rfl, q⟩
  · cases (show v = Value.bool b from rx)
    exact SeqAt.RcAt.bool_int b j t' X.prog X.w _ _ ⟨.bl _, H, I, rfl, q⟩
/-- str of an int or a bool -/
def rStrNum : List V → Hp → VK → Prop := fun xs H Q => (∃ i : Int, xs = [.int i] ∧ i.natAbs.log2 < 1920 ∧ Q (.str (toString i)) H) ∨ ∃ b : Bool, xs = [.bl b] ∧ Q (.str (if b then "True" else "False")) H
theorem call_strNum : CallR X (.type "str") rStrNum := by
  refine call_str_int.or ?_
  rintro pins s σ H xs us Q I r ⟨b, rfl, q⟩
  obtain ⟨u, rfl, rv⟩ := vals1 r
  cases (show u = Value.bool b from rv)
  exact PySem.P.str_of_bool ⟨.str (if b then "True" else "False"), H, I.tok _, ⟨_, rfl⟩, q⟩
end
end Sn
/-! how large a value may grow that is bent a few times -/
namespace Sn
open PySem PySem.Spec PyProof.Rows L2 Gd
mutual
/-- ints below 10^30 + m, ASCII texts, no dict but {} -/
def fine (m : Nat) : PyData → Bool
  | .none | .bool _ => true
  | .int i => decide (i.natAbs ≤ 10 ^ 30 + m)
  | .str z => z.cps.toList.all (fun c => decide (c < 128))
  | .list xs | .tuple xs => fineAll m xs
  | .dict kvs => kvs.isEmpty
def fineAll (m : Nat) : List PyData → Bool
  | [] => true
  | x :: xs => fine m x && fineAll m xs
end
theorem fineAll_eq (m : Nat) : ∀ xs, fineAll m xs = xs.all (fine m)
  | [] => by rw [fineAll]; rfl
  | x :: xs => by rw [fineAll, fineAll_eq m xs, List.all_cons]
theorem fineAll_iff {m : Nat} {xs : List PyData} : fineAll m xs = true ↔ ∀ x ∈ xs, fine m x = true := by
  rw [fineAll_eq, List.all_eq_true]
mutual
theorem fine_mono {m m' : Nat} (h : m ≤ m') : ∀ e : PyData, fine m e = true → fine m' e = true
  | .none, _ => by rw [fine]
  | .bool _, _ => by rw [fine]
  | .int i, q => by
    rw [fine] at q ⊢
    exact decide_eq_true (Nat.le_trans (of_decide_eq_true q) (by omega))
  | .str z, q => by rw [fine] at q ⊢; exact q
  | .list xs, q => by rw [fine] at q ⊢; exact fineAll_mono h xs q
  | .tuple xs, q => by rw [fine] at q ⊢; exact fineAll_mono h xs q
  | .dict kvs, q => by rw [fine] at q ⊢; exact q
theorem fineAll_mono {m m' : Nat} (h : m ≤ m') : ∀ xs : List PyData, fineAll m xs = true → fineAll m' xs = true
  | [], _ => by rw [fineAll]
  | x :: xs, q => by
    rw [fineAll, Bool.and_eq_true] at q ⊢
    exact ⟨fine_mono h x q.1, fineAll_mono h xs q.2⟩
end
theorem log_small {n : Nat} (h : n ≤ 10 ^ 30 + 1000) : n.log2 < 1920 := by
  by_cases z : n = 0
  · rw [z]
    decide
  · refine (Nat.log2_lt z).mpr (Nat.lt_of_le_of_lt h ?_)
    calc 10 ^ 30 + 1000 < 2 ^ 101 := by decide
      _ ≤ 2 ^ 1920 := Nat.pow_le_pow_right (by decide) (by decide)
mutual
theorem fine_show {m : Nat} (h : m ≤ 1000) : ∀ e : PyData, fine m e = true → e.showable = true
  | .none, _ => by rw [PyData.showable]
  | .bool _, _ => by rw [PyData.showable]
  | .int i, q => by
    rw [fine] at q
    rw [PyData.showable]
    exact decide_eq_true (log_small (Nat.le_trans (of_decide_eq_true q) (by omega)))
  | .str z, q => by rw [PyData.showable]
  | .list xs, q => by
    rw [fine] at q
    rw [PyData.showable]
    exact fineAll_show h xs q
  | .tuple xs, q => by
    rw [fine] at q
    rw [PyData.showable]
    exact fineAll_show h xs q
  | .dict [], q => rfl
  | .dict (_ :: _), q => by
    rw [fine] at q
    cases q
theorem fineAll_show {m : Nat} (h : m ≤ 1000) : ∀ xs : List PyData, fineAll m xs = true → PyData.showableAll xs = true
  | [], _ => by rw [PyData.showableAll]
  | x :: xs, q => by
    rw [fineAll, Bool.and_eq_true] at q
    rw [PyData.showableAll, fine_show h x q.1, fineAll_show h xs q.2]
    rfl
end
/-- what a row of items takes, shown -/
def shsum : List PyData → Nat
  | [] => 0
  | x :: xs => x.shown.length + 2 + shsum xs
theorem shsum_app : ∀ a b : List PyData, shsum (a ++ b) = shsum a + shsum b
  | [], b => by rw [List.nil_append, shsum]; omega
  | x :: a, b => by
    rw [List.cons_append, shsum, shsum, shsum_app a b]
    omega
theorem shsum_take (n : Nat) (a : List PyData) : shsum (a.take n) ≤ shsum a := by
  have := shsum_app (a.take n) (a.drop n)
  rw [List.take_append_drop] at this
  omega
theorem shsum_drop (n : Nat) (a : List PyData) : shsum (a.drop n) ≤ shsum a := by
  have := shsum_app (a.take n) (a.drop n)
  rw [List.take_append_drop] at this
  omega
theorem shsum_rev : ∀ a : List PyData, shsum a.reverse = shsum a
  | [] => rfl
  | x :: a => by
    rw [List.reverse_cons, shsum_app, shsum_rev a, shsum, shsum, shsum]
    omega
theorem shsum_mem : ∀ {a : List PyData} {x : PyData}, x ∈ a → x.shown.length + 2 ≤ shsum a
  | [], _, h => absurd h List.not_mem_nil
  | y :: a, x, h => by
    rw [shsum]
    rcases List.mem_cons.mp h with rfl | h
    · omega
    · have := shsum_mem h
      omega
theorem join_len : ∀ xs : List PyData, xs ≠ [] → (Str.join ", " (PyData.shownAll xs)).length + 2 = shsum xs
  | [], h => absurd rfl h
  | [x], _ => by
    rw [PyData.shownAll_cons, PyData.shownAll_nil, shsum, shsum]
    rfl
  | x :: y :: r, _ => by
    have ih := join_len (y :: r) (by simp)
    rw [PyData.shownAll_cons, shsum, ← ih, PyData.shownAll_cons]
    show (x.shown ++ ", " ++ Str.join ", " (y.shown :: PyData.shownAll r)).length + 2 = _
    rw [Str.length_append, Str.length_append, show (", " : Str).length = 2 from by decide +kernel]
    omega
theorem tup_len (xs : List PyData) : (PyData.tuple xs).shown.length ≤ shsum xs + 2 ∧ shsum xs ≤ (PyData.tuple xs).shown.length := by
  rw [PyData.shown_tuple, Str.length_append, Str.length_append, show ("(" : Str).length = 1 from by decide +kernel]
  have tl : ((if (xs.length == 1) = true then (",)" : String) else ")" : String) : Str).length ≤ 2 ∧ 1 ≤ ((if (xs.length == 1) = true then (",)" : String) else ")" : String) : Str).length := by
    split <;> decide +kernel
  by_cases h : xs = []
  · subst h
    rw [PyData.shownAll_nil, shsum]
    have : (Str.join ", " []).length = 0 := by decide +kernel
    have : ((if (([] : List PyData).length == 1) = true then (",)" : String) else ")" : String) : Str).length = 1 := by
      show (Str.ofString ")").length = 1
      decide +kernel
    omega
  · have := join_len xs h
    omega
theorem lst_len (xs : List PyData) : (PyData.list xs).shown.length ≤ shsum xs + 2 := by
  rw [PyData.shown_list, Str.length_append, Str.length_append, show ("[" : Str).length = 1 from by decide +kernel, show ("]" : Str).length = 1 from by decide +kernel]
  by_cases h : xs = []
  · subst h
    rw [PyData.shownAll_nil, shsum]
    have : (Str.join ", " []).length = 0 := by decide +kernel
    omega
  · have := join_len xs h
    omega
structure Siz (m k L : Nat) (e : PyData) : Prop where
  f : fine m e = true
  d : e.depth ≤ k
  l : e.shown.length ≤ L
structure SizAll (m k : Nat) (xs : List PyData) : Prop where
  f : ∀ x ∈ xs, fine m x = true
  d : ∀ x ∈ xs, x.depth ≤ k
theorem depthAll_le {k : Nat} : ∀ {xs : List PyData}, (∀ x ∈ xs, x.depth ≤ k) → PyData.depthAll xs ≤ k
  | [], _ => by rw [PyData.depthAll]; exact Nat.zero_le _
  | x :: xs, h => by
    rw [PyData.depthAll]
    have := h x List.mem_cons_self
    have := depthAll_le fun y m => h y (List.mem_cons_of_mem _ m)
    omega
theorem Siz.up {m k L m' k' L' : Nat} {e : PyData} (h : Siz m k L e) (a : m ≤ m') (b : k ≤ k') (c : L ≤ L') : Siz m' k' L' e := ⟨fine_mono a e h.f, Nat.le_trans h.d b, Nat.le_trans h.l c⟩
theorem SizAll.tup {m k : Nat} {xs : List PyData} (h : SizAll m k xs) : Siz m (k + 1) (shsum xs + 2) (.tuple xs) := by
  refine ⟨?_, ?_, (tup_len xs).1⟩
  · rw [fine]
    exact fineAll_iff.mpr h.f
  · rw [PyData.depth]
    have := depthAll_le h.d
    omega
theorem SizAll.lst {m k : Nat} {xs : List PyData} (h : SizAll m k xs) : Siz m (k + 1) (shsum xs + 2) (.list xs) := by
  refine ⟨?_, ?_, lst_len xs⟩
  · rw [fine]
    exact fineAll_iff.mpr h.f
  · rw [PyData.depth]
    have := depthAll_le h.d
    omega
theorem depth_mem' : ∀ {ds : List PyData} {x : PyData}, x ∈ ds → x.depth ≤ PyData.depthAll ds
  | [], x, h => absurd h List.not_mem_nil
  | y :: ds, x, h => by
    rw [PyData.depthAll]
    rcases List.mem_cons.mp h with rfl | h
    · omega
    · have := depth_mem' h
      omega
theorem Siz.items {m k L : Nat} {xs : List PyData} (h : Siz m k L (.tuple xs)) : ∃ k', k = k' + 1 ∧ SizAll m k' xs ∧ shsum xs ≤ L := by
  have f := h.f
  rw [fine] at f
  have d := h.d
  rw [PyData.depth] at d
  refine ⟨k - 1, by omega, ⟨fun x hx => fineAll_iff.mp f x hx, fun x hx => ?_⟩, Nat.le_trans (tup_len xs).2 h.l⟩
  have := depth_mem' hx
  omega
theorem SizAll.sub {m k : Nat} {xs ys : List PyData} (h : SizAll m k xs) (s : ∀ y ∈ ys, y ∈ xs) : SizAll m k ys := ⟨fun y hy => h.f y (s y hy), fun y hy => h.d y (s y hy)⟩
theorem SizAll.app {m k : Nat} {xs ys : List PyData} (h : SizAll m k xs) (g : SizAll m k ys) : SizAll m k (xs ++ ys) := ⟨fun y hy => (List.mem_append.mp hy).elim (h.f y) (g.f y), fun y hy => (List.mem_append.mp hy).elim (h.d y) (g.d y)⟩
theorem SizAll.one {m k L : Nat} {x : PyData} (h : Siz m k L x) : SizAll m k [x] := ⟨fun y hy => by rw [List.mem_singleton.mp hy]; exact h.f, fun y hy => by rw [List.mem_singleton.mp hy]; exact h.d⟩
end Sn
/-! a value made odd -/
namespace Sn
open PySem PySem.Spec PyProof.Rows L2 Evl Gd
abbrev sOdd : Stmt := topS 30
abbrev nOdd : List Str := ["_law_box_here", "_law_thing", "_law_some"]
theorem scOdd : FnScope nOdd ["_law_box_here", "_law_thing"] (defScope sOdd) := ⟨rfl, rfl, rfl, by decide +kernel, rfl, by decide +kernel, by decide +kernel⟩
section
variable {X : Cx}
/-- t[lo:hi], itself or new -/
def rSlW (K : PySem.W.Frag) : V → Option Int → Option Int → Hp → VK → Prop := fun x lo hi H Q => ∃ a xs, x = .ref a ∧ SqP K H a xs ∧ ∀ p H2, Ex H H2 → SqP K H2 p (cutV xs lo hi) → (p = a ∨ H p = none) → Q (.ref p) H2
theorem cut_all {xs : List V} {lo hi : Option Int} (hw : HT.sIx xs.length 0 lo = 0 ∧ HT.sIx xs.length xs.length hi = xs.length) : cutV xs lo hi = xs := by
  unfold cutV
  rw [hw.1, hw.2]
  simp
theorem sl_w : SlR X (rSlW X.K) := by
  intro pins s σ H x v vl vu lo hi sl Q I rx hs pl pu h
  obtain ⟨a, xs, rfl, hx, q⟩ := h
  refine sl_tupA pins s σ H _ v vl vu lo hi sl Q I rx hs pl pu ⟨a, xs, rfl, hx.sq, fun hw => q a H (Ex.refl H) ?_ (.inl rfl), fun _ p hp => q p _ (Ex.new hp) (sp_of upd_same) (.inr hp)⟩
  rw [cut_all hw]
  exact hx
/-- t + u, one of them or new -/
def rCatW (K : PySem.W.Frag) : R2 := fun x y H Q => ∃ a b xs ys, x = .ref a ∧ y = .ref b ∧ SqP K H a xs ∧ SqP K H b ys ∧ xs.length + ys.length ≤ sizeLine ∧ ∀ p H2, Ex H H2 → SqP K H2 p (xs ++ ys) → (p = a ∨ p = b ∨ H p = none) → Q (.ref p) H2
theorem op_catW : OpR X (binaryOp .Add) (rCatW X.K) := by
  intro pins s σ H x y v u Q I rx ry h
  obtain ⟨a, b, xs, ys, rfl, rfl, ha, hb, hz, q⟩ := h
  refine op_catA pins s σ H _ _ v u Q I rx ry ⟨a, b, xs, ys, rfl, rfl, ha.sq, hb.sq, hz, fun e => ?_, fun _ e => ?_, fun _ _ p hp => q p _ (Ex.new hp) (sp_of upd_same) (.inr (.inr hp))⟩
  · refine q b H (Ex.refl H) ?_ (.inr (.inl rfl))
    rw [e]
    exact hb
  · refine q a H (Ex.refl H) ?_ (.inl rfl)
    rw [e, List.append_nil]
    exact ha
end
theorem AvAll.cut {K : PySem.W.Frag} {D : Addr → Prop} {H : Hp} {xs : List V} {es : List PyData} (h : AvAll K D H xs es) (lo hi : Option Int) : ∃ fs, AvAll K D H (cutV xs lo hi) fs ∧ (∀ f ∈ fs, f ∈ es) ∧ shsum fs ≤ shsum es := by
  unfold cutV
  refine ⟨_, AvAll.take _ (AvAll.drop _ h), fun f hf => List.mem_of_mem_drop (List.mem_of_mem_take hf), Nat.le_trans (shsum_take _ _) (shsum_drop _ _)⟩
theorem unO_of {r : V → Hp → VK → Prop} {ta : TE} {σ : L2.St} {H : Hp} {Q : VK} (h : ta σ H fun x H1 => r x H1 Q) : tUn r ta σ H Q := h
theorem lstN_of {t : TA} {σ : L2.St} {H : Hp} {Q : VK} (h : t σ H fun xs H1 => xs.length ≤ sizeLine ∧ ∀ p, H1 p = none → p ≠ sysModules → Q (.ref p) (upd H1 p (.lst xs))) : tLstN t σ H Q := h
theorem revs_of {K : PySem.W.Frag} {te : TE} {σ : L2.St} {H : Hp} {Q : VK} (h : te σ H fun x H1 => rRevs K x H1 Q) : tRevs K te σ H Q := h
theorem cut_len (xs : List V) (lo hi : Option Int) : (cutV xs lo hi).length ≤ xs.length := by
  unfold cutV
  rw [List.length_take, List.length_drop]
  omega
theorem shsum_len : ∀ xs : List PyData, 2 * xs.length ≤ shsum xs
  | [] => Nat.zero_le _
  | x :: xs => by
    have := shsum_len xs
    rw [shsum, List.length_cons]
    omega
theorem m0_of {r : V → List V → Hp → VK → Prop} {to : TE} {σ : L2.St} {H : Hp} {Q : VK} (h : to σ H fun x H1 => (∃ a, x = V.str a) ∧ r x [] H1 Q) : tM0 r to σ H Q := h
theorem fine_str {m : Nat} {z : Str} : fine m (.str z) = true ↔ ∀ c ∈ cs z, c < 128 := by
  rw [fine, List.all_eq_true]
  exact ⟨fun h c hc => of_decide_eq_true (h c hc), fun h c hc => decide_eq_true (h c hc)⟩
theorem len_cs (z : Str) : z.length = (cs z).length := by
  show z.cps.size = z.cps.toList.length
  rw [Array.length_toList]
theorem char_pos (q c : Nat) : 1 ≤ (PySem.Builtin.Str.reprChar q c).length := by
  unfold PySem.Builtin.Str.reprChar
  repeat' split
  all_goals simp
theorem esc_len' (q : Nat) : ∀ l : List Nat, l.length ≤ (esc q l).length
  | [] => Nat.zero_le _
  | c :: r => by
    have ih := esc_len' q r
    have := char_pos q c
    show (c :: r).length ≤ (PySem.Builtin.Str.reprChar q c ++ esc q r).length
    rw [List.length_append, List.length_cons]
    omega
theorem str_ge (z : Str) : z.length + 2 ≤ (PyData.str z).shown.length := by
  rw [len_cs, len_cs, shown_str_cs, List.length_cons, List.length_append, List.length_singleton]
  have := esc_len' (reprQuote z) (cs z)
  omega
theorem str_le {m : Nat} {z : Str} (h : fine m (.str z) = true) : (PyData.str z).shown.length ≤ 10 * z.length + 2 := by
  rw [PyData.shown_str]
  exact StrLaws.reprText_len z fun c hc => Nat.lt_of_lt_of_le (fine_str.mp h c hc) (by decide)
theorem siz_str {m k L : Nat} {z : Str} (h : fine m (.str z) = true) (hk : 1 ≤ k) (hl : 10 * z.length + 2 ≤ L) : Siz m k L (.str z) := ⟨h, by rw [PyData.depth]; omega, Nat.le_trans (str_le h) hl⟩
theorem s_cs (z : Str) : SX.S (cs z) = z := cs_inj (by show (cs z).toArray.toList = cs z; simp)
theorem cs_S (a : List Nat) : cs (SX.S a) = a := by
  show a.toArray.toList = a
  simp
theorem fine_add {m : Nat} {z : Str} (h : fine m (.str z) = true) : fine m (.str (z ++ ("s" : Str))) = true ∧ (z ++ ("s" : Str)).length = z.length + 1 := by
  refine ⟨fine_str.mpr fun c hc => ?_, by rw [Str.length_append]; rfl⟩
  rw [cs_app] at hc
  rcases List.mem_append.mp hc with hc | hc
  · exact fine_str.mp h c hc
  · have : c ∈ [115] := hc
    rw [List.mem_singleton.mp this]
    decide
theorem fine_cut {m : Nat} {z : Str} (h : fine m (.str z) = true) : fine m (.str (Txt.slice z none (some (-1)))) = true ∧ (Txt.slice z none (some (-1))).length ≤ z.length := by
  by_cases e : cs z = []
  · have ez : z = ("" : Str) := cs_inj e
    rw [ez]
    refine ⟨?_, by decide +kernel⟩
    rw [show Txt.slice ("" : Str) none (some (-1)) = ("" : Str) from by decide +kernel]
    exact fine_str.mpr fun c hc => absurd hc List.not_mem_nil
  · have s := SX.slice_butlast e
    rw [s_cs] at s
    rw [s]
    refine ⟨fine_str.mpr fun c hc => ?_, ?_⟩
    · rw [cs_S] at hc
      exact fine_str.mp h c (List.mem_of_mem_take hc)
    · rw [len_cs, cs_S, len_cs, List.length_take]
      omega
theorem up1_asc : ∀ c : Fin 128, PyProof.Rows.up1 c.val < 128 := by decide +kernel
theorem fine_up {m : Nat} {z : Str} (h : fine m (.str z) = true) : fine m (.str (Txt.upper z)) = true ∧ (Txt.upper z).length = z.length := by
  have a : (cs z).all (fun c => decide (c < 128)) = true := List.all_eq_true.mpr fun c hc => decide_eq_true (fine_str.mp h c hc)
  have s := SX.upper_S a
  rw [s_cs] at s
  rw [s]
  refine ⟨fine_str.mpr fun c hc => ?_, by rw [len_cs, cs_S, List.length_map, len_cs]⟩
  rw [cs_S] at hc
  obtain ⟨b, hb, rfl⟩ := List.mem_map.mp hc
  exact up1_asc ⟨b, fine_str.mp h b hb⟩
theorem str_is {e : PyData} (h : isStr e = true) : ∃ z, e = .str z := by cases e <;> first | exact ⟨_, rfl⟩ | cases h
theorem dig_len {j : Int} (h : j.natAbs < 10 ^ 31) : (dig j).length ≤ 32 := by
  by_cases hj : j < 0
  · have e : dig j = ((toString j : String)).toList.map Char.toNat := signs_ofString _
    rw [Int.toString_eq_repr, Int.repr_eq_if, if_neg (by omega), String.toList_append, List.map_append, Nat.toList_repr] at e
    rw [e, List.length_append]
    have : (List.map Char.toNat (Nat.toDigits 10 (-j).toNat)).length ≤ 31 := TL.numL_len (n := (-j).toNat) (by decide) (by omega)
    have : (List.map Char.toNat ("-" : String).toList).length = 1 := rfl
    omega
  · have hj' : j = (j.toNat : Int) := by omega
    rw [hj', dig_nat]
    have : (TL.numL j.toNat).length ≤ 31 := TL.numL_len (by decide) (by omega)
    omega
theorem siz_int {m k L : Nat} {i : Int} (h : fine m (.int i) = true) (hm : m ≤ 1000) (hl : 32 ≤ L) : Siz m k L (.int i) := by
  have f := h
  rw [fine] at f
  have f := of_decide_eq_true f
  refine ⟨h, by rw [PyData.depth]; omega, ?_⟩
  rw [len_cs, shown_int']
  have : i.natAbs < 10 ^ 31 := by omega
  exact Nat.le_trans (dig_len this) hl
theorem fine_dig {m : Nat} (i : Int) : fine m (.str ((toString i : String) : Str)) = true := fine_str.mpr fun c hc => by
  have m' : c ∈ (PyData.int i).shown.cps.toList := by
    show c ∈ cs (PyData.int i).shown
    rw [shown_int']
    exact hc
  by_cases z : c ≠ 45 ∧ (c < 48 ∨ 57 < c)
  · exact absurd m' (shown_int_free' z i)
  · omega
theorem fine_int {m : Nat} {i j : Int} (h : fine m (.int i) = true) (e : j.natAbs ≤ i.natAbs + 1) : fine (m + 1) (.int j) = true := by
  rw [fine] at h ⊢
  have h := of_decide_eq_true h
  exact decide_eq_true (by omega)
theorem siz_bool {m k L : Nat} (b : Bool) (hl : 5 ≤ L) : Siz m k L (.bool b) := ⟨by rw [fine], by rw [PyData.depth]; omega, Nat.le_trans (by cases b <;> decide +kernel) hl⟩
theorem fine_word {m : Nat} (b : Bool) : fine m (.str (if b then ("True" : Str) else "False")) = true ∧ (if b then ("True" : Str) else "False").length ≤ 5 := by
  refine ⟨fine_str.mpr ?_, by cases b <;> decide +kernel⟩
  cases b
  · show ∀ c ∈ cs ("False" : Str), c < 128
    decide +kernel
  · show ∀ c ∈ cs ("True" : Str), c < 128
    decide +kernel
/-- what may not be among a value's parts is there already -/
def Held (D : Addr → Prop) (H : Hp) : Prop := ∀ a, D a → H a ≠ none
theorem Held.ex {D : Addr → Prop} {H H' : Hp} (h : Held D H) (e : Ex H H') : Held D H' := fun a z n => by
  cases c : H a with
  | none => exact h a z c
  | some o => rw [e a o c] at n; cases n
theorem Held.off {D : Addr → Prop} {d : Addr} {n : Int} {H H' : Hp} (h : Held D H) (o : Off d H H') (p : Pot H' d n) : Held D H' := fun a z m => by
  by_cases ad : a = d
  · obtain ⟨g, b, c, h0, _⟩ := p
    rw [ad, h0] at m
    cases m
  · cases c : H a with
    | none => exact h a z c
    | some u => rw [o a u ad c] at m; cases m
theorem Held.new {D : Addr → Prop} {H : Hp} {p : Addr} (h : Held D H) (hp : H p = none) : ¬ D p := fun z => h p z hp
theorem bydo {D : Addr → Prop} {d : Addr} {H H' : Hp} (hD : D d) (o : Off d H H') : Byd D H H' := fun a u n h => o a u (fun z => n (by rw [z]; exact hD)) h
def oddBase : List PyData := [.none, .bool true, .bool false, .int 0, .int 1, .int (-1), .int (10 ^ 30), .str "", .str "a", .str "slot", .str "root", .str "entry", .str "Top", .tuple [], .list [], .dict [], .tuple [.int 0], .tuple [.str "a", .int 0]]
theorem odd_base : ∀ e ∈ oddBase, fine 0 e = true ∧ e.depth ≤ 2 ∧ e.shown.length ≤ 100 := by decide +kernel
def spOdd (K : PySem.W.Frag) : Sp := fun vs H Q _ => ∃ (D : Addr → Prop) (d : Addr) (n : Int) (x : V) (e : PyData) (m k L : Nat), vs = [.ref d, x] ∧ D d ∧ Held D H ∧ Pot H d n ∧ n ≤ 1000000 ∧ Av K D H x e ∧ Siz m (k + 1) L e ∧ m ≤ 900 ∧ L ≤ 100000 ∧
  ∀ H' y e', Off d H H' → Pot H' d (n + 1) → Av K D H' y e' → Siz (m + 1) (k + 2) (40 * L + 400) e' → Q y H'
section
variable {P : Program} {w : World} {K : PySem.W.Frag} {mg : Str → Option Value} {base : Heap}
theorem ok_odd {f fO fT : Addr} {fd fdO fdT : FuncData} (F : Fun K "_law_odd" "_law_odd" sOdd f fd) (FT : Fun K "_law_take" "_law_take" sTake fT fdT) (FO : Fun K "_law_of" "_law_of" sOf fO fdO) (bT : Binds K fdT ["_law_box_here", "_law_many"] []) (bO : Binds K fdO ["_law_box_here", "_law_some"] []) (gT : mg "_law_take" = some (.ref fT)) (gO : mg "_law_of" = some (.ref fO))
    (mL : mg "len" = none) (mI : mg "isinstance" = none) (mT : mg "tuple" = none) (mS : mg "str" = none) (mN : mg "int" = none) (mLi : mg "list" = none) : FnOk P w K mg base CX0 3 f fd ["_law_box_here", "_law_thing"] (spOdd K) := by
  have GO : FnOk P w K mg base CX0 2 fO fdO ["_law_box_here", "_law_some"] spOf := ok_of FO FT bT gT mL
  refine F.ok scOdd (fun vs H Q E h => ?_) (fun cdv A outer s H vs Q E hr h => ?_)
  · obtain ⟨D, d, n, x, e, m, k, L, rfl, _⟩ := h
    rfl
  · obtain ⟨D, d, n, x, e, m, k, L, rfl, hD, hH, hP, hn, hA, hS, hm, hL, q⟩ := h
    refine ⟨_, pss_cons (ps_set (i := 2) scOdd.nd rfl (.inl rfl) (pe_lst (pa_cons pe_non <| pa_cons pe_bl <| pa_cons pe_bl <| pa_cons pe_int <| pa_cons pe_int <| pa_cons (pe_un un_neg pe_int) <| pa_cons (pe_op op_pow pe_int pe_int) <| pa_cons pe_str <| pa_cons pe_str <| pa_cons pe_str <| pa_cons pe_str <| pa_cons pe_str <| pa_cons pe_str <| pa_cons (pe_tup pa_nil) <| pa_cons (pe_lstN pa_nil) <| pa_cons pe_dnewK <| pa_cons (pe_tup (pa_cons pe_int pa_nil)) <| pa_cons (pe_tup (pa_cons pe_str (pa_cons pe_int pa_nil))) pa_nil))) <|
      pss_cons (ps_if (pt_val (pe_callB call_isi (by rfl) mI (by decide +kernel) (pa_cons (pv 1) (pa_cons (pe_bltn (v := .ty "tuple") (by rfl) mT (by decide +kernel) rfl) pa_nil))))
        (pss_one (ps_set (i := 2) scOdd.nd rfl (.inl rfl) (pe_op op_cat (pv 2) (pe_op op_rep (pe_lst (pa_cons (pe_callTy call_listN (by rfl) mLi (by decide +kernel) (pa_cons (pv 1) pa_nil)) <| pa_cons (pe_slice sl_w (pv 1) po_none (po_some (pe_un un_neg pe_int))) <| pa_cons (pe_op op_catW (pv 1) (pe_slice sl_w (pv 1) (po_some (pe_un un_neg pe_int)) po_none)) <| pa_cons (pe_revT (pv 1)) <| pa_cons (pe_tup (pa_cons (pv 1) pa_nil)) <| pa_cons (pe_slice sl_w (pv 1) (po_some pe_int) po_none) pa_nil)) pe_int))))
        (pss_one (ps_if (pt_val (pe_callB call_isi (by rfl) mI (by decide +kernel) (pa_cons (pv 1) (pa_cons (pe_bltn (v := .ty "str") (by rfl) mS (by decide +kernel) rfl) pa_nil))))
          (pss_one (ps_set (i := 2) scOdd.nd rfl (.inl rfl) (pe_op op_cat (pv 2) (pe_op op_rep (pe_lst (pa_cons (pe_op op_add_str (pv 1) pe_str) <| pa_cons (pe_slice C8.sl_txt (pv 1) po_none (po_some (pe_un un_neg pe_int))) <| pa_cons (pe_upper (pv 1)) <| pa_cons (pe_tup (pa_cons (pv 1) pa_nil)) <| pa_cons (pe_lstN (pa_cons (pv 1) pa_nil)) pa_nil)) pe_int))))
          (pss_one (ps_if (pt_val (pe_callB call_isi (by rfl) mI (by decide +kernel) (pa_cons (pv 1) (pa_cons (pe_bltn (v := .ty "int") (by rfl) mN (by decide +kernel) rfl) pa_nil))))
            (pss_one (ps_set (i := 2) scOdd.nd rfl (.inl rfl) (pe_op op_cat (pv 2) (pe_op op_rep (pe_lst (pa_cons (pe_op op_addB (pv 1) pe_int) <| pa_cons (pe_op op_subB (pv 1) pe_int) <| pa_cons (pe_callTy call_strNum (by rfl) mS (by decide +kernel) (pa_cons (pv 1) pa_nil)) <| pa_cons (pe_cmpR op_eqB (pv 1) pe_int (nomark _)) <| pa_cons (pe_tup (pa_cons (pv 1) pa_nil)) pa_nil)) pe_int)))) pss_nil))))) <|
      pss_one (ps_ret (pe_call GO hr (by rfl) gO FO.kp bO .nil pass0 (pa_cons (pv 0) (pa_cons (pv 2) pa_nil)))), ?_⟩
    have e0 := hP
    refine seq_of (asg_of (lst_of (c_of (k_of (c_of (k_of (c_of (k_of (c_of (k_of (c_of (k_of (c_of (unO_of (k_of ⟨1, rfl, c_of (op_of (k_of (k_of ⟨10, 30, rfl, rfl, ⟨by decide, by decide, by decide⟩, c_of (k_of (c_of (k_of (c_of (k_of (c_of (k_of (c_of (k_of (c_of (k_of (c_of (tup_of (n_of ⟨Nat.zero_le _, fun p1 hp1 => c_of (lstN_of (n_of ⟨Nat.zero_le _, fun p2 hp2 ns2 => c_of (newK_of fun p3 hp3 => c_of (tup_of (c_of (k_of (n_of ⟨by show 1 ≤ sizeLine; decide, fun p4 hp4 => c_of (tup_of (c_of (k_of (c_of (k_of (n_of ⟨by show 2 ≤ sizeLine; decide, fun p5 hp5 => n_of ⟨by show 18 ≤ sizeLine; decide, fun l hl => ?_⟩⟩))))))⟩)))))⟩))⟩))))))))))))))⟩)))⟩)))))))))))))))
    have x1 : Ex H (upd H p1 (.tup [])) := Ex.new hp1
    have a1 : (upd H p1 (.tup [])) p1 = some (.tup []) := upd_same
    generalize upd H p1 (.tup []) = H1 at x1 a1 hp2 hp3 hp4 hp5 hl ⊢
    have x2 : Ex H1 (upd H1 p2 (.lst [])) := Ex.new hp2
    have a2 : (upd H1 p2 (.lst [])) p2 = some (.lst []) := upd_same
    generalize upd H1 p2 (.lst []) = H2 at x2 a2 hp3 hp4 hp5 hl ⊢
    have x3 : Ex H2 (upd H2 p3 (.dK [])) := Ex.new hp3
    have a3 : (upd H2 p3 (.dK [])) p3 = some (.dK []) := upd_same
    generalize upd H2 p3 (.dK []) = H3 at x3 a3 hp4 hp5 hl ⊢
    have x4 : Ex H3 (upd H3 p4 (.tup [.int 0])) := Ex.new hp4
    have a4 : (upd H3 p4 (.tup [.int 0])) p4 = some (.tup [.int 0]) := upd_same
    generalize upd H3 p4 (.tup [.int 0]) = H4 at x4 a4 hp5 hl ⊢
    have x5 : Ex H4 (upd H4 p5 (.tup [.str "a", .int 0])) := Ex.new hp5
    have a5 : (upd H4 p5 (.tup [.str "a", .int 0])) p5 = some (.tup [.str "a", .int 0]) := upd_same
    generalize upd H4 p5 (.tup [.str "a", .int 0]) = H5 at x5 a5 hl ⊢
    have n1 := hH.new hp1
    have n2 := (hH.ex x1).new hp2
    have n3 := (hH.ex (x1.trans x2)).new hp3
    have n4 := (hH.ex ((x1.trans x2).trans x3)).new hp4
    have n5 := (hH.ex (((x1.trans x2).trans x3).trans x4)).new hp5
    have nl := (hP.ex ((((x1.trans x2).trans x3).trans x4).trans x5)).ne hl
    have x6 : Ex H5 (upd H5 l (.lst [.non, .bl true, .bl false, .int 0, .int 1, .int (-1), .int (10 ^ (30 : Int).toNat), .str "", .str "a", .str "slot", .str "root", .str "entry", .str "Top", .ref p1, .ref p2, .ref p3, .ref p4, .ref p5])) := Ex.new hl
    have a6 : (upd H5 l (.lst [.non, .bl true, .bl false, .int 0, .int 1, .int (-1), .int (10 ^ (30 : Int).toNat), .str "", .str "a", .str "slot", .str "root", .str "entry", .str "Top", .ref p1, .ref p2, .ref p3, .ref p4, .ref p5])) l = some (.lst [.non, .bl true, .bl false, .int 0, .int 1, .int (-1), .int (10 ^ (30 : Int).toNat), .str "", .str "a", .str "slot", .str "root", .str "entry", .str "Top", .ref p1, .ref p2, .ref p3, .ref p4, .ref p5]) := upd_same
    have av0 : AvAll K D H5 [.non, .bl true, .bl false, .int 0, .int 1, .int (-1), .int (10 ^ (30 : Int).toNat), .str "", .str "a", .str "slot", .str "root", .str "entry", .str "Top", .ref p1, .ref p2, .ref p3, .ref p4, .ref p5] oddBase :=
      .cons .non (.cons (.bl _) (.cons (.bl _) (.cons (.int _) (.cons (.int _) (.cons (.int _) (.cons (.int _) (.cons (.str _) (.cons (.str _) (.cons (.str _) (.cons (.str _) (.cons (.str _) (.cons (.str _)
        (.cons (.tup n1 (sp_of ((((x2.trans x3).trans x4).trans x5) _ _ a1)) .nil) (.cons (.lst ns2 n2 (((x3.trans x4).trans x5) _ _ a2) .nil) (.cons (.dnil n3 ((x4.trans x5) _ _ a3)) (.cons (.tup n4 (sp_of (x5 _ _ a4)) (.cons (.int _) .nil)) (.cons (.tup n5 (sp_of a5) (.cons (.str _) (.cons (.int _) .nil))) .nil)))))))))))))))))
    generalize ([.non, .bl true, .bl false, .int 0, .int 1, .int (-1), .int (10 ^ (30 : Int).toNat), .str "", .str "a", .str "slot", .str "root", .str "entry", .str "Top", .ref p1, .ref p2, .ref p3, .ref p4, .ref p5] : List V) = xs0 at x6 a6 av0 ⊢
    have xl0 : xs0.length = 18 := av0.len
    have x06 : Ex H (upd H5 l (.lst xs0)) := ((((x1.trans x2).trans x3).trans x4).trans x5).trans x6
    have av6 := av0.ex x6
    generalize upd H5 l (.lst xs0) = H6 at x06 x6 a6 av6 ⊢
    clear a1 a2 a3 a4 a5 x1 x2 x3 x4 x5 x6 av0 hp1 hp2 hp3 hp4 hp5 hl n1 n2 n3 n4 n5
    have hA6 := hA.ex x06
    dsimp only
    refine seq_join (fun σ' H' => ∃ l' xs es, σ' = [some (.ref d), some x, some (.ref l')] ∧ Ex H H' ∧ l' ≠ d ∧ H' l' = some (.lst xs) ∧ AvAll K D H' xs es ∧ 0 < xs.length ∧ xs.length ≤ 100 ∧ ∀ e' ∈ es, Siz (m + 1) (k + 2) (40 * L + 400) e') (fun tail => ?_) ?_
    · refine seq_of (ifS_of (test_of (cb_of (c_of (v_of rfl (c_of (k_of (n_of ⟨x, .ty "tuple", _, _, isTup e, rfl, .ty "tuple", ty_av hA6, kit_ty (kit_tup e), isTup e, rfl, ?_⟩)))))))) 
      cases ct : isTup e with
      | true =>
        rw [if_pos rfl]
        obtain ⟨ds, rfl⟩ := tup_is ct
        obtain ⟨a, ys, rfl, na, hs, hds⟩ := hA6.inv_tupP
        obtain ⟨k', ek, sds, sL⟩ := hS.items
        have ll := hds.len
        have l2 := shsum_len ds
        refine asg_of (op_of (v_of rfl (op_of (lst_of (c_of (cb_of (c_of (v_of rfl (n_of ⟨a, ys, rfl, hs.sq, fun b1 hb1 sb1 => c_of (v_of rfl ⟨1, rfl, -1, rfl, a, ys, rfl, ex_p (Ex.new hb1) hs, fun p2 G2 e2 h2 o2 => c_of (op_of (v_of rfl (v_of rfl ⟨1, rfl, -1, rfl, a, ys, rfl, ex_p ((Ex.new hb1).trans e2) hs, fun p3 G3 e3 h3 o3 => ⟨a, p3, ys, _, rfl, rfl, ex_p (((Ex.new hb1).trans e2).trans e3) hs, h3, ?_, fun p4 G4 e4 h4 o4 => c_of (revs_of (v_of rfl ⟨a, ys, rfl, (ex_p ((((Ex.new hb1).trans e2).trans e3).trans e4) hs).sq, by omega, fun p5 hp5 => c_of (tup_of (c_of (v_of rfl (n_of ⟨by show 1 ≤ sizeLine; decide, fun p6 hp6 => c_of (v_of rfl ⟨1, rfl, a, ys, rfl, ?_, fun p7 G7 e7 h7 o7 => n_of ⟨by show 6 ≤ sizeLine; decide, fun lb hlb => k_of ⟨lb, 2, _, rfl, rfl, upd_same, by decide, by decide, by show 6 * 2 ≤ sizeLine; decide, fun lc hlc => ⟨l, lc, xs0, _, rfl, rfl, ?_, upd_same, ?_, fun lo hlo => ?_⟩⟩⟩⟩)⟩))))⟩))⟩⟩)))⟩)⟩)))))))))
        · have := cut_len ys (some (-1)) none
          rw [sizeLine_eq]
          omega
        · exact ex_p ((((((Ex.new hb1).trans e2).trans e3).trans e4).trans (Ex.new hp5)).trans (Ex.new hp6)) hs
        · have y1 := ((((((Ex.new hb1).trans e2).trans e3).trans e4).trans (Ex.new hp5)).trans (Ex.new hp6)).trans e7
          exact ((y1.trans (Ex.new hlb)).trans (Ex.new hlc)) _ _ a6
        · show xs0.length + 12 ≤ sizeLine
          rw [xl0]
          decide
        have y1 : Ex H6 G4 := (((Ex.new hb1).trans e2).trans e3).trans e4
        have y5 := Ex.new hp5 (o := .tup (revs ys))
        have y6 := Ex.new hp6 (o := .tup [.ref a])
        have y7 : Ex G4 G7 := (y5.trans y6).trans e7
        have yG : Ex H6 G7 := y1.trans y7
        have pd : ∀ {G : Hp}, Ex H6 G → ∀ {p : Addr}, G p = none → ¬ D p := fun e p hp => (hH.ex (x06.trans e)).new hp
        obtain ⟨f2, af2, m2, w2⟩ := hds.cut none (some (-1))
        obtain ⟨f3, af3, m3, w3⟩ := hds.cut (some (-1)) none
        obtain ⟨f7, af7, m7, w7⟩ := hds.cut (some 1) none
        have s2 := sds.sub m2
        have s3 := sds.sub m3
        have s7 := sds.sub m7
        have nb1 : ¬ D b1 := pd (Ex.refl H6) hb1
        have np2 : ¬ D p2 := o2.elim (fun z => by rw [z]; exact na) (pd (Ex.new hb1))
        have np3 : ¬ D p3 := o3.elim (fun z => by rw [z]; exact na) (pd ((Ex.new hb1).trans e2))
        have np4 : ¬ D p4 := o4.elim (fun z => by rw [z]; exact na) fun z => z.elim (fun z => by rw [z]; exact np3) (pd (((Ex.new hb1).trans e2).trans e3))
        have np5 : ¬ D p5 := pd y1 hp5
        have np6 : ¬ D p6 := pd (y1.trans y5) hp6
        have np7 : ¬ D p7 := o7.elim (fun z => by rw [z]; exact na) (pd ((y1.trans y5).trans y6))
        have hdG : AvAll K D G7 ys ds := hds.ex yG
        have items : AvAll K D G7 [.ref b1, .ref p2, .ref p4, .ref p5, .ref p6, .ref p7] [.list ds, .tuple f2, .tuple (ds ++ f3), .tuple ds.reverse, .tuple [.tuple ds], .tuple f7] := by
          refine .cons (.lst sb1 nb1 ((((e2.trans e3).trans e4).trans y7) _ _ upd_same) hdG) (.cons (.tup np2 (ex_p ((e3.trans e4).trans y7) h2) (af2.ex yG)) (.cons (.tup np4 (ex_p y7 h4) (AvAll.app (af3.ex yG) hdG)) (.cons (.tup np5 (sp_of ((y6.trans e7) _ _ upd_same)) ?_) (.cons (.tup np6 (sp_of (e7 _ _ upd_same)) (.cons (.tup na (ex_p yG hs) hdG) .nil)) (.cons (.tup np7 h7 (af7.ex yG)) .nil)))))
          rw [revs_is]
          exact hdG.rev
        have eF := ((Ex.new hlb (o := .lst [.ref b1, .ref p2, .ref p4, .ref p5, .ref p6, .ref p7])).trans (Ex.new hlc)).trans (Ex.new hlo (o := .lst (xs0 ++ (List.replicate (Int.toNat 2) [V.ref b1, V.ref p2, V.ref p4, V.ref p5, V.ref p6, V.ref p7]).flatten)))
        have itF := items.ex eF
        have nlo : lo ≠ d := (hP.ex (x06.trans (yG.trans ((Ex.new hlb).trans (Ex.new hlc))))).ne hlo
        refine tail _ _ ⟨lo, _, _, rfl, (x06.trans yG).trans eF, nlo, upd_same, AvAll.app (AvAll.app (AvAll.app .nil itF) itF) (av6.ex (yG.trans eF)), by rw [List.length_append, xl0]; omega, ?_, ?_⟩
        · rw [List.length_append, xl0]
          show 18 + 12 ≤ 100
          decide
        · intro e' he'
          have sB : ∀ e' ∈ [PyData.list ds, .tuple f2, .tuple (ds ++ f3), .tuple ds.reverse, .tuple [.tuple ds], .tuple f7], Siz (m + 1) (k + 2) (40 * L + 400) e' := by
            have kk : k' = k := by omega
            subst kk
            have b1 := shsum_app ds f3
            have b2 := shsum_rev ds
            intro e' h
            simp only [List.mem_cons, List.not_mem_nil, or_false] at h
            rcases h with rfl | rfl | rfl | rfl | rfl | rfl
            · exact sds.lst.up (by omega) (by omega) (by omega)
            · exact s2.tup.up (by omega) (by omega) (by omega)
            · exact (sds.app s3).tup.up (by omega) (by omega) (by omega)
            · exact (sds.sub (ys := ds.reverse) (fun y h => List.mem_reverse.mp h)).tup.up (by omega) (by omega) (by omega)
            · have := (SizAll.one hS).tup
              refine this.up (by omega) (by omega) ?_
              have := hS.l
              show ((PyData.tuple ds).shown.length + 2 + 0) + 2 ≤ _
              omega
            · exact s7.tup.up (by omega) (by omega) (by omega)
          rcases List.mem_append.mp he' with h | h
          · obtain ⟨g1, g2, g3⟩ := odd_base e' h
            exact ⟨fine_mono (by omega) _ g1, by omega, by omega⟩
          · refine sB e' ?_
            rcases List.mem_append.mp h with h | h
            · exact h
            · rcases List.mem_append.mp h with h | h
              · exact h
              · exact absurd h List.not_mem_nil
      | false =>
        rw [if_neg Bool.false_ne_true]
        refine ifS_of (test_of (cb_of (c_of (v_of rfl (c_of (k_of (n_of ⟨x, .ty "str", _, _, isStr e, rfl, .ty "str", ty_av hA6, kit_ty (kit_str e), isStr e, rfl, ?_⟩)))))))
        cases c2 : isStr e with
        | true =>
          rw [if_pos rfl]
          obtain ⟨z, rfl⟩ := str_is c2
          obtain rfl : x = .str z := by cases hA6; rfl
          have fz := hS.f
          have zl := Nat.le_trans (str_ge z) hS.l
          obtain ⟨fa, la⟩ := fine_add fz
          obtain ⟨fc, lc'⟩ := fine_cut fz
          obtain ⟨fu, lu⟩ := fine_up fz
          refine asg_of (op_of (v_of rfl (op_of (lst_of (c_of (op_of (v_of rfl (k_of ⟨z, "s", rfl, rfl, by rw [sizeLine_eq]; show z.length + 1 ≤ _; omega, c_of (v_of rfl ⟨1, rfl, -1, rfl, z, rfl, by rw [sizeLine_eq]; omega, c_of (m0_of (v_of rfl ⟨⟨_, rfl⟩, z, rfl, rfl, by omega, c_of (tup_of (c_of (v_of rfl (n_of ⟨by show 1 ≤ sizeLine; decide, fun p1 hp1 => c_of (lstN_of (c_of (v_of rfl (n_of ⟨by show 1 ≤ sizeLine; decide, fun p2 hp2 ns2 => n_of ⟨by show 5 ≤ sizeLine; decide, fun lb hlb => k_of ⟨lb, 2, _, rfl, rfl, upd_same, by decide, by decide, by show 5 * 2 ≤ sizeLine; decide, fun lc hlc => ⟨l, lc, xs0, _, rfl, rfl, ?_, upd_same, ?_, fun lo hlo => ?_⟩⟩⟩⟩))))⟩))))⟩))⟩)⟩))))))))
          · exact (((Ex.new hp1).trans (Ex.new hp2)).trans ((Ex.new hlb).trans (Ex.new hlc))) _ _ a6
          · show xs0.length + 10 ≤ sizeLine
            rw [xl0]
            decide
          have y1 := Ex.new hp1 (o := .tup [V.str z])
          have y2 := Ex.new hp2 (o := .lst [V.str z])
          have yG := y1.trans y2
          have pd : ∀ {G : Hp}, Ex H6 G → ∀ {p : Addr}, G p = none → ¬ D p := fun e p hp => (hH.ex (x06.trans e)).new hp
          have items : AvAll K D _ [V.str (z ++ "s"), V.str (Txt.slice z none (some (-1))), V.str (Txt.upper z), .ref p1, .ref p2] [.str (z ++ "s"), .str (Txt.slice z none (some (-1))), .str (Txt.upper z), .tuple [.str z], .list [.str z]] :=
            .cons (.str _) (.cons (.str _) (.cons (.str _) (.cons (.tup (pd (Ex.refl H6) hp1) (sp_of (y2 _ _ upd_same)) (.cons (.str z) .nil)) (.cons (.lst ns2 (pd y1 hp2) upd_same (.cons (.str z) .nil)) .nil))))
          have sB : ∀ e' ∈ [PyData.str (z ++ "s"), .str (Txt.slice z none (some (-1))), .str (Txt.upper z), .tuple [.str z], .list [.str z]], Siz (m + 1) (k + 2) (40 * L + 400) e' := by
            have one : SizAll m (k + 1) [PyData.str z] := SizAll.one hS
            have ow : shsum [PyData.str z] = (PyData.str z).shown.length + 2 + 0 := rfl
            have hl := hS.l
            intro e' h
            simp only [List.mem_cons, List.not_mem_nil, or_false] at h
            rcases h with rfl | rfl | rfl | rfl | rfl
            · exact siz_str (fine_mono (by omega) _ fa) (by omega) (by omega)
            · exact siz_str (fine_mono (by omega) _ fc) (by omega) (by omega)
            · exact siz_str (fine_mono (by omega) _ fu) (by omega) (by omega)
            · exact one.tup.up (by omega) (by omega) (by omega)
            · exact one.lst.up (by omega) (by omega) (by omega)
          have eF := ((Ex.new hlb (o := .lst [V.str (z ++ "s"), V.str (Txt.slice z none (some (-1))), V.str (Txt.upper z), V.ref p1, V.ref p2])).trans (Ex.new hlc)).trans (Ex.new hlo (o := .lst (xs0 ++ (List.replicate (Int.toNat 2) [V.str (z ++ "s"), V.str (Txt.slice z none (some (-1))), V.str (Txt.upper z), V.ref p1, V.ref p2]).flatten)))
          have itF := items.ex eF
          have nlo : lo ≠ d := (hP.ex (x06.trans (yG.trans ((Ex.new hlb).trans (Ex.new hlc))))).ne hlo
          refine tail _ _ ⟨lo, _, _, rfl, (x06.trans yG).trans eF, nlo, upd_same, AvAll.app (AvAll.app (AvAll.app .nil itF) itF) (av6.ex (yG.trans eF)), by rw [List.length_append, xl0]; omega, ?_, ?_⟩
          · rw [List.length_append, xl0]
            show 18 + 10 ≤ 100
            decide
          · intro e' he'
            rcases List.mem_append.mp he' with h | h
            · obtain ⟨g1, g2, g3⟩ := odd_base e' h
              exact ⟨fine_mono (by omega) _ g1, by omega, by omega⟩
            · refine sB e' ?_
              rcases List.mem_append.mp h with h | h
              · exact h
              · rcases List.mem_append.mp h with h | h
                · exact h
                · exact absurd h List.not_mem_nil
        | false =>
          rw [if_neg Bool.false_ne_true]
          refine ifS_of (test_of (cb_of (c_of (v_of rfl (c_of (k_of (n_of ⟨x, .ty "int", _, _, isInt e, rfl, .ty "int", ty_av hA6, kit_ty (kit_int e), isInt e, rfl, ?_⟩)))))))
          cases c3 : isInt e with
          | true =>
            rw [if_pos rfl]
            have two : (∃ i, e = .int i) ∨ ∃ b, e = .bool b := by cases e <;> first | exact .inl ⟨_, rfl⟩ | exact .inr ⟨_, rfl⟩ | cases c3
            rcases two with ⟨i, rfl⟩ | ⟨b, rfl⟩
            · obtain rfl : x = .int i := by cases hA6; rfl
              have fi := hS.f
              have fi' := fi
              rw [fine] at fi'
              have fi' := of_decide_eq_true fi'
              have ft : fine (m + 1) (.str ((toString i : String) : Str)) = true := fine_dig i
              have tl : ((toString i : String) : Str).length ≤ 32 := by
                rw [len_cs]
                exact dig_len (by omega)
              refine asg_of (op_of (v_of rfl (op_of (lst_of (c_of (op_of (v_of rfl (k_of ⟨i, 1, rfl, rfl, c_of (op_of (v_of rfl (k_of ⟨i, 1, rfl, rfl, c_of (cb_of (c_of (v_of rfl (n_of (.inl ⟨i, rfl, log_small (by omega), c_of (op_of (v_of rfl (k_of ⟨i, 1, rfl, rfl, c_of (tup_of (c_of (v_of rfl (n_of ⟨by show 1 ≤ sizeLine; decide, fun p1 hp1 => n_of ⟨by show 5 ≤ sizeLine; decide, fun lb hlb => k_of ⟨lb, 2, _, rfl, rfl, upd_same, by decide, by decide, by show 5 * 2 ≤ sizeLine; decide, fun lc hlc => ⟨l, lc, xs0, _, rfl, rfl, ?_, upd_same, ?_, fun lo hlo => ?_⟩⟩⟩⟩))))⟩)))⟩)))))⟩)))⟩))))))))
              · exact ((Ex.new hp1).trans ((Ex.new hlb).trans (Ex.new hlc))) _ _ a6
              · show xs0.length + 10 ≤ sizeLine
                rw [xl0]
                decide
              have yG := Ex.new hp1 (o := .tup [V.int i])
              have pd : ∀ {G : Hp}, Ex H6 G → ∀ {p : Addr}, G p = none → ¬ D p := fun e p hp => (hH.ex (x06.trans e)).new hp
              have items : AvAll K D (upd H6 p1 (.tup [V.int i])) [V.int (i + 1), V.int (i - 1), V.str ((toString i : String) : Str), V.bl (i == 1), V.ref p1] [PyData.int (i + 1), .int (i - 1), .str ((toString i : String) : Str), .bool (i == 1), .tuple [.int i]] :=
                .cons (.int _) (.cons (.int _) (.cons (.str _) (.cons (.bl _) (.cons (.tup (pd (Ex.refl H6) hp1) (sp_of upd_same) (.cons (.int i) .nil)) .nil))))
              have sB : ∀ e' ∈ [PyData.int (i + 1), .int (i - 1), .str ((toString i : String) : Str), .bool (i == 1), .tuple [.int i]], Siz (m + 1) (k + 2) (40 * L + 400) e' := by
                have one : SizAll m (k + 1) [.int i] := SizAll.one hS
                have ow : shsum [.int i] = (.int i : PyData).shown.length + 2 + 0 := rfl
                have hl := hS.l
                intro e' h
                simp only [List.mem_cons, List.not_mem_nil, or_false] at h
                rcases h with rfl | rfl | rfl | rfl | rfl
                · exact siz_int (fine_int fi (by omega)) (by omega) (by omega)
                · exact siz_int (fine_int fi (by omega)) (by omega) (by omega)
                · exact siz_str ft (by omega) (by omega)
                · exact siz_bool _ (by omega)
                · exact one.tup.up (by omega) (by omega) (by omega)
              have eF := ((Ex.new hlb (o := .lst [V.int (i + 1), V.int (i - 1), V.str ((toString i : String) : Str), V.bl (i == 1), V.ref p1])).trans (Ex.new hlc)).trans (Ex.new hlo (o := .lst (xs0 ++ (List.replicate (Int.toNat 2) [V.int (i + 1), V.int (i - 1), V.str ((toString i : String) : Str), V.bl (i == 1), V.ref p1]).flatten)))
              have itF := items.ex eF
              have nlo : lo ≠ d := (hP.ex (x06.trans (yG.trans ((Ex.new hlb).trans (Ex.new hlc))))).ne hlo
              refine tail _ _ ⟨lo, _, _, rfl, (x06.trans yG).trans eF, nlo, upd_same, AvAll.app (AvAll.app (AvAll.app .nil itF) itF) (av6.ex (yG.trans eF)), by rw [List.length_append, xl0]; omega, ?_, ?_⟩
              · rw [List.length_append, xl0]
                show 18 + 10 ≤ 100
                decide
              · intro e' he'
                rcases List.mem_append.mp he' with h | h
                · obtain ⟨g1, g2, g3⟩ := odd_base e' h
                  exact ⟨fine_mono (by omega) _ g1, by omega, by omega⟩
                · refine sB e' ?_
                  rcases List.mem_append.mp h with h | h
                  · exact h
                  · rcases List.mem_append.mp h with h | h
                    · exact h
                    · exact absurd h List.not_mem_nil
            · obtain rfl : x = .bl b := by cases hA6; rfl
              have fi : fine m (.int (if b = true then 1 else 0)) = true := by
                rw [fine]
                have z : (if b = true then (1 : Int) else 0).natAbs ≤ 1 := by cases b <;> decide
                exact decide_eq_true (by omega)
              obtain ⟨ft, tl⟩ := fine_word (m := m + 1) b
              refine asg_of (op_of (v_of rfl (op_of (lst_of (c_of (op_of (v_of rfl (k_of ⟨(if b = true then (1 : Int) else 0), 1, rfl, rfl, c_of (op_of (v_of rfl (k_of ⟨(if b = true then (1 : Int) else 0), 1, rfl, rfl, c_of (cb_of (c_of (v_of rfl (n_of (.inr ⟨b, rfl, c_of (op_of (v_of rfl (k_of ⟨(if b = true then (1 : Int) else 0), 1, rfl, rfl, c_of (tup_of (c_of (v_of rfl (n_of ⟨by show 1 ≤ sizeLine; decide, fun p1 hp1 => n_of ⟨by show 5 ≤ sizeLine; decide, fun lb hlb => k_of ⟨lb, 2, _, rfl, rfl, upd_same, by decide, by decide, by show 5 * 2 ≤ sizeLine; decide, fun lc hlc => ⟨l, lc, xs0, _, rfl, rfl, ?_, upd_same, ?_, fun lo hlo => ?_⟩⟩⟩⟩))))⟩)))⟩)))))⟩)))⟩))))))))
              · exact ((Ex.new hp1).trans ((Ex.new hlb).trans (Ex.new hlc))) _ _ a6
              · show xs0.length + 10 ≤ sizeLine
                rw [xl0]
                decide
              have yG := Ex.new hp1 (o := .tup [V.bl b])
              have pd : ∀ {G : Hp}, Ex H6 G → ∀ {p : Addr}, G p = none → ¬ D p := fun e p hp => (hH.ex (x06.trans e)).new hp
              have items : AvAll K D (upd H6 p1 (.tup [V.bl b])) [V.int ((if b = true then (1 : Int) else 0) + 1), V.int ((if b = true then (1 : Int) else 0) - 1), V.str (if b then ("True" : Str) else "False"), V.bl ((if b = true then (1 : Int) else 0) == 1), V.ref p1] [PyData.int ((if b = true then (1 : Int) else 0) + 1), .int ((if b = true then (1 : Int) else 0) - 1), .str (if b then ("True" : Str) else "False"), .bool ((if b = true then (1 : Int) else 0) == 1), .tuple [.bool b]] :=
                .cons (.int _) (.cons (.int _) (.cons (.str _) (.cons (.bl _) (.cons (.tup (pd (Ex.refl H6) hp1) (sp_of upd_same) (.cons (.bl b) .nil)) .nil))))
              have sB : ∀ e' ∈ [PyData.int ((if b = true then (1 : Int) else 0) + 1), .int ((if b = true then (1 : Int) else 0) - 1), .str (if b then ("True" : Str) else "False"), .bool ((if b = true then (1 : Int) else 0) == 1), .tuple [.bool b]], Siz (m + 1) (k + 2) (40 * L + 400) e' := by
                have one : SizAll m (k + 1) [.bool b] := SizAll.one hS
                have ow : shsum [.bool b] = (.bool b : PyData).shown.length + 2 + 0 := rfl
                have hl := hS.l
                intro e' h
                simp only [List.mem_cons, List.not_mem_nil, or_false] at h
                rcases h with rfl | rfl | rfl | rfl | rfl
                · exact siz_int (fine_int fi (by omega)) (by omega) (by omega)
                · exact siz_int (fine_int fi (by omega)) (by omega) (by omega)
                · exact siz_str ft (by omega) (by omega)
                · exact siz_bool _ (by omega)
                · exact one.tup.up (by omega) (by omega) (by omega)
              have eF := ((Ex.new hlb (o := .lst [V.int ((if b = true then (1 : Int) else 0) + 1), V.int ((if b = true then (1 : Int) else 0) - 1), V.str (if b then ("True" : Str) else "False"), V.bl ((if b = true then (1 : Int) else 0) == 1), V.ref p1])).trans (Ex.new hlc)).trans (Ex.new hlo (o := .lst (xs0 ++ (List.replicate (Int.toNat 2) [V.int ((if b = true then (1 : Int) else 0) + 1), V.int ((if b = true then (1 : Int) else 0) - 1), V.str (if b then ("True" : Str) else "False"), V.bl ((if b = true then (1 : Int) else 0) == 1), V.ref p1]).flatten)))
              have itF := items.ex eF
              have nlo : lo ≠ d := (hP.ex (x06.trans (yG.trans ((Ex.new hlb).trans (Ex.new hlc))))).ne hlo
              refine tail _ _ ⟨lo, _, _, rfl, (x06.trans yG).trans eF, nlo, upd_same, AvAll.app (AvAll.app (AvAll.app .nil itF) itF) (av6.ex (yG.trans eF)), by rw [List.length_append, xl0]; omega, ?_, ?_⟩
              · rw [List.length_append, xl0]
                show 18 + 10 ≤ 100
                decide
              · intro e' he'
                rcases List.mem_append.mp he' with h | h
                · obtain ⟨g1, g2, g3⟩ := odd_base e' h
                  exact ⟨fine_mono (by omega) _ g1, by omega, by omega⟩
                · refine sB e' ?_
                  rcases List.mem_append.mp h with h | h
                  · exact h
                  · rcases List.mem_append.mp h with h | h
                    · exact h
                    · exact absurd h List.not_mem_nil
          | false =>
            rw [if_neg Bool.false_ne_true]
            exact tail _ _ ⟨l, xs0, oddBase, rfl, x06, nl, a6, av6, by omega, by omega, fun e' h => by
              obtain ⟨g1, g2, g3⟩ := odd_base e' h
              exact ⟨fine_mono (by omega) _ g1, by omega, by omega⟩⟩
    · rintro σ' Ha ⟨l', xs, es, rfl, ea, nl', hl', av, z0, z1, sz⟩
      refine ret_of (call_of (c_of (v_of rfl (c_of (v_of rfl (n_of ⟨d, l', n, xs, rfl, hP.ex ea, hn, nl', hl', z0, by omega, fun H' y hy o p => ?_⟩))))))
      obtain ⟨i, hi⟩ := List.getElem?_of_mem hy
      obtain ⟨e', he', hv⟩ := av.get hi
      exact q H' y e' ((Off.of ea).trans o) p (Av.keep (bydo hD o) hv) (sz e' (List.mem_of_getElem? he'))
end
end Sn
/-! a value bent at one place -/
namespace Sn
open PySem PySem.Spec PyProof.Rows L2 Evl Gd
abbrev sBent : Stmt := topS 31
abbrev nBent : List Str := ["_law_box_here", "_law_thing", "_law_at"]
theorem scBent : FnScope nBent ["_law_box_here", "_law_thing"] (defScope sBent) := ⟨rfl, rfl, rfl, by decide +kernel, rfl, by decide +kernel, by decide +kernel⟩
/-- how long it may be, shown -/
def bentL (L j : Nat) : Nat := 40 * L + 400 + j * (L + 10)
theorem bentL_up (L j : Nat) : bentL L (j + 1) = bentL L j + L + 10 := by
  unfold bentL
  rw [Nat.add_mul, Nat.one_mul]
  generalize j * (L + 10) = z
  omega
def spBent (K : PySem.W.Frag) (j : Nat) : Sp := fun vs H Q _ => ∃ (D : Addr → Prop) (d : Addr) (n : Int) (x : V) (e : PyData) (m L : Nat), vs = [.ref d, x] ∧ D d ∧ Held D H ∧ Pot H d n ∧ n ≤ 999000 - 3 * (j : Int) ∧ Av K D H x e ∧ Siz m j L e ∧ m ≤ 900 ∧ L ≤ 100000 ∧
  ∀ H' y e', Off d H H' → Pot H' d (n + 3 * ((j : Int) + 1)) → Av K D H' y e' → Siz (m + 1) (j + 2) (bentL L j) e' → Q y H'
theorem cut_to {xs : List V} {r : Int} (h : 0 ≤ r) (h2 : r < xs.length) : cutV xs none (some r) = xs.take r.toNat := by
  unfold cutV HT.sIx
  simp only [if_neg (show ¬ r < 0 by omega), List.drop_zero, Nat.sub_zero]
  rw [Nat.min_eq_left (by omega)]
theorem cut_from {xs : List V} {r : Int} (h : 0 ≤ r) (h2 : r ≤ xs.length) : cutV xs (some r) none = xs.drop r.toNat := by
  unfold cutV HT.sIx
  simp only [if_neg (show ¬ r < 0 by omega)]
  rw [Nat.min_eq_left (by omega), List.take_of_length_le (by rw [List.length_drop]; exact Nat.le_refl _)]
section
variable {P : Program} {w : World} {K : PySem.W.Frag} {mg : Str → Option Value} {base : Heap}
theorem bent_step {f fT fD : Addr} {fd fdT fdD : FuncData} (F : Fun K "_law_bent" "_law_bent" sBent f fd) (FT : Fun K "_law_take" "_law_take" sTake fT fdT) (FD : Fun K "_law_odd" "_law_odd" sOdd fD fdD) (bF : Binds K fd ["_law_box_here", "_law_thing"] []) (bT : Binds K fdT ["_law_box_here", "_law_many"] []) (bD : Binds K fdD ["_law_box_here", "_law_thing"] [])
    (gF : mg "_law_bent" = some (.ref f)) (gT : mg "_law_take" = some (.ref fT)) (gD : mg "_law_odd" = some (.ref fD)) (mL : mg "len" = none) (mI : mg "isinstance" = none) (mTu : mg "tuple" = none)
    (GD' : FnOk P w K mg base CX0 3 fD fdD ["_law_box_here", "_law_thing"] (spOdd K)) (j : Nat) (spR : Sp) (R : FnOk P w K mg base CX0 (3 + j) f fd ["_law_box_here", "_law_thing"] spR) (hR : ∀ i, j = i + 1 → spR = spBent K i) : FnOk P w K mg base CX0 (3 + j + 1) f fd ["_law_box_here", "_law_thing"] (spBent K j) := by
  have GT : FnOk P w K mg base CX0 (3 + j) fT fdT ["_law_box_here", "_law_many"] spTake := (ok_take FT).mono (by omega)
  have GD : FnOk P w K mg base CX0 (3 + j) fD fdD ["_law_box_here", "_law_thing"] (spOdd K) := GD'.mono (by omega)
  refine F.ok scBent (fun vs H Q E h => ?_) (fun cdv A outer s H vs Q E hr h => ?_)
  · obtain ⟨D, d, n, x, e, m, L, rfl, _⟩ := h
    rfl
  · obtain ⟨D, d, n, x, e, m, L, rfl, hD, hH, hP, hn, hA, hS, hm, hL, q⟩ := h
    refine ⟨_, pss_cons (ps_if (pw_or (pt_not (pt_val (pe_callB call_isi (by rfl) mI (by decide +kernel) (pa_cons (pv 1) (pa_cons (pe_bltn (v := .ty "tuple") (by rfl) mTu (by decide +kernel) rfl) pa_nil))))) (pw_or (pt_cmpR (op_eqT0 (Nat.lt_of_le_of_lt (Nat.le_add_right _ 64) hr.units)) (pv 1) (pe_tup pa_nil) (nomark _)) (pw_or1 (pt_cmpR op_eq (pe_call GT hr (by rfl) gT FT.kp bT .nil pass0 (pa_cons (pv 0) (pa_cons pe_int pa_nil))) pe_int (nomark _))))).pt
        (pss_one (ps_ret (pe_call GD hr (by rfl) gD FD.kp bD .nil pass0 (pa_cons (pv 0) (pa_cons (pv 1) pa_nil))))) pss_nil) <|
      pss_cons (ps_set (i := 2) scBent.nd rfl (.inl rfl) (pe_call GT hr (by rfl) gT FT.kp bT .nil pass0 (pa_cons (pv 0) (pa_cons (pe_callB call_len_seq (by rfl) mL PySem.boot_len (pa_cons (pv 1) pa_nil)) pa_nil)))) <|
      pss_one (ps_ret (pe_op op_catW (pe_op op_catW (pe_slice sl_w (pv 1) po_none (po_some (pv 2))) (pe_tup (pa_cons (pe_call R hr (by rfl) gF F.kp bF .nil pass0 (pa_cons (pv 0) (pa_cons (pe_ix ix_tup (pv 1) (pv 2) (fun _ _ => rfl)) pa_nil))) pa_nil))) (pe_slice sl_w (pv 1) (po_some (pe_op op_add (pv 2) pe_int)) po_none))), ?_⟩
    have odd : ∀ H1 n1, Off d H H1 → Pot H1 d n1 → n1 ≤ n + 1 → tCall (spOdd K) [] E0 (tCons (tVar 0) (tCons (tVar 1) tNil)) [some (.ref d), some x, none] H1 Q := fun H1 n1 o p hn1 => by
      refine call_of (c_of (v_of rfl (c_of (v_of rfl (n_of ⟨D, d, n1, x, e, m, j, L, rfl, hD, hH.off o p, p, by omega, Av.keep (bydo hD o) hA, hS.up (Nat.le_refl _) (by omega) (Nat.le_refl _), hm, hL, fun H' y e' o' p' hy hs => ?_⟩)))))
      exact q H' y e' (o.trans o') (p'.up (by omega)) hy (hs.up (Nat.le_refl _) (by omega) (by unfold bentL; omega))
    refine seq_of (ifS_of (or_of (not_of (test_of (cb_of (c_of (v_of rfl (c_of (k_of (n_of ⟨x, .ty "tuple", _, _, isTup e, rfl, .ty "tuple", ty_av hA, kit_ty (kit_tup e), isTup e, rfl, ?_⟩))))))))))
    by_cases ct : isTup e = false
    · rw [ct, if_pos (show (!false) = true from rfl), if_pos rfl]
      exact ret_of (odd H n (Off.refl d H) hP (by omega))
    have ct := Bool.of_not_eq_false ct
    rw [ct, if_neg (show ¬ (!true) = true from Bool.false_ne_true)]
    obtain ⟨ds, rfl⟩ := tup_is ct
    obtain ⟨a, ys, rfl, na, hs, hds⟩ := id hA.inv_tupP
    have ll := hds.len
    refine or_of (test_of (op_of (v_of rfl (tup_of (n_of ⟨Nat.zero_le _, fun p0 hp0 => ?_⟩)))))
    have e1 : Ex H (upd H p0 (.tup [])) := Ex.new hp0
    refine ⟨a, p0, ys, rfl, rfl, (ex_p e1 hs).sq, (sp_of upd_same).sq, _, rfl, ?_⟩
    have P1 := hP.ex e1
    by_cases y0 : ys = []
    · rw [decide_eq_true y0, if_pos rfl, if_pos rfl]
      exact ret_of (odd _ n (Off.of e1) P1 (by omega))
    rw [decide_eq_false y0, if_neg Bool.false_ne_true]
    have hs1 := ex_p e1 hs
    have hds1 := hds.ex e1
    generalize upd H p0 (.tup []) = H1 at e1 P1 hs1 hds1 ⊢
    have ypos : 0 < ys.length := List.length_pos_iff.mpr y0
    obtain ⟨k', ek, sds, sL⟩ := hS.items
    obtain rfl := hR k' ek
    subst ek
    have l2 := shsum_len ds
    refine test_of (op_of (call_of (c_of (v_of rfl (c_of (k_of (n_of ⟨d, n, 5, rfl, P1, by omega, by decide, by decide, fun H2 r o2 P2 r0 r1 => k_of ⟨rfl, _, rfl, ?_⟩⟩)))))))
    by_cases rz : r = 0
    · rw [decide_eq_true (by rw [rz]), if_pos rfl]
      exact ret_of (odd H2 (n + 1) ((Off.of e1).trans o2) P2 (Int.le_refl _))
    rw [decide_eq_false (fun z => rz (V.int.inj z)), if_neg Bool.false_ne_true]
    dsimp only [tNext]
    have hs2 := sqP_byd (bydo hD o2) na hs1
    refine seq_of (asg_of (call_of (c_of (v_of rfl (c_of (cb_of (c_of (v_of rfl (n_of ⟨a, ys, rfl, .inr hs2.sq, n_of ⟨d, n + 1, _, rfl, P2, by omega, by omega, by omega, fun H3 t o3 P3 t0 t1 => ?_⟩⟩)))))))))
    dsimp only
    have hs3 := sqP_byd (bydo hD o3) na hs2
    have hds3 := AvAll.keep (bydo hD o3) (AvAll.keep (bydo hD o2) hds1)
    have HH3 : Held D H3 := ((hH.ex e1).off o2 P2).off o3 P3
    obtain ⟨i, rfl⟩ : ∃ i : Nat, t = (i : Int) := ⟨t.toNat, by omega⟩
    have il : i < ys.length := by omega
    obtain ⟨v, hv⟩ : ∃ v, ys[i]? = some v := ⟨ys[i], List.getElem?_eq_getElem il⟩
    obtain ⟨ei, hei, avi⟩ := hds3.get hv
    have emem := List.mem_of_getElem? hei
    have sei : Siz m k' L ei := ⟨sds.f _ emem, sds.d _ emem, by have := shsum_mem emem; omega⟩
    refine ret_of (op_of (op_of (v_of rfl ⟨_, rfl, (i : Int), rfl, a, ys, rfl, hs3, fun p2 G2 e2 h2 o2' => tup_of (c_of (call_of (c_of (v_of rfl (c_of (op_of (v_of rfl (v_of rfl ⟨a, ys, (i : Int), v, rfl, rfl, (ex_p e2 hs3).sq, atI_nat hv, n_of ⟨D, d, n + 1 + 1, v, ei, m, L, rfl, hD, HH3.ex e2, P3.ex e2, by push_cast at hn ⊢; omega, avi.ex e2, sei, hm, hL, fun H5 y e' o5 P5 hy se' => n_of ⟨by show 1 ≤ sizeLine; decide, fun p6 hp6 => ?_⟩⟩⟩))))))))⟩)))
    have np2 : ¬ D p2 := o2'.elim (fun z => by rw [z]; exact na) HH3.new
    have HH5 : Held D H5 := (HH3.ex e2).off o5 P5
    have np6 : ¬ D p6 := HH5.new hp6
    have HH6 := HH5.ex (Ex.new hp6 (o := .tup [y]))
    have y6 := Ex.new hp6 (o := .tup [y])
    have h2' := ex_p y6 (sqP_byd (bydo hD o5) np2 h2)
    rw [cut_to (by omega) (by omega), Int.toNat_natCast] at h2'
    have hsa := ex_p y6 (sqP_byd (bydo hD o5) na (ex_p e2 hs3))
    have hda := (AvAll.keep (bydo hD o5) (hds3.ex e2)).ex y6
    have hy6 := hy.ex y6
    have P6 := P5.ex y6
    have O6 : Off d H (upd H5 p6 (.tup [y])) := (((((Off.of e1).trans o2).trans o3).trans (Off.of e2)).trans o5).trans (Off.of y6)
    have h6 : (upd H5 p6 (.tup [y])) p6 = some (.tup [y]) := upd_same
    generalize upd H5 p6 (.tup [y]) = H6 at h2' hsa hda hy6 P6 O6 h6 HH6 ⊢
    have dl : ds.length ≤ 60000 := by omega
    refine ⟨p2, p6, _, _, rfl, rfl, h2', sp_of h6, by rw [List.length_take, List.length_singleton, sizeLine_eq]; omega, fun p7 G7 e7 h7 o7 => v_of rfl ⟨_, rfl, (i : Int), 1, rfl, rfl, _, rfl, a, ys, rfl, ex_p e7 hsa, fun p8 G8 e8 h8 o8 => ⟨p7, p8, _, _, rfl, rfl, ex_p e8 h7, h8, ?_, fun p9 G9 e9 h9 o9 => ?_⟩⟩⟩
    · have := cut_len ys (some ((i : Int) + 1)) none
      rw [List.length_append, List.length_take, List.length_singleton, sizeLine_eq]
      omega
    rw [cut_from (by omega) (by omega), show ((i : Int) + 1).toNat = i + 1 from by omega] at h9
    have np7 : ¬ D p7 := o7.elim (fun z => by rw [z]; exact np2) fun z => z.elim (fun z => by rw [z]; exact np6) HH6.new
    have np8 : ¬ D p8 := o8.elim (fun z => by rw [z]; exact na) (HH6.ex e7).new
    have np9 : ¬ D p9 := o9.elim (fun z => by rw [z]; exact np7) fun z => z.elim (fun z => by rw [z]; exact np8) ((HH6.ex e7).ex e8).new
    have e69 := (e7.trans e8).trans e9
    have hd9 := hda.ex e69
    have all : AvAll K D G9 (ys.take i ++ [y] ++ ys.drop (i + 1)) (ds.take i ++ [e'] ++ ds.drop (i + 1)) := AvAll.app (hd9.drop _) (AvAll.app (.cons (hy6.ex e69) .nil) (hd9.take _))
    have sz : SizAll (m + 1) (k' + 2) (ds.take i ++ [e'] ++ ds.drop (i + 1)) := by
      have s1 : SizAll (m + 1) (k' + 2) ds := ⟨fun z hz => fine_mono (by omega) _ (sds.f z hz), fun z hz => Nat.le_trans (sds.d z hz) (by omega)⟩
      exact ((s1.sub fun z hz => List.mem_of_mem_take hz).app (SizAll.one se')).app (s1.sub fun z hz => List.mem_of_mem_drop hz)
    refine q G9 _ _ (O6.trans (Off.of e69)) ((P6.ex e69).up (by push_cast; omega)) (.tup np9 h9 all) (sz.tup.up (Nat.le_refl _) (by omega) ?_)
    rw [bentL_up, shsum_app, shsum_app]
    have w1 := shsum_app (ds.take i) (ds.drop i)
    rw [List.take_append_drop] at w1
    have w2 : shsum (ds.drop (i + 1)) ≤ shsum (ds.drop i) := by
      rw [← List.drop_drop]
      exact shsum_drop _ _
    have w3 : shsum [e'] = e'.shown.length + 2 + 0 := rfl
    have w4 := se'.l
    omega
theorem ok_bent {f fT fD : Addr} {fd fdT fdD : FuncData} (F : Fun K "_law_bent" "_law_bent" sBent f fd) (FT : Fun K "_law_take" "_law_take" sTake fT fdT) (FD : Fun K "_law_odd" "_law_odd" sOdd fD fdD) (bF : Binds K fd ["_law_box_here", "_law_thing"] []) (bT : Binds K fdT ["_law_box_here", "_law_many"] []) (bD : Binds K fdD ["_law_box_here", "_law_thing"] [])
    (gF : mg "_law_bent" = some (.ref f)) (gT : mg "_law_take" = some (.ref fT)) (gD : mg "_law_odd" = some (.ref fD)) (mL : mg "len" = none) (mI : mg "isinstance" = none) (mTu : mg "tuple" = none)
    (GD : FnOk P w K mg base CX0 3 fD fdD ["_law_box_here", "_law_thing"] (spOdd K)) : ∀ j : Nat, FnOk P w K mg base CX0 (3 + j + 1) f fd ["_law_box_here", "_law_thing"] (spBent K j)
  | 0 => bent_step F FT FD bF bT bD gF gT gD mL mI mTu GD 0 (fun _ _ _ _ => False) ⟨fun _ _ _ _ h => h.elim, fun _ _ _ _ _ _ _ _ _ _ _ _ _ h => h.elim⟩ (fun i e => absurd e (by omega))
  | j + 1 => bent_step F FT FD bF bT bD gF gT gD mL mI mTu GD (j + 1) (spBent K j) (ok_bent F FT FD bF bT bD gF gT gD mL mI mTu GD j) (fun i e => by cases e; rfl)
end
end Sn
/-! x(lambda: body), where no repr is under way: so for the body too. -/
namespace Gd
open PySem PySem.Spec PyProof.Rows L2 LamX
section
variable {X : Cx} {pins : List (Addr × Obj)} {σ : L2.St} {H : Hp} {s : Shared}
/-- y(), in the def that was handed the lambda -/
theorem act_of {CXg : CXT} {Eg : XK} {Ng : List Str} {qg : Str} {sg : Scope} {g fl cc : Addr} {cdg mod tab : Value} {params : Arguments} {body : Expr} {scope : Scope} {k i : Nat} {y : Str} {pn : List (Addr × Obj)} {xe : Value → Shared → Prop} {W : WX} {E : XK} {tb : TE} {p1 p2 : Pos}
    (gd : X.A.guards = some []) (I : Inv X pins σ H s) (L : LamS X.env.scope scope) (made : s.heap.get? fl = some (PySem.W.kla_obj "<lambda>" (X.env.qual ++ "<lambda>") params body scope (cloFrom X.env.cells scope.names []) mod cc tab)) (unk : H fl = none) (noF : fl ∉ frs X.stack)
    (nopar : bindArgs (PySem.W.kla_fn "<lambda>" (X.env.qual ++ "<lambda>") params body scope (cloFrom X.env.cells scope.names []) mod (.ref cc) tab) ⟨[], []⟩ = pure [])
    (tk : Takes ((cxOf CXg X.prog X.w X.K X.mg X.base Ng qg sg g cdg X.A X.stack s H Eg).tr pn xe) W) (room : Room (k + 1) (X.A.deeper (envOfC qg sg s.heap.objs.size g cdg)))
    (reads : ∀ (A : Around) (outer : List Env) (s : Shared) (H : Hp), A.guards = some [] → Room k (A.deeper (lamEnv X scope s.heap.objs.size fl cc)) → PE (lamCx X A outer s H E scope fl cc) body tb)
    (isY : Ng[i]? = some y) (vis : Vis sg y) (n1 : (y == ("__debug__" : Str)) = false := by decide) (n2 : (y == ("__classdict__" : Str)) = false := by decide) :
    PE ((cxOf CXg X.prog X.w X.K X.mg X.base Ng qg sg g cdg X.A X.stack s H Eg).tr pn xe) (.Call (.Name y p1) [] [] p2)
      (fun σZ HZ Q => σZ[i]? = some (some (.ref fl)) ∧ HZ cc = some (CodeO cc (X.env.qual ++ "<lambda>")) ∧ (∀ cls d H', E cls d H' → W cls d σZ H') ∧ tb σ HZ Q) := by
  constructor
  rintro pinsZ sZ σZ HZ Q IZ ⟨slot, code, out, want⟩
  refine wpAny_Call_Name_kw (thn ((pe_var (pos := p1) (i := i) isY vis n1 n2).run pinsZ sZ σZ HZ (fun v G => v = .ref fl ∧ G = HZ) IZ ⟨.ref fl, slot, rfl, rfl⟩) ?_)
  rintro u s1 ⟨v, G, I1, rv, ev, eG⟩
  subst ev
  rw [eG] at I1
  obtain rfl : u = Value.ref fl := rv
  have now : s1.heap.get? fl = some (PySem.W.kla_obj "<lambda>" (X.env.qual ++ "<lambda>") params body scope (cloFrom X.env.cells scope.names []) mod cc tab) := I1.base.keep fl _ made unk noF (fun z => nomatch (show fl ∈ ([] : List Addr) from z))
  refine PySem.W.callWith_F0 ⟨_, _, _, _, now⟩ ?_
  have since : Un (frs X.stack) [] H HZ s.heap s1.heap := I1.base
  obtain ⟨⟨oc, vs, t, hoc, hdc, hvc⟩, _, _⟩ := I1.hok cc _ code
  have ran : codeAny (model X.prog X.w) (X.A.deeper (envOfC qg sg s.heap.objs.size g cdg)) (.call (.ref fl) ⟨[], []⟩) (CR (L2.CX X.prog X.w) (envOfC qg sg s.heap.objs.size g cdg :: X.stack) X.prog X.w HZ s1 Q E) s1 := by
    refine PySem.W.kla_callFunE room.depth now rfl L.co L.gen rfl ⟨cc, oc, vs, t, rfl, hoc, hdc, hvc⟩ ?_
    rw [nopar]
    refine wpAny_pure (wpAny_newFunctionEnv (fun z hz => (L.own z hz).2) (fun z hz => absurd hz (by simp)) (fun h₁ hns hsb => ⟨I1.nolimit.fresh _ hsb, ?_⟩) L.kind)
    show codeAny _ _ (.expr body (lamEnv X scope s1.heap.objs.size fl cc)) _ _
    have kept : ∀ b o, s1.heap.get? b = some o → h₁.get? b = some o := fun b o e => hsb.extBut b o (Nat.ne_of_lt (Heap.lt_size e)) (Heap.get?_push_of_some _ e)
    have J : Inv (lamCx X (X.A.deeper (envOfC qg sg s.heap.objs.size g cdg)) (envOfC qg sg s.heap.objs.size g cdg :: X.stack) s1 HZ E scope fl cc) [] σ HZ { s1 with heap := h₁, toks := s1.toks + ([] : List (Str × Value)).length } :=
      lam_start2 I L I1.env0 room.hd since hns kept
    refine PySem.W.kla_codeExpr (wpAny_mono ((reads (X.A.deeper (envOfC qg sg s.heap.objs.size g cdg)) _ s1 HZ gd (room.deeper _)).run [] _ _ HZ Q J want) ?_ fun _ _ left => left)
    rintro v s' ⟨u', H', J', rv', q⟩
    exact ⟨u', H', J'.os, J'.bare, J'.base, J'.hok, rv', q⟩
  refine wpAny_call (codeAny_mono ran fun r s' got => ?_)
  rcases r with er | fin
  · exact tk er s' (XE.of_call I1 out got)
  · cases fin with
    | ret u => exact I1.after got
    | next => exact got.elim
    | brk => exact got.elim
    | cont => exact got.elim
/-- the def that calls what it was handed: y calls it; TT: what it makes of the lambda's reading -/
def Gives (X : Cx) (Ng : List Str) (x : Str) (sg : Scope) (g : Addr) (cdg : Value) (bg : List Stmt) (y q : Str) (TT : (XK → Hp → VK → Prop) → Hp → VK → Prop) : Prop :=
  ∀ (fl cc : Addr) (s : Shared) (H : Hp) (Q : VK) (tl : XK → Hp → VK → Prop),
    (∀ (W : WX) (pn : List (Addr × Obj)) (xe : Value → Shared → Prop) (E : XK) (p1 p2 : Pos), Takes ((cxOf C8.CX0 X.prog X.w X.K X.mg X.base Ng x sg g cdg X.A X.stack s H C8.E0).tr pn xe) W →
      PE ((cxOf C8.CX0 X.prog X.w X.K X.mg X.base Ng x sg g cdg X.A X.stack s H C8.E0).tr pn xe) (.Call (.Name y p1) [] [] p2) (fun σZ HZ R => σZ[0]? = some (some (.ref fl)) ∧ HZ cc = some (CodeO cc q) ∧ (∀ cls d H', E cls d H' → W cls d σZ H') ∧ tl E HZ R)) →
    H cc = some (CodeO cc q) → TT tl H Q →
    ∃ t, PSs (cxOf C8.CX0 X.prog X.w X.K X.mg X.base Ng x sg g cdg X.A X.stack s H C8.E0).nox bg t ∧ t { nx := fun _ H' => Q .non H', rt := Q } (L2.start Ng [.ref fl]) H
/-- f(lambda: body) -/
theorem pe_lamG {T : List (Addr × Str)} {TT : (XK → Hp → VK → Prop) → Hp → VK → Prop} {x y : Str} {g c P : Addr} {k : Nat} {pg : Arguments} {bg : List Stmt} {sg : Scope} {dV kV doc pm cdv ct oc : Value} {an od : Option Addr} {osl : Array (Option Value)} {Ng : List Str}
    {params : Arguments} {body : Expr} {scope : Scope} {t : XK → TE} {p lpos pos : Pos} (gd : X.A.guards = some []) (isG : Gl X x) (at_ : X.mg x = some (.ref g)) (kG : PySem.W.keepIn X.K (.ref g) = true)
    (look : X.K.lookup g = some ⟨oc, od, .func (PySem.W.fnOf x x pg bg sg dV kV doc pm an cdv ct), osl⟩) (code : PySem.W.codeIn X.K cdv x = true) (bind : L2.Binds X.K (PySem.W.fnOf x x pg bg sg dV kV doc pm an cdv ct) [y] []) (Sg : FnScope Ng [y] sg) (first : Ng[0]? = some y) (vis : Vis sg y)
    (gives : Gives X Ng x sg g cdv bg y (X.env.qual ++ "<lambda>") TT)
    (TB : TabB X.base X.mg c P) (own : X.env.code = .ref c) (inT : (P, X.env.qual ++ "<lambda>") ∈ T) (oneT : ∀ p ∈ T, p.1 = P → p.2 = X.env.qual ++ "<lambda>") (room : Room (k + 2) X.A) (L : LamS X.env.scope scope) (nodef : defaultsOf params X.env = ([], []))
    (nopar : ∀ (q : Str) (cl : List (Str × Addr)) (pm cv ctv : Value), bindArgs (PySem.W.kla_fn "<lambda>" q params body scope cl pm cv ctv) ⟨[], []⟩ = pure [])
    (reads : ∀ (A : Around) (outer : List Env) (s : Shared) (H : Hp) (E : XK) (fl cc : Addr), A.guards = some [] → Room k (A.deeper (lamEnv X scope s.heap.objs.size fl cc)) → PE (lamCx X A outer s H E scope fl cc) body (t E))
    (n0 : (x == ("__debug__" : Str)) = false := by decide) (n1 : (y == ("__debug__" : Str)) = false := by decide) (n2 : (y == ("__classdict__" : Str)) = false := by decide) :
    PE X (.Call (.Name x p) [.Lambda params body scope lpos] [] pos) (tLam T TT t) := by
  constructor
  rintro pins s σ H Q I ⟨tabs, want⟩
  refine wpAny_Call_Name_kw (ld_glob I isG at_ ?_ n0)
  refine PySem.W.callWith_K (h₀ := X.base) I.ok.mod.kin kG ?_ (by rfl) (by rfl)
  show wpAny _ _ (spliced ((false, eval (.Lambda params body scope lpos) X.env) :: backTo pos (starEach [] X.env))) _ _ s
  refine Calls.spliced_cons (lam_make2 I TB own inT oneT tabs nodef (L.has I.ok) fun fl cc mod tab H1 s1 I1 more tabs1 made unk noF known => ?_)
  refine Calls.spliced_nil ⟨I1.kIn, ?_⟩
  have ran : codeAny (model X.prog X.w) X.A (.call (.ref g) ⟨[.ref fl], []⟩) (CR C8.CX0 X.stack X.prog X.w H1 s1 Q C8.E0) s1 := by
    refine run_ofS (N := Ng) (ps := [y]) (us := [.ref fl]) (vs := [.ref fl]) look code Sg room I1.env0 (bind s1 [.ref fl] I1.kIn rfl) (.cons rfl .nil) rfl fun room1 => ?_
    obtain ⟨t1, d1, q1⟩ := gives fl cc s1 H1 Q (fun E H' Q' => t E σ H' Q') (fun W pn xe E p1 p2 tk => act_of (i := 0) gd I1 L made unk noF (nopar _ _ _ _ _) tk room1 (fun A outer s H ga r2 => reads A outer s H E fl cc ga r2) first vis n1 n2) known (want H1 more tabs1)
    exact ⟨t1, d1.nox, q1⟩
  refine wpAny_call (codeAny_mono ran fun r s2 got => ?_)
  rcases r with er | fin
  · exact (show False from got).elim
  · cases fin with
    | ret u => exact I1.after got
    | next => exact got.elim
    | brk => exact got.elim
    | cont => exact got.elim
end
end Gd
/-! _law_asked: what a question tells, or the error that it raises -/
namespace Sn
open PySem PySem.Spec PyProof.Rows L2 Evl Gd Ex LamX
abbrev sAsked : Stmt := topS 32
abbrev nAsked : List Str := ["_law_ask", "error", "_law_caught", "_law_marks", "_law_at"]
theorem scAsked : FnScope nAsked ["_law_ask"] (defScope sAsked) := ⟨rfl, rfl, rfl, by decide +kernel, rfl, by decide +kernel, by decide +kernel⟩
/-! ### count of True -/
def isB (b : Bool) (v : Value) : Bool := match v with
  | .bool c => c == b
  | _ => false
def rCntB (K : PySem.W.Frag) : V → List V → Hp → VK → Prop := fun x xs H Q => ∃ (p : Addr) (bs : List Bool) (b : Bool), x = .ref p ∧ xs = [.bl b] ∧ SqL K H p (bs.map V.bl) ∧ Q (.int (bs.count b : Nat)) H
theorem vals_bl : ∀ {bs : List Bool} {us : List Value}, Vals (bs.map V.bl) us → us = bs.map Value.bool
  | [], _, .nil => rfl
  | b :: bs, _, .cons r t => by
    cases (show _ = Value.bool b from r)
    rw [vals_bl t]
    rfl
theorem mt_cntB {X : Cx} : MtR X "list.count" (rCntB X.K) := by
  intro pins s σ H x xs v us Q I rx rxs h
  obtain ⟨p, bs, b, rfl, rfl, hs, q⟩ := h
  cases rx
  obtain ⟨u, rfl, ru⟩ := rxs.one
  cases (show u = Value.bool b from ru)
  obtain ⟨its, rv, ⟨⟨cls, dd, data, sl⟩, n, ho, hc, hdn, hd⟩, hlen⟩ := I.list hs
  simp only at hc hd
  subst hc hd
  have ei := vals_bl rv
  subst ei
  refine call_meets PySem.F.slot_list_count ⟨_, ho, rfl⟩ PySem.F.entry_list_count (PySem.F.args_list_count_2 _ _)
    (SeqAt.list_countAt p _ n dd sl (.bool b) (isB b)) ⟨ho, fun y hy => ?_, ?_⟩
  · obtain ⟨c, _, rfl⟩ := List.mem_map.mp (show y ∈ bs.map Value.bool from by simpa using hy)
    exact SeqAt.EqAt.bool_bool c b
  · have ec : (bs.map Value.bool).toArray.toList.countP (isB b) = bs.count b := by
      rw [show (bs.map Value.bool).toArray.toList = bs.map Value.bool by simp, List.countP_map]
      rfl
    refine ⟨.int (bs.count b : Nat), H, I.tok _, ⟨s.toks, ?_⟩, q⟩
    show Value.int (((bs.map Value.bool).toArray.toList.countP (isB b) : Nat) : Int) s.toks = Value.int ((bs.count b : Nat) : Int) s.toks
    rw [ec]
/-- what the classes of errors say of the error's class at C: the j-th of three -/
structure Errs (K : PySem.W.Frag) (CE CO CL CT CB CF C : Addr) (j : Nat) : Prop where
  two : j < 2
  heap : PySem.W.exmOne K (.ref C) (.ref CE) = some true
  o : PySem.W.kitOne K (.ref C) (.ref CO) = some (decide (j = 0))
  l : PySem.W.kitOne K (.ref C) (.ref CL) = some (decide (j = 1))
  t : PySem.W.kitOne K (.ref C) (.ref CT) = some (decide (j = 2))
  bf : PySem.W.kitAny K (.ref C) [.ref CB, .ref CF] = some false
  ve : PySem.W.kitOne K (.ref C) (.type "ValueError") = some true
  exc : ExcC K C
  xf : XfC K C
  no : PySem.W.findIn K (.ref C) "value" = some none
def errWord (j : Nat) : Str := if j = 0 then "object" else "link"
/-- an error that tells its value x -/
def Tells (K : PySem.W.Frag) (CE CO CL CT CB CF : Addr) (j : Nat) (x : V) (cls : Value) (d : Option Addr) (H : Hp) : Prop := ∃ (C dd : Addr), cls = .ref C ∧ d = some dd ∧ H dd = some (.xd [("value", x)]) ∧ Errs K CE CO CL CT CB CF C j
def TAsked (K : PySem.W.Frag) (CE CO CL CT CB CF : Addr) : (XK → Hp → VK → Prop) → Hp → VK → Prop := fun tl H Q =>
  tl (fun cls d H' => ∃ (j : Nat) (x : V), Tells K CE CO CL CT CB CF j x cls d H' ∧ ∀ H2 t, Ex H' H2 → H' t = none → H2 t = some (.tup [.str (errWord j), x]) → Q (.ref t) H2) H
    fun v H' => [V.str "told", v].length ≤ sizeLine ∧ ∀ t, H' t = none → Q (.ref t) (upd H' t (.tup [.str "told", v]))
theorem bmL_of {K : PySem.W.Frag} {T : String} {r : V → List V → Hp → VK → Prop} {to : TE} {t : TA} {σ : L2.St} {H : Hp} {Q : VK} (h : to σ H fun x H1 => tyV K T x H1 ∧ t σ H1 fun xs H2 => r x xs H2 Q) : tBM K T r to t σ H Q := h
theorem marks_cnt {j : Nat} (h : j < 2) : List.count true [decide (j = 0), decide (j = 1), decide (j = 2)] = 1 := by
  rcases (show j = 0 ∨ j = 1 by omega) with rfl | rfl <;> rfl
theorem marks_at {j : Nat} (h : j < 2) : ([decide (j = 0), decide (j = 1), decide (j = 2)].map V.bl)[j]? = some (.bl true) := by
  rcases (show j = 0 ∨ j = 1 by omega) with rfl | rfl <;> rfl
theorem marks_ahead {j : Nat} (h : j < 2) : ∀ (m : Nat) (z' : V), m < j → ([decide (j = 0), decide (j = 1), decide (j = 2)].map V.bl)[m]? = some z' → eqV z' (.bl true) = false := by
  intro m z' hm e
  rcases (show j = 0 ∨ j = 1 by omega) with rfl | rfl
  · omega
  · obtain rfl : m = 0 := by omega
    cases e
    decide
theorem words_at {j : Nat} (h : j < 2) : ([.str "object", .str "link", .str "many"] : List V)[j]? = some (.str (errWord j)) := by
  rcases (show j = 0 ∨ j = 1 by omega) with rfl | rfl <;> rfl
theorem _root_.Ex.Kept.ex {H H' : Hp} {a C : Addr} (k : Kept H a C) (e : Ex H H') : Kept H' a C := by
  rcases k with h | ⟨dd, fs, h1, h2⟩
  · exact .inl (e _ _ h)
  · exact .inr ⟨dd, fs, e _ _ h1, e _ _ h2⟩
section
variable {X : Cx} {g CE CO CL CT CB CF : Addr} {cdg : Value} {q : Str}
theorem asked_gives (mE : X.mg "HeapError" = some (.ref CE)) (mO : X.mg "NoObject" = some (.ref CO)) (mL : X.mg "NoLink" = some (.ref CL)) (mT : X.mg "TooMany" = some (.ref CT)) (mB : X.mg "BadText" = some (.ref CB)) (mF : X.mg "Fault" = some (.ref CF)) (mI : X.mg "isinstance" = none) (mV : X.mg "ValueError" = none) :
    Gives X nAsked "_law_asked" (defScope sAsked) g cdg (defBody sAsked) "_law_ask" q (TAsked X.K CE CO CL CT CB CF) := by
  intro fl cc s H Q tl act known want
  have mO : (cxOf C8.CX0 X.prog X.w X.K X.mg X.base nAsked "_law_asked" (defScope sAsked) g cdg X.A X.stack s H C8.E0).nox.mg "NoObject" = some (.ref CO) := mO
  have mL : (cxOf C8.CX0 X.prog X.w X.K X.mg X.base nAsked "_law_asked" (defScope sAsked) g cdg X.A X.stack s H C8.E0).nox.mg "NoLink" = some (.ref CL) := mL
  have mT : (cxOf C8.CX0 X.prog X.w X.K X.mg X.base nAsked "_law_asked" (defScope sAsked) g cdg X.A X.stack s H C8.E0).nox.mg "TooMany" = some (.ref CT) := mT
  have mB : (cxOf C8.CX0 X.prog X.w X.K X.mg X.base nAsked "_law_asked" (defScope sAsked) g cdg X.A X.stack s H C8.E0).nox.mg "BadText" = some (.ref CB) := mB
  have mF : (cxOf C8.CX0 X.prog X.w X.K X.mg X.base nAsked "_law_asked" (defScope sAsked) g cdg X.A X.stack s H C8.E0).nox.mg "Fault" = some (.ref CF) := mF
  have mI : (cxOf C8.CX0 X.prog X.w X.K X.mg X.base nAsked "_law_asked" (defScope sAsked) g cdg X.A X.stack s H C8.E0).nox.mg "isinstance" = none := mI
  have mV : (cxOf C8.CX0 X.prog X.w X.K X.mg X.base nAsked "_law_asked" (defScope sAsked) g cdg X.A X.stack s H C8.E0).nox.mg "ValueError" = none := mV
  refine ⟨_, pss_cons (ps_tryK (X := (cxOf C8.CX0 X.prog X.w X.K X.mg X.base nAsked "_law_asked" (defScope sAsked) g cdg X.A X.stack s H C8.E0).nox) (i := 1) (j := 2) (c := .ref CE) (Wout := fun _ _ _ _ => False)
      (tb := fun W D σ H => ∃ Ech : XK, (∀ cls d H', Ech cls d H' → W cls d σ H') ∧ σ[0]? = some (some (.ref fl)) ∧ H cc = some (CodeO cc q) ∧ tl Ech H fun v H' => [V.str "told", v].length ≤ sizeLine ∧ ∀ t, H' t = none → D.rt (.ref t) (upd H' t (.tup [.str "told", v])))
      rfl rfl rfl scAsked.nd rfl rfl (by decide) rfl (.inl rfl) rfl rfl rfl ⟨rfl, rfl, .inl mE⟩ takes0 (fun W pn xe tk _ => ?_)) <|
    pss_cons (ps_set (i := 3) scAsked.nd rfl (.inl rfl) (pe_lst (pa_cons (pe_callB call_isiZ (by rfl) mI (by decide +kernel) (pa_cons (pv 2) (pa_cons (pe_glob (v := .ref CO) (by rfl) mO rfl) pa_nil))) <| pa_cons (pe_callB call_isiZ (by rfl) mI (by decide +kernel) (pa_cons (pv 2) (pa_cons (pe_glob (v := .ref CL) (by rfl) mL rfl) pa_nil))) <| pa_cons (pe_callB call_isiZ (by rfl) mI (by decide +kernel) (pa_cons (pv 2) (pa_cons (pe_glob (v := .ref CT) (by rfl) mT rfl) pa_nil))) pa_nil))) <|
    pss_cons (ps_if (pw_or (pt_cmpR op_ne (pe_bm PySem.F.plainAttrs_list PySem.F.slot_list_count PySem.F.type_list_count mt_cntB (pv 3) (pa_cons pe_bl pa_nil)) pe_int (nomark _)) (pw_or (pt_val (pe_callB call_isiZT (by rfl) mI (by decide +kernel) (pa_cons (pv 2) (pa_cons (pe_tup (pa_cons (pe_glob (v := .ref CB) (by rfl) mB rfl) <| pa_cons (pe_glob (v := .ref CF) (by rfl) mF rfl) pa_nil)) pa_nil)))) (pw_or1 (pt_not (pt_val (pe_callB call_isiZ (by rfl) mI (by decide +kernel) (pa_cons (pv 2) (pa_cons (pe_bltn (v := .ty "ValueError") (by rfl) mV (by decide +kernel) rfl) pa_nil)))))))).pt (pss_one (ps_ret (pe_tup (pa_cons pe_str (pa_cons pe_non pa_nil))))) pss_nil) <|
    pss_cons (ps_set (i := 4) scAsked.nd rfl (.inl rfl) (pe_bm PySem.F.plainAttrs_list PySem.F.slot_list_index PySem.F.type_list_index mt_index (pv 3) (pa_cons pe_bl pa_nil))) <|
    pss_one (ps_ret (pe_tup (pa_cons (pe_ix ix_list (pe_lst (pa_cons pe_str <| pa_cons pe_str <| pa_cons pe_str pa_nil)) (pv 4) (fun _ _ => rfl)) (pa_cons (pe_ifExp (pt_cmpR op_eq (pv 4) pe_int (nomark _)) (pe_ez (pv 2)) (pe_ez (pv 2))) pa_nil)))), ?_⟩
  · refine ⟨fun pins s' σ H' D I h' => ?_⟩
    obtain ⟨Ech, hW, h1, h2, h3⟩ := h'
    refine (pss_one (ps_ret (pe_tup (pa_cons pe_str (pa_cons (act W pn xe Ech _ _ tk) pa_nil))))).run pins s' σ H' D I ?_
    exact ret_of (tup_of (c_of (k_of (c_of ⟨h1, h2, hW, h3⟩))))
  · refine ⟨fun cls d H' => ∃ (j : Nat) (x : V), Tells X.K CE CO CL CT CB CF j x cls d H' ∧ ∀ H2 t, Ex H' H2 → H' t = none → H2 t = some (.tup [.str (errWord j), x]) → Q (.ref t) H2, ?_, rfl, known, want⟩
    rintro cls d H' ⟨j, x, ⟨C, dd, rfl, rfl, hdd, er⟩, q⟩
    refine ⟨true, er.heap, fun _ a ha => ?_, fun z => by cases z⟩
    have e1 : Ex H' (upd H' a (exz a (.ref C) (some dd))) := Ex.new ha
    have kept : Kept (upd H' a (exz a (.ref C) (some dd))) a C := .inr ⟨dd, _, upd_same, e1 _ _ hdd⟩
    have at1 : (upd H' a (exz a (.ref C) (some dd))) a = some (exz a (.ref C) (some dd)) := upd_same
    have hd1 := e1 _ _ hdd
    generalize upd H' a (exz a (.ref C) (some dd)) = H1 at e1 kept at1 hd1 ⊢
    have two := er.two
    dsimp only
    refine seq_of (asg_of (lst_of (c_of (cb_of (c_of (v_of rfl (c_of (k_of (n_of ⟨a, C, .ref CO, .ref CO, _, rfl, .own CO, kept, er.exc, er.o, c_of (cb_of (c_of (v_of rfl (c_of (k_of (n_of ⟨a, C, .ref CL, .ref CL, _, rfl, .own CL, kept, er.exc, er.l, c_of (cb_of (c_of (v_of rfl (c_of (k_of (n_of ⟨a, C, .ref CT, .ref CT, _, rfl, .own CT, kept, er.exc, er.t, n_of ⟨by show 3 ≤ sizeLine; decide, fun p hp => ?_⟩⟩))))))⟩))))))⟩)))))))))
    have e2 := Ex.new hp (o := .lst ([decide (j = 0), decide (j = 1), decide (j = 2)].map V.bl))
    have kept2 : Kept (upd H1 p (.lst ([decide (j = 0), decide (j = 1), decide (j = 2)].map V.bl))) a C := .inr ⟨dd, _, e2 _ _ at1, e2 _ _ hd1⟩
    have p2 : (upd H1 p (.lst ([decide (j = 0), decide (j = 1), decide (j = 2)].map V.bl))) p = some (.lst ([decide (j = 0), decide (j = 1), decide (j = 2)].map V.bl)) := upd_same
    have at2 := e2 _ _ at1
    have hd2 := e2 _ _ hd1
    have e02 := e1.trans e2
    show tSeq _ _ _ _ (upd H1 p (.lst ([decide (j = 0), decide (j = 1), decide (j = 2)].map V.bl)))
    generalize upd H1 p (.lst ([decide (j = 0), decide (j = 1), decide (j = 2)].map V.bl)) = H2 at e2 kept2 p2 at2 hd2 e02 ⊢
    refine seq_of (ifS_of (or_of (test_of (op_of (bmL_of (v_of (v := .ref p) rfl ⟨.inl ⟨rfl, _, sq_of p2⟩, c_of (k_of (n_of ⟨p, _, true, rfl, rfl, sq_of p2, k_of ⟨rfl, _, rfl, ?_⟩⟩))⟩))))))
    rw [marks_cnt two, if_neg (by decide)]
    refine or_of (test_of (cb_of (c_of (v_of rfl (c_of (tup_of (c_of (k_of (c_of (k_of (n_of ⟨by show 2 ≤ sizeLine; decide, fun tp htp => n_of ⟨a, C, tp, _, _, false, rfl, upd_same, .cons (.own CB) (.cons (.own CF) .nil), kept2.ex (Ex.new htp), er.exc, er.bf, false, rfl, ?_⟩⟩)))))))))))
    rw [if_neg Bool.false_ne_true]
    have e3 := Ex.new htp (o := .tup [.ref CB, .ref CF])
    have kept3 := kept2.ex e3
    have e03 := e02.trans e3
    have p3 := e3 _ _ p2
    have at3 := e3 _ _ at2
    have hd3 := e3 _ _ hd2
    generalize upd H2 tp (.tup [.ref CB, .ref CF]) = H3 at e3 kept3 e03 p3 at3 hd3 ⊢
    refine not_of (test_of (cb_of (c_of (v_of rfl (c_of (k_of (n_of ⟨a, C, .ty "ValueError", .type "ValueError", true, rfl, .ty "ValueError", kept3, er.exc, er.ve, true, rfl, ?_⟩)))))))
    rw [if_neg (show ¬ (!true) = true from Bool.false_ne_true)]
    dsimp only [tNext]
    refine seq_of (asg_of (bmL_of (v_of (v := .ref p) rfl ⟨.inl ⟨rfl, _, sq_of p3⟩, c_of (k_of (n_of ⟨p, _, .bl true, j, .bl true, rfl, rfl, sq_of p3, rfl, by rcases (show j = 0 ∨ j = 1 by omega) with rfl | rfl <;> rfl, marks_at two, rfl, marks_ahead two, ?_⟩))⟩)))
    dsimp only
    refine ret_of (tup_of (c_of (op_of (lst_of (c_of (k_of (c_of (k_of (c_of (k_of (n_of ⟨by show 3 ≤ sizeLine; decide, fun wp hwp => v_of rfl ⟨wp, _, (j : Int), _, rfl, rfl, sq_of upd_same, atI_nat (words_at two), c_of (if_of (test_of (op_of (v_of rfl (k_of ⟨rfl, _, rfl, ?_⟩)))))⟩⟩)))))))))))
    have e4 := Ex.new hwp (o := .lst [.str "object", .str "link", .str "many"])
    rw [decide_eq_false (fun z => by have := V.int.inj z; omega), if_neg Bool.false_ne_true]
    refine v_of (v := .ref a) rfl ⟨a, C, dd, _, x, rfl, er.xf, er.no, e4 _ _ at3, e4 _ _ hd3, by rw [List.lookup, show (("value" : Str) == ("value" : Str)) = true from by decide +kernel], n_of ⟨by show 2 ≤ sizeLine; decide, fun t ht => ?_⟩⟩
    exact q _ t ((e03.trans e4).trans (Ex.new ht)) (fresh_back (e03.trans e4) ht) upd_same
end
end Sn
/-! what stays while lambdas are made and the well goes on; sizes; which values are links -/
namespace Sn
open PySem PySem.Spec PyProof.Rows L2 Evl Gd Ex LamX
theorem ntL {xs : List V} (ps : Array Value) : HO.lst xs ≠ .tbl ps := fun z => nomatch z
theorem ntT {xs : List V} (ps : Array Value) : HO.tup xs ≠ .tbl ps := fun z => nomatch z
theorem ntD {kvs : List (Key × V)} (ps : Array Value) : HO.dK kvs ≠ .tbl ps := fun z => nomatch z
mutual
theorem Av.keepN {K : PySem.W.Frag} {d : Addr → Prop} {H H' : Hp} (e : ∀ a o, ¬ d a → (∀ ps, o ≠ .tbl ps) → H a = some o → H' a = some o) : ∀ {v : V} {x : PyData}, Av K d H v x → Av K d H' v x
  | _, _, .non => .non
  | _, _, .bl b => .bl b
  | _, _, .int i => .int i
  | _, _, .str x => .str x
  | _, _, .lst n q h r => .lst n q (e _ _ q ntL h) (AvAll.keepN e r)
  | _, _, .tup q h r => .tup q (e _ _ q ntT h) (AvAll.keepN e r)
  | _, _, .dnil q h => .dnil q (e _ _ q ntD h)
  | _, _, .done q h r => .done q (e _ _ q ntD h) (Av.keepN e r)
theorem AvAll.keepN {K : PySem.W.Frag} {d : Addr → Prop} {H H' : Hp} (e : ∀ a o, ¬ d a → (∀ ps, o ≠ .tbl ps) → H a = some o → H' a = some o) : ∀ {vs : List V} {xs : List PyData}, AvAll K d H vs xs → AvAll K d H' vs xs
  | _, _, .nil => .nil
  | _, _, .cons a b => .cons (Av.keepN e a) (AvAll.keepN e b)
end
/-- all but the well and the tables stay -/
def OffN (d : Addr) (H H' : Hp) : Prop := ∀ a o, a ≠ d → (∀ ps, o ≠ .tbl ps) → H a = some o → H' a = some o
theorem OffN.refl (d : Addr) (H : Hp) : OffN d H H := fun _ _ _ _ h => h
theorem OffN.trans {d : Addr} {H H1 H2 : Hp} (a : OffN d H H1) (b : OffN d H1 H2) : OffN d H H2 := fun x o n t h => b x o n t (a x o n t h)
theorem OffN.of {d : Addr} {H H' : Hp} (o : Off d H H') : OffN d H H' := fun a u n _ h => o a u n h
theorem OffN.ofEx {d : Addr} {H H' : Hp} (e : Ex H H') : OffN d H H' := fun a u _ _ h => e a u h
theorem OffN.ofN {d : Addr} {H H' : Hp} (e : ExtN H H') : OffN d H H' := fun a u _ t h => e a u h t
theorem KeepP.offN {K : PySem.W.Frag} {H H' : Hp} {d : Addr} {n : Int} (p : Pot H d n) (o : OffN d H H') : KeepP K H H' := by
  obtain ⟨g, b, m, h0, _⟩ := p
  have ne : ∀ {a : Addr} {u : HO}, H a = some u → (∀ xs, u ≠ .lst xs) → a ≠ d := fun {a u} h n z => by
    rw [z, h0] at h
    exact n _ (Option.some.inj h).symm
  refine ⟨fun a xs h => ?_, fun a u xs h => o _ _ (ne h (fun _ z => nomatch z)) (fun _ z => nomatch z) h⟩
  rcases h with (h | ⟨u, h⟩) | h
  · exact .inl (.inl (o _ _ (ne h (fun _ z => nomatch z)) (fun _ z => nomatch z) h))
  · exact .inl (.inr ⟨u, o _ _ (ne h (fun _ z => nomatch z)) (fun _ z => nomatch z) h⟩)
  · exact .inr h
theorem Av.offN {K : PySem.W.Frag} {d : Addr} {H H' : Hp} {v : V} {x : PyData} (h : Av K (· = d) H v x) (o : OffN d H H') : Av K (· = d) H' v x := h.keepN fun a u n t e => o a u n t e
theorem AvAll.offN {K : PySem.W.Frag} {d : Addr} {H H' : Hp} {v : List V} {x : List PyData} (h : AvAll K (· = d) H v x) (o : OffN d H H') : AvAll K (· = d) H' v x := h.keepN fun a u n t e => o a u n t e
theorem Pot.extN {H H' : Hp} {d : Addr} {n : Int} (e : ExtN H H') (h : Pot H d n) : Pot H' d n := by
  obtain ⟨g, b, m, h0, r⟩ := h
  exact ⟨g, b, m, e _ _ h0 (fun _ z => nomatch z), r⟩
theorem LnkA.offN {d : Addr} {H H' : Hp} {n : Int} {y : V} {g : Arc} (p : Pot H d n) (h : LnkA H y g) (o : OffN d H H') : LnkA H' y g := by
  obtain ⟨l, e, hl⟩ := h
  obtain ⟨_, _, _, h0, _⟩ := p
  refine ⟨l, e, o _ _ (fun z => ?_) (fun _ z => nomatch z) hl⟩
  rw [z, h0] at hl
  cases hl
theorem keys_av {K : PySem.W.Frag} {d : Addr → Prop} {H : Hp} : ∀ ks : List Key, AvAll K d H (ks.map kV) (ks.map kD)
  | [] => .nil
  | .inl i :: ks => .cons (.int i) (keys_av ks)
  | .inr z :: ks => .cons (.str z) (keys_av ks)
theorem lnk_av {K : PySem.W.Frag} {d : Addr} {H : Hp} {n : Int} {y : V} {g : Arc} (p : Pot H d n) (h : LnkA H y g) : Av K (· = d) H y (lnkD g) := by
  obtain ⟨l, rfl, hl⟩ := h
  obtain ⟨_, _, _, h0, _⟩ := p
  refine .tup (fun z => ?_) hl (keys_av _)
  rw [z, h0] at hl
  cases hl
theorem lnks_av {K : PySem.W.Frag} {d : Addr} {H : Hp} {n : Int} (p : Pot H d n) : ∀ {ys : List V} {gs : List Arc}, Paired (LnkA H) ys gs → AvAll K (· = d) H ys (gs.map lnkD)
  | _, _, .nil => .nil
  | _, _, .cons a b => .cons (lnk_av p a) (lnks_av p b)
/-! ### sizes -/
theorem fineN {i : Int} (h : 0 ≤ i ∧ i ≤ 200) : fine 0 (.int i) = true := by
  rw [fine]
  exact decide_eq_true (Nat.le_trans (show i.natAbs ≤ 200 by omega) (by decide))
theorem fine_root : fine 0 (.str "root") = true := by rw [fine]; decide +kernel
theorem fine_slot : fine 0 (.str "slot") = true := by rw [fine]; decide +kernel
theorem fine_entry : fine 0 (.str "entry") = true := by rw [fine]; decide +kernel
theorem DLink.fine {ks : List Key} (h : DLink ks) : fine 0 (.tuple (ks.map kD)) = true := by
  rw [Sn.fine]
  rcases h with ⟨z, rfl, hz⟩ | ⟨n, k, rfl, h1, h2⟩ | ⟨n, k, rfl, h1, h2⟩
  · have : Sn.fine 0 (.str z) = true := by rw [Sn.fine]; exact hz.2.2.2
    simp only [List.map_cons, List.map_nil, kD, fineAll, fine_root, this, Bool.and_self]
  · simp only [List.map_cons, List.map_nil, kD, fineAll, fine_slot, fineN h1, fineN h2, Bool.and_self]
  · simp only [List.map_cons, List.map_nil, kD, fineAll, fine_entry, fineN h1, fineN h2, Bool.and_self]
theorem siz_lnk {g : Arc} (h : DLink g.link) : Siz 0 1 60 (lnkD g) := ⟨h.fine, h.fit.dp, h.fit.ln⟩
/-- small enough to be shown, also in a pair -/
def Fit5 (e : PyData) : Prop := fine 9 e = true ∧ e.depth ≤ 20 ∧ e.shown.length ≤ 900000
theorem Fit5.shw {e : PyData} (h : Fit5 e) : Shw e := ⟨fine_show (by decide) e h.1, Nat.le_trans h.2.1 (by decide), Nat.le_trans h.2.2 (by decide)⟩
theorem Siz.fit5 {m k L : Nat} {e : PyData} (h : Siz m k L e) (a : m ≤ 9) (b : k ≤ 20) (c : L ≤ 900000) : Fit5 e := ⟨fine_mono a e h.f, Nat.le_trans h.d b, Nat.le_trans h.l c⟩
theorem word_siz : ∀ w ∈ (["told", "link", "object"] : List Str), fine 9 (.str w) = true ∧ (PyData.str w).shown.length ≤ 10 := by
  intro w hw
  simp only [List.mem_cons, List.not_mem_nil, or_false] at hw
  rcases hw with rfl | rfl | rfl <;> exact ⟨by rw [fine]; decide +kernel, by decide +kernel⟩
theorem pair_shw {w : Str} {e : PyData} (hw : w ∈ (["told", "link", "object"] : List Str)) (h : Fit5 e) : Shw (.tuple [.str w, e]) := by
  obtain ⟨h1, h2⟩ := word_siz w hw
  refine ⟨fine_show (m := 9) (by decide) _ ?_, ?_, ?_⟩
  · rw [fine, fineAll, fineAll, fineAll, h1, h.1]
    rfl
  · have := h.2.1
    rw [PyData.depth, PyData.depthAll, PyData.depthAll, PyData.depthAll, PyData.depth]
    omega
  · have := (tup_len [.str w, e]).1
    have := h.2.2
    rw [shsum, shsum, shsum] at *
    omega
theorem ints_fit5 {ns : List Int} (h : ∀ n ∈ ns, 0 ≤ n ∧ n ≤ 200) (l : ns.length ≤ 12) : Fit5 (.tuple (ns.map .int)) := by
  have ft : Fit (.tuple (ns.map .int)) 1 200 := (FitAll.map (k := 0) (a := 10) fun n hn => fit_int (i := n) ⟨(h n hn).1, by have := (h n hn).2; omega⟩).tup.up (by decide) (by omega)
  refine ⟨?_, Nat.le_trans ft.dp (by decide), Nat.le_trans ft.ln (by decide)⟩
  rw [fine]
  refine fineAll_iff.mpr fun x hx => ?_
  obtain ⟨n, hn, rfl⟩ := List.mem_map.mp hx
  exact fine_mono (by decide) _ (fineN (h n hn))
/-! ### which values are links -/
theorem inV_strs {z : Str} : ∀ zs : List Str, inV (.str z) (zs.map V.str) = decide (z ∈ zs)
  | [] => by simp [inV]
  | g :: zs => by
    have ih := inV_strs (z := z) zs
    unfold inV at ih ⊢
    rw [List.map_cons, List.any_cons, ih]
    show (decide (g = z) || decide (z ∈ zs)) = decide (z ∈ g :: zs)
    by_cases e : g = z
    · subst e
      simp
    · have e2 : ¬ z = g := fun q => e q.symm
      by_cases m : z ∈ zs
      · simp [m]
      · simp [m, e, e2]
theorem flat_strs : ∀ zs : List Str, (zs.map V.str).all flatV = true
  | [] => rfl
  | z :: zs => by
    rw [List.map_cons, List.all_cons, flat_strs zs]
    rfl
theorem known_is {s : Shot} (dr : Drawn s) {βs : List Arc} (hb : ∀ β, β ∈ βs ↔ β ∈ arcsOf s ∧ ∀ m ∈ β.src, Live (arcsOf s) m) {e : PyData} : e.shown ∈ βs.map (fun β => (lnkD β).shown) ↔ GoodS s e := by
  constructor
  · intro h
    obtain ⟨β, hβ, es⟩ := List.mem_map.mp h
    obtain ⟨h1, h2⟩ := (hb β).mp hβ
    exact ⟨β, h1, as_link (dr.dlink h1) es.symm, h2⟩
  · rintro ⟨g, hg, rfl, sg⟩
    exact List.mem_map.mpr ⟨g, (hb g).mpr ⟨hg, sg⟩, rfl⟩
theorem leftC_kept (s : Shot) (ls : List (List Key)) : leftC s [] ls = keptA ls (arcsOf s) := by
  unfold leftC keptA
  refine List.filter_congr fun α _ => ?_
  simp
/-! ### what a question tells -/
theorem passN {P : Program} {w : World} {X : Cx} : Passes (L2.CX P w) X E0 := fun pins σ H s e s' I h => by
  obtain ⟨_, _, _, _, _, _, _, _, _, _, _, _, z⟩ := h
  exact z.elim
end Sn
/-! enumerate(d), d a dict that is locked: its keys with their places. -/
namespace L2
open PySem PySem.Spec PyProof.Rows PySem.W
section
variable {prog : Program} {w : World} {A : Around} {E : Value → Shared → Prop} {s : Shared} {Kk : Type} [DecidableEq Kk] {knd : KeyKind prog w Kk}
theorem keyNext {it d : Addr} {i ep : Nat} {kvs : List (Kk × Value)} {k : Kk} {x : Value} {Q : Value → Shared → Prop} (hit : s.heap.IsKeyIter it d i kvs.length ep) (hm : s.heap.DictAt knd d kvs ep) (hx : kvs[i]? = some (k, x))
    (hQ : ∀ key h', knd.is k key = true → h'.IsKeyIter it d (i + 1) kvs.length ep → Heap.SameBut it s.heap h' → Q key { s with heap := h' }) : wpAny (model prog w) A (Builtin.SmallTypes.nextOf (.ref it)) Q E s :=
  wpAny_bind (kdk_special hit hm hx fun key h' a b c => wpAny_pure (hQ key h' a b c))
theorem keyStop {it d : Addr} {i ep : Nat} {kvs : List (Kk × Value)} {Q : Value → Shared → Prop} (hh : A.handled = none) (hit : s.heap.IsKeyIter it d i kvs.length ep) (hm : s.heap.DictAt knd d kvs ep) (hge : kvs.length ≤ i)
    (hE : ∀ h' e, Heap.ExtBut it s.heap h' → (∃ o, h'.get? e = some o ∧ o.cls = .type "StopIteration") → E (.ref e) { s with heap := h' }) : wpAny (model prog w) A (Builtin.SmallTypes.nextOf (.ref it)) Q E s := by
  obtain ⟨o, ho, hc, hd⟩ := id hit
  obtain ⟨od, es, hod, hcd, hdd, hk, hp, hn⟩ := id hm
  have l1 : es.size = kvs.length := by
    have := hp.length
    simpa using this
  have l2 : es.size ≤ i := by omega
  have own : Builtin.Dict_items.ownsTuple "dict_keyiterator" = false := by decide +kernel
  unfold Builtin.SmallTypes.nextOf
  refine wpAny_bind (wpAny_callSpecial?_slot (name := Str.ofString "__next__") hit.typeIs PySem.F.slot_dict_keyiterator_next (wpAny_call_entry PySem.F.slot_dict_keyiterator_next hit.typeIs PySem.F.entry_dict_keyiterator_next (wpAny_bind (wpAny_pure (wpAny_bind (wpAny_bind ?_)))) (PySem.F.args_dict_keyiterator_next_1 _)))
  first
    | refine wpAny_bind (wpAny_typeNameOfWhole_keyiter hit.typeIs (wpAny_pure (wpAny_bind (wpAny_fieldsOf ho hd ?_))))
    | refine wpAny_bind (wpAny_typeNameOf_keyiter hit.typeIs (wpAny_pure (wpAny_bind (wpAny_fieldsOf ho hd ?_))))
  simp only [own, Bool.false_eq_true, if_false]
  show wpAny _ _ (if (Value.ref d == .none) = true then _ else _) _ _ s
  rw [if_neg (show ¬ (Value.ref d == .none) = true from Bool.false_ne_true)]
  refine wpAny_bind (wpAny_pure (wpAny_bind (wpAny_dictEntries hod hdd ?_)))
  rw [if_neg (by rw [l1]; simp)]
  refine wpAny_bind (wpAny_pure (wpAny_bind (wpAny_dictEpoch hod hdd ?_)))
  rw [if_neg (by simp)]
  refine wpAny_pure ?_
  simp only [show ¬ ((i : Nat) : Int) < 0 from by omega, if_false, Int.toNat_natCast, Array.getElem?_eq_none l2]
  first
    | refine wpAny_bind (wpAny_bind (wpAny_typeNameOfWhole_keyiter hit.typeIs (wpAny_pure ?_)))
    | refine wpAny_bind (wpAny_bind (wpAny_typeNameOf_keyiter hit.typeIs (wpAny_pure ?_)))
  show wpAny _ _ (setField (.ref it) 0 Value.none >>= _) _ _ s
  refine wpAny_bind (wpAny_setField ho hd (by simp) ?_)
  show wpAny _ _ (newExc (Value.type "StopIteration") [] >>= _) _ _ _
  simp only [newExc, newTuple]
  refine wpAny_bind (wpAny_bind (wpAny_newObj_type ?_ (by size_fits)))
  refine wpAny_bind (m := firstArgMember _ _) (wpAny_of_eq (a := Value.none) (by first | rfl | (simp only [firstArgMember]; rfl)) (wpAny_newObj_type ?_ (by size_fits)))
  simp only [raiseNew]
  refine wpAny_bind (wpAny_handled ?_)
  first
    | rw [show A.in1.handled = none from hh]
    | rw [hh]
  refine wpAny_bind (wpAny_pure (wpAny_throw (hE _ _ (((Heap.SameBut.update ..).extBut.push _).push _) ⟨_, Heap.get?_push_size _ rfl, rfl⟩)))
/-- the keys of a dict, one by one -/
theorem drawsKeys (hh : A.handled = none) (it d : Addr) (hne : d ≠ it) (kvs : List (Kk × Value)) (ep : Nat) :
    Draws prog w A it [it, d] kvs.length (fun i v => ∃ k x, kvs[i]? = some (k, x) ∧ knd.is k v = true) (fun i h => h.IsKeyIter it d i kvs.length ep ∧ h.DictAt knd d kvs ep) where
  live := fun i h st => let ⟨o, ho, _⟩ := st.1; ⟨o, ho⟩
  frame := fun i h h' st hk => by
    obtain ⟨⟨o, ho, r⟩, od, es, hod, r2⟩ := st
    exact ⟨⟨o, hk it List.mem_cons_self o ho, r⟩, od, es, hk d (List.mem_cons_of_mem _ List.mem_cons_self) od hod, r2⟩
  item := fun i s Q E hi st hQ => by
    have hx : kvs[i]? = some kvs[i] := List.getElem?_eq_getElem hi
    refine keyNext st.1 st.2 (k := kvs[i].1) (x := kvs[i].2) hx fun key h' hk hit' hs' => ?_
    refine hQ key h' s.toks ⟨_, _, hx, hk⟩ ⟨hit', ?_⟩ hs'
    obtain ⟨od, es, hod, r2⟩ := st.2
    exact ⟨od, es, (hs'.2 d hne).trans hod, r2⟩
  done := fun s Q E st hE => keyStop hh st.1 st.2 (Nat.le_refl _) hE
end
theorem enumNew1 {v : Value} {o : Obj} {Hh : Heap → Prop} (B : Begins v o Hh) :
    Meets (Builtin.«enumerate.__new__» ⟨[.type "enumerate", v], []⟩) (fun _ R s => Hh s.heap ∧
      R (.ok (.ret (.ref (s.heap.push o).objs.size))) { s with heap := (s.heap.push o).push { cls := .type "enumerate", data := .fields #[.none, .bool false, .ref s.heap.objs.size, rawInt 0, .none, .none] } }) :=
  .of_wp fun prog w A R s hs => by
    obtain ⟨hp, g, d, tk, os⟩ := s
    obtain ⟨hq, fin⟩ := hs
    have hsub := sub_enumerate
    have it1 : ∀ {A2 : Around} {E2 Q2 : Value → Shared → Prop}, Q2 (.ref hp.objs.size) ⟨hp.push o, g, d, tk, os⟩ → wpAny (model prog w) A2 (pyIter v) Q2 E2 ⟨hp, g, d, tk, os⟩ := fun z => B.iter prog w _ _ ⟨hp, g, d, tk, os⟩ _ hq z
    wp_walk using it1
    refine wpAny_stack_any fun st => wpAny_pure ?_
    split
    · rename_i c _ _ _ _ _
      rcases (c == .type "enumerate") with _ | _
      · wp_walk using it1
        exact ⟨_, rfl, fin⟩
      · wp_walk using it1
        exact ⟨_, rfl, fin⟩
    · wp_walk using it1
      exact ⟨_, rfl, fin⟩
section
variable {prog : Program} {w : World} {A : Around} {E : Value → Shared → Prop} {s : Shared}
theorem enumMake1 {v : Value} {o : Obj} {Hh : Heap → Prop} {Q : Value → Shared → Prop} (B : Begins v o Hh) (h1 : Hh s.heap)
    (h : ∀ h', IsEnum h' (s.heap.objs.size + 1) s.heap.objs.size 0 .none → h'.get? s.heap.objs.size = some o → (∀ b u, s.heap.get? b = some u → h'.get? b = some u) → Q (.ref (s.heap.objs.size + 1)) { s with heap := h' }) :
    wpAny (model prog w) A (call (.type "enumerate") [v]) Q E s := by
  refine callType_new F.called_enumerate (by decide) (F.typeCall_enumerate_1 _) (F.newCall_enumerate_1 _) (fun obj => F.args_object_init_2 obj _) F.entry_enumerate_new (enumNew1 B) ⟨h1, ?_⟩
  have sz : (s.heap.push o).objs.size = s.heap.objs.size + 1 := Heap.size_push ..
  have at1 := Heap.get?_push_size (s.heap.push o) (o := { cls := .type "enumerate", data := .fields #[.none, .bool false, .ref s.heap.objs.size, rawInt 0, .none, .none] }) rfl
  show _ ∧ _
  rw [sz] at at1 ⊢
  exact ⟨⟨_, at1, rfl⟩, h _ at1 (Heap.get?_push_of_some _ (Heap.get?_push_size _ B.free)) fun b u x => Heap.get?_push_of_some _ (Heap.get?_push_of_some _ x)⟩
end
/-- the keys with their places, each pair a new tuple -/
def Itek (d : Addr) (o : Obj) (kvs : List (Key × V)) : It :=
  ⟨fun i H => H d = some (.frz o (.dK kvs)) ∧ i < kvs.length, fun i H x H' => ∃ T k v, kvs[i]? = some (k, v) ∧ x = .ref T ∧ H T = none ∧ H' = upd H T (.tup [.int (i : Nat), kV k]), fun i H => H d = some (.frz o (.dK kvs)) ∧ i = kvs.length⟩
theorem turnEnumK {P : Program} {w : World} {K : PySem.W.Frag} {elts : List Expr} {kk : Nat} {tpos : Pos} {d : Addr} {o : Obj} {es : Array DictEntry} {ep : Nat} {kvs : List (Key × V)} (e it : Addr) (hod : o.data = .dict es ep) :
    Turn P w K (.Tuple elts kk tpos) (Itek d o kvs) [e, it] e (fun i h => (∃ old, IsEnum h e it ((i : Nat) : Int) old) ∧ h.IsKeyIter it d i kvs.length ep ∧ e ≠ it) where
  mem := List.mem_cons_self
  obj := fun i h st b hb => by
    obtain ⟨⟨old, he⟩, ⟨oi, ho, hc, hd⟩, _⟩ := st
    rcases List.mem_cons.mp hb with z | hb
    · rw [z]
      exact ⟨_, he, fun v q => nomatch q⟩
    · rw [List.mem_singleton.mp hb]
      exact ⟨oi, ho, fun v q => by rw [hd] at q; cases q⟩
  keep := fun i h h' st k => by
    obtain ⟨⟨old, he⟩, hi, hne⟩ := st
    exact ⟨⟨old, k e List.mem_cons_self _ he⟩, hi.at fun oo q => k it (List.mem_cons_of_mem _ List.mem_cons_self) oo q, hne⟩
  item := by
    intro X hP hw hK hc i pins s σ H E I hf st hg
    subst hP hw hK
    obtain ⟨hd, hi⟩ := hg
    obtain ⟨⟨old, he⟩, hit, hne⟩ := st
    obtain ⟨hs, hgd, hx, es', ep', vs, hdt, hsz, kv, hm⟩ := I.frzK hd
    obtain ⟨rfl, rfl⟩ := dict_ep hod hdt
    have hl : kvs.length = vs.length := Paired.length kv
    have hel : e < s.heap.objs.size := Heap.lt_size he
    have hil : it < s.heap.objs.size := by
      obtain ⟨_, q, _⟩ := id hit
      exact Heap.lt_size q
    have fe := hf e List.mem_cons_self
    have fi := hf it (List.mem_cons_of_mem _ List.mem_cons_self)
    have nde : d ≠ e := fun z => by rw [z, fe.1] at hd; cases hd
    have ndi : d ≠ it := fun z => by rw [z, fi.1] at hd; cases hd
    rw [hl] at hit
    refine wpAny_pyNext_enum_itemD (drawsKeys (A := X.A.in1) (I.ok.hd hc) it d ndi vs _) he ⟨hit, hm⟩ (hl ▸ hi) hne (fun z => ?_) fun x h' tk hP ho hst' hT hsz2 hk => ?_
    · rcases List.mem_cons.mp z with z | z
      · exact hne z
      · exact nde (List.mem_singleton.mp z).symm
    obtain ⟨k, y, hky, hkey⟩ := hP
    obtain ⟨⟨k2, v2⟩, hkv⟩ : ∃ p, kvs[i]? = some p := ⟨kvs[i], List.getElem?_eq_getElem hi⟩
    obtain ⟨u, hu, ru⟩ := kv_get kv hkv
    rw [hu] at hky
    cases hky
    refine ⟨_, rfl, wpAny_letOwnedTupleGo_enum (s := { s with heap := h', toks := tk + 1 }) ho fun h2 he2 sb => ?_⟩
    have T2 : h2.get? s.heap.objs.size = some { cls := .type "tuple", data := .seq #[.int i tk, x] } := (sb.2 _ (Nat.ne_of_gt hel)).trans hT
    have new : ObjOk X.prog X.w (upd H s.heap.objs.size (.tup [.int (i : Nat), kV k])) h2 s.heap.objs.size (.tup [.int (i : Nat), kV k]) :=
      ⟨by show 2 ≤ sizeLine; decide, [.int i tk, x], .cons ⟨_, rfl⟩ (.cons (relV_key (show keyIs k x = true from hkey)) .nil), ⟨_, T2, rfl, _, rfl⟩⟩
    have I1 : Inv X pins σ (upd H s.heap.objs.size (.tup [.int (i : Nat), kV k])) { s with heap := h2, toks := tk + 1 } :=
      I.turnedNew (ch := [e, it]) (fun b ob hb q => (sb.2 b (fun z => hb (z ▸ List.mem_cons_self))).trans (hk b ob (fun z => hb (z ▸ List.mem_cons_self)) (fun z => hb (z ▸ List.mem_cons_of_mem _ List.mem_cons_self)) q)) hf (Nat.le_refl _) new
    refine ⟨.ref s.heap.objs.size, _, I1, rfl, ⟨_, k, v2, hkv, rfl, I.hok.fresh (Nat.le_refl _), rfl⟩, ⟨⟨x, ?_⟩, ?_, hne⟩, fun b hb => ?_⟩
    · have e1 : ((i + 1 : Nat) : Int) = (i : Int) + 1 := by omega
      rw [e1]
      exact he2
    · rw [hl]
      exact hst'.1.at fun oo q => (sb.2 it hne.symm).trans q
    · have lt : b < s.heap.objs.size := by
        rcases List.mem_cons.mp hb with z | z
        · rw [z]
          exact hel
        · rw [List.mem_singleton.mp z]
          exact hil
      rw [upd_ne (Nat.ne_of_lt lt)]
      exact (hf b hb).1
  done := by
    intro X hP hw hK hc i pins s σ H E I hf st hg
    subst hP hw hK
    obtain ⟨hd, hi⟩ := hg
    obtain ⟨⟨old, he⟩, hit, hne⟩ := st
    obtain ⟨hs, hgd, hx, es', ep', vs, hdt, hsz, kv, hm⟩ := I.frzK hd
    obtain ⟨rfl, rfl⟩ := dict_ep hod hdt
    have hl : kvs.length = vs.length := Paired.length kv
    obtain ⟨f0, f1, f2, f3, f4, f5⟩ := hf it (List.mem_cons_of_mem _ List.mem_cons_self)
    have ndi : d ≠ it := fun z => by rw [z, f0] at hd; cases hd
    subst hi
    rw [hl] at hit
    exact wpAny_pyNext_enum_endD (drawsKeys (A := X.A.in1) (I.ok.hd hc) it d ndi vs _) he ⟨hit, hm⟩ fun h' eb => ⟨rfl, I.turned (t' := s.toks) (fun b ob hb q => eb b ob hb q) f0 f1 f3 f4 f5⟩
  self := fun A i s Q E st h => let ⟨⟨_, he⟩, _⟩ := st; wpAny_pyIter_enum he h
theorem walk_enumK {d : Addr} {o : Obj} {kvs : List (Key × V)} : Walk (Itek d o kvs) kvs.length (fun H => H d = some (.frz o (.dK kvs))) (fun i H x H' => ∃ T k v, kvs[i]? = some (k, v) ∧ x = .ref T ∧ H T = none ∧ H' = upd H T (.tup [.int (i : Nat), kV k])) :=
  ⟨fun _ _ hi q => ⟨q, hi⟩, fun _ q => ⟨q, rfl⟩, fun _ _ _ _ _ _ y => y⟩
def iEnumK (ta : TA) : TI := fun σ H R => ta σ H fun vs H1 => ∃ d o kvs, vs = [.ref d] ∧ H1 d = some (.frz o (.dK kvs)) ∧ R (Itek d o kvs) H1
theorem pi_enumK {X : Cx} {e : Expr} {ta : TA} {p pos tpos : Pos} {elts : List Expr} {kk : Nat} (hg : Gl X "enumerate") (hm : X.mg "enumerate" = none) (ha : PA X [e] ta) (hs : starEach [e] X.env = [(false, eval e X.env)] := by rfl) :
    PI X (.Tuple elts kk tpos) (.Call (.Name "enumerate" p) [e] [] pos) (iEnumK ta) := by
  refine ⟨fun pins s σ H R I h => ?_⟩
  refine Call_ (ld_blt I hg hm boot_enumerate (PyProof.Rows.callWith_type1 (thn (ha.run pos pins s σ H _ I h) fun us s1 ⟨vs, H1, I1, r1, q1⟩ => ?_) hs rfl))
  obtain ⟨d, o, kvs, ex, hd, q⟩ := q1
  subst ex
  obtain ⟨u, rfl, rv⟩ := vals1 r1
  obtain rfl : u = Value.ref d := rv
  obtain ⟨hs2, hgd, hx, es, ep, vs2, hdt, hsz, kv, hm2⟩ := I1.frzK hd
  have B : Begins (.ref d) { cls := .type "dict_keyiterator", data := .fields #[.ref d, .int 0 0, .int es.size 0, .int ep 0] } fun h => h.get? d = some o :=
    ⟨fun prog w A E s Q hh q => iter_keys hs2 hh hx hdt q, fun h h' hh k => k _ _ hh, rfl⟩
  refine enumMake1 B hgd fun h' he hit hk => wpAny_pyIter_enum he ?_
  have I2 : Inv X pins σ H1 { s1 with heap := h' } := I1.kept (t' := s1.toks) hk
  refine ⟨s1.heap.objs.size + 1, [s1.heap.objs.size + 1, s1.heap.objs.size], _, _, H1, rfl, I2, turnEnumK (s1.heap.objs.size + 1) s1.heap.objs.size hdt, ⟨⟨.none, he⟩, ⟨_, hit, rfl, ?_⟩, Nat.succ_ne_self _⟩, fun b hb => ?_, q⟩
  · rw [hsz] <;> rfl
  · have hle : s1.heap.objs.size ≤ b := by
      rcases List.mem_cons.mp hb with z | z
      · rw [z]
        exact Nat.le_add_right _ _
      · rw [List.mem_singleton.mp z]
        exact Nat.le_refl _
    exact I1.fpOk hle (I1.hok.fresh hle)
/-- a dict comprehension over any walk -/
theorem dc_it {J : It} {n : Nat} {G : Hp → Prop} {Y : Nat → Hp → V → Hp → Prop} (w : Walk J n G Y) {g : TG} {tt : TT} {tk tv : TE} {vs : List Nat} {σ : L2.St} {H1 : Hp} {D : Addr} {Qd : Hp → Prop} (Pv : Nat → Hp → Prop) (h0 : Pv 0 (upd H1 D (.dK []))) (hG : ∀ i H, i ≤ n → Pv i H → G H)
    (hs : ∀ i x H H', i < n → Pv i H → Y i H x H' → g x (wipe σ vs) H' fun σ2 H2 => wipe σ2 vs = wipe σ vs ∧ tt σ2 H2 fun b H3 => if b = true then tk σ2 H3 fun y H4 => tv σ2 H4 fun z H5 => ∃ kvs k, y = kV k ∧ H5 D = some (.dK kvs) ∧ kvs.length < sizeLine ∧ Pv (i + 1) (upd H5 D (.dK (putK kvs k z))) else Pv (i + 1) H3)
    (hd : ∀ H, Pv n H → Qd H) :
    ∃ W : Nat → Nat → Hp → Prop, (∃ m, W 0 m (upd H1 D (.dK []))) ∧ ∀ i m H, W i m H → (J.stop i H ∧ Qd H) ∨ (J.go i H ∧ ∃ Nx : Hp → Prop, (∀ H', Nx H' → ∃ m', m' < m ∧ W (i + 1) m' H') ∧ ∀ x H', J.yld i H x H' → g x (wipe σ vs) H' fun σ2 H2 => wipe σ2 vs = wipe σ vs ∧ tt σ2 H2 fun b H3 =>
        if b = true then tk σ2 H3 fun y H4 => tv σ2 H4 fun z H5 => ∃ kvs k, y = kV k ∧ H5 D = some (.dK kvs) ∧ kvs.length < sizeLine ∧ Nx (upd H5 D (.dK (putK kvs k z))) else Nx H3) := by
  refine ⟨fun i m H => m = n - i ∧ i ≤ n ∧ Pv i H, ⟨n, Nat.sub_zero n |>.symm, Nat.zero_le _, h0⟩, fun i m H ⟨em, hi, pv⟩ => ?_⟩
  subst em
  rcases Nat.lt_or_eq_of_le hi with lt | rfl
  · exact .inr ⟨w.goes i H lt (hG i H hi pv), Pv (i + 1), fun H' p' => ⟨n - (i + 1), by omega, rfl, lt, p'⟩, fun x H' y => hs i x H H' lt pv (w.yields i H x H' lt (hG i H hi pv) y)⟩
  · exact .inl ⟨w.stops H (hG i H hi pv), hd H pv⟩
end L2
namespace Sn
open PySem PySem.Spec PyProof.Rows L2 Evl Gd
section
variable {tk tv td : TE} {tt : TT} {ta : TA} {g : TG} {σ : L2.St} {H : Hp} {Q : VK} {R : It → Hp → Prop}
theorem dc_of {wi : TI} {vs : List Nat} (h : wi σ H fun J H1 => ∀ D, H1 D = none → ∃ W : Nat → Nat → Hp → Prop, (∃ m, W 0 m (upd H1 D (.dK []))) ∧ ∀ i m H, W i m H →
  (J.stop i H ∧ Q (.ref D) H) ∨ (J.go i H ∧ ∃ Nx : Hp → Prop, (∀ H', Nx H' → ∃ m', m' < m ∧ W (i + 1) m' H') ∧ ∀ x H', J.yld i H x H' → g x (wipe σ vs) H' fun σ2 H2 => wipe σ2 vs = wipe σ vs ∧ tt σ2 H2 fun b H3 =>
    if b = true then tk σ2 H3 fun y H4 => tv σ2 H4 fun z H5 => ∃ kvs k, y = kV k ∧ H5 D = some (.dK kvs) ∧ kvs.length < sizeLine ∧ Nx (upd H5 D (.dK (putK kvs k z))) else Nx H3)) : tDc wi g tt tk tv vs σ H Q := h
theorem en_of (h : ta σ H fun vs H1 => ∃ d o kvs, vs = [.ref d] ∧ H1 d = some (.frz o (.dK kvs)) ∧ R (Itek d o kvs) H1) : iEnumK ta σ H R := h
theorem ks_of (h : td σ H fun x H1 => ∃ d o, x = .ref d ∧ ((∃ kvs, H1 d = some (.frz o (.dK kvs)) ∧ R (Itk d o kvs) H1) ∨ ∃ kvs, H1 d = some (.frz o (.dT kvs)) ∧ R (Itkt d o kvs) H1)) : iKeys td σ H R := h
end
end Sn
namespace Sn
open PySem PySem.Spec PyProof.Rows L2 Evl Gd Ex LamX
abbrev sRight : Stmt := topS 34
abbrev nRight : List Str := ["_law_box_here", "_law_shot_here", "_law_own", "_law_known", "_law_things", "_law_turn", "_law_some", "_law_near", "_law_thing", "_law_kept", "_law_is_link", "_law_told_here", "_law_due", "_law_link", "_law_again"]
theorem scRight : FnScope nRight ["_law_box_here"] (defScope sRight) := ⟨rfl, rfl, rfl, by decide +kernel, rfl, by decide +kernel, by decide +kernel⟩
/-- what the lambdas of _law_right are called -/
abbrev lamQ : Str := (envOfC "_law_right" (defScope sRight) 0 0 .none).qual ++ "<lambda>"
abbrev tabR (PT : Addr) : List (Addr × Str) := [(PT, lamQ)]
def spRight (PT : Addr) : Sp := fun vs H Q _ => ∃ (d : Addr) (n : Int), vs = [.ref d] ∧ Pot H d n ∧ n ≤ 500000 ∧ Tabs (tabR PT) H ∧ ∀ H', OffN d H H' → Tabs (tabR PT) H' → Pot H' d (n + 1000) → Q (.bl true) H'
/-- a def whose code object stands at c -/
structure FunT (K : PySem.W.Frag) (x qual : Str) (st : Stmt) (c f : Addr) (fd : FuncData) : Prop where
  ex : ∃ (oc : Value) (od : Option Addr) (kV doc pm : Value) (an : Option Addr) (ct : Value) (osl : Array (Option Value)),
    fd = PySem.W.fnOf x qual (defArgs st) (defBody st) (defScope st) .none kV doc pm an (.ref c) ct ∧ K.lookup f = some ⟨oc, od, .func fd, osl⟩ ∧ PySem.W.codeIn K (.ref c) qual = true
  kp : PySem.W.keepIn K (.ref f) = true
theorem fngT_of {P : Program} {w : World} {K : PySem.W.Frag} {mg : Str → Option Value} {base : Heap} {k : Nat} {f c : Addr} {fd : FuncData} {ps : List Str} {sp : Sp} {x qual : Str} {st : Stmt} {N : List Str} (F : FunT K x qual st c f fd) (S : FnScope N ps (defScope st)) (ar : ∀ vs H Q E, sp vs H Q E → vs.length = ps.length)
    (body : ∀ (A : Around) (outer : List Env) (s : Shared) (H : Hp) (vs : List V) (Q : VK) (E : XK), Room k (A.deeper (envOfC qual (defScope st) s.heap.objs.size f (.ref c))) → A.guards = some [] → sp vs H Q E →
      ∃ t, PSs (cxOf CX0 P w K mg base N qual (defScope st) f (.ref c) A outer s H E).nox (defBody st) t ∧ t { nx := fun _ H' => Q .non H', rt := Q } (start N vs) H) :
    FnG P w K mg base CX0 (k + 1) f fd ps sp := by
  obtain ⟨⟨oc, od, kV, doc, pm, an, ct, osl, rfl, look, code⟩, _⟩ := F
  refine ⟨ar, fun A room gd outer s H args us vs Q E env bind rel want => ?_⟩
  have inK : K.In s.heap := env.mod.kin.keeps (fun b o h => (env.bs b o h).1)
  have free : s.heap.NoLimit := env.mod.nolimit.keeps (fun b o h => (env.bs b o h).1)
  have hv := ar vs H Q E want
  refine Att.call_fn inK free look code room.depth bind ?_ (fun s1 inside => ?_) S.co S.gen S.kind
  · refine List.all_eq_true.mpr fun y hy => ?_
    have hp := S.par y.1 (List.of_mem_zip (show (y.1, y.2) ∈ ps.zip us from hy)).1
    rcases hp with q | q
    · rw [q]; rfl
    · rw [q]; rfl
  · obtain ⟨t, derive, reads⟩ := body A outer s H vs Q E (room.deeper _) gd want
    have inv := inv_start (CX := CX0) (E := E) S room.hd env hv rel inside
    refine wpAny_mono (derive.nox.run [] s1 (start N vs) H _ inv reads) ?_ (fun _ _ left => left)
    intro flow s2 post
    cases flow with
    | brk => exact (post.choose_spec.choose_spec).2.elim
    | cont => exact (post.choose_spec.choose_spec).2.elim
    | next =>
      obtain ⟨_, H2, J, q⟩ := post
      exact ⟨.non, H2, J.os, J.bare, J.base, J.hok, rfl, q⟩
    | ret u =>
      obtain ⟨v, _, H2, J, rv, q⟩ := post
      exact ⟨v, H2, J.os, J.bare, J.base, J.hok, rv, q⟩
theorem rep_ok {K : PySem.W.Frag} {x : V} {e : PyData} {H : Hp} {Q : VK} {k L : Nat} (h : Dp K H x e) (f : Fit e k L) (k1 : k ≤ 40) (l1 : L ≤ 90000) (q : Q (.str e.shown) H) : rReprD K [x] H Q :=
  ⟨x, e, rfl, h, f.sh, f.nd, Nat.le_trans f.dp k1, Nat.le_trans (Nat.le_trans f.ln l1) (by rw [sizeLine_eq]; decide), q⟩
theorem lnk_map {gs : List Arc} : gs.map lnkD = (gs.map Arc.link).map ksD := by
  rw [List.map_map]
  rfl
theorem lnkD_links {gs hs : List Arc} (h : gs.map lnkD = hs.map lnkD) : gs.map Arc.link = hs.map Arc.link := by
  induction gs generalizing hs with
  | nil =>
    cases hs with
    | nil => rfl
    | cons b bs => cases h
  | cons a as ih =>
    cases hs with
    | nil => cases h
    | cons b bs =>
      rw [List.map_cons, List.map_cons] at h ⊢
      obtain ⟨h1, h2⟩ := List.cons.inj h
      rw [links_inj h1, ih h2]
theorem lnks_dp {K : PySem.W.Frag} {H : Hp} : ∀ {ys : List V} {gs : List Arc}, Paired (LnkA H) ys gs → DpAll K H ys (gs.map lnkD)
  | _, _, .nil => .nil
  | _, _, .cons ⟨l, e, hl⟩ b => by
    rw [e]
    exact .cons (.tup (st_of hl) (kVs_td _).dp) (lnks_dp b)
theorem paired_app {α β : Type} {R : α → β → Prop} {b : List α} {d : List β} (h : Paired R b d) : ∀ {a : List α} {c : List β}, Paired R a c → Paired R (a ++ b) (c ++ d)
  | _, _, .nil => h
  | _, _, .cons x y => .cons x (paired_app h y)
/-- a list of links != [] -/
theorem ne_links {K : PySem.W.Frag} {H : Hp} {l b : Addr} {ys : List V} {gs : List Arc} {Q : VK} (hl : H l = some (.lst ys)) (pr : Paired (LnkA H) ys gs) (dl : ∀ g ∈ gs, DLink g.link) (hb : H b = some (.lst [])) (q : Q (.bl (decide (gs ≠ []))) H) : rNeD K (.ref l) (.ref b) H Q := by
  have dl' : ∀ k ∈ gs.map Arc.link, DLink k := fun k hk => by
    obtain ⟨g, hg, rfl⟩ := List.mem_map.mp hk
    exact dl g hg
  refine ⟨.list (gs.map lnkD), .list [], .lst (sq_of hl) (lnks_dp pr), .lst (sq_of hb) .nil, ?_, by rfl, ?_⟩
  · unfold SeqAt.shaped
    rw [lnk_map, PyData.canLay0, lay_links dl', Bool.true_and, PyData.depth]
    have := dep_links dl'
    exact decide_eq_true (by omega)
  · have : (!PyData.eqv (.list (gs.map lnkD)) (.list [])) = decide (gs ≠ []) := by
      cases gs with
      | nil => rfl
      | cons g gs => rfl
    rw [this]
    exact q
theorem lst_ne {H : Hp} {d l : Addr} {n : Int} {ys : List V} {gs : List Arc} (p : Pot H d n) (h : H l = some (.lst ys)) (pr : Paired (LnkA H) ys gs) : l ≠ d := fun z => by
  obtain ⟨g, b, m, h0, _⟩ := p
  rw [z, h0] at h
  cases h
  cases pr with
  | cons a _ =>
    obtain ⟨_, e, _⟩ := a
    cases e
theorem Tabs.off {T : List (Addr × Str)} {H H' : Hp} {d : Addr} {n : Int} (p : Pot H d n) (o : Off d H H') (t : Tabs T H) : Tabs T H' := by
  obtain ⟨g, b, m, h0, _⟩ := p
  have ne : ∀ {a : Addr} {u : HO}, H a = some u → (∀ xs, u ≠ .lst xs) → a ≠ d := fun {a u} h n z => by
    rw [z, h0] at h
    exact n _ (Option.some.inj h).symm
  intro q hq
  obtain ⟨ps, h1, h2, h3⟩ := t q hq
  refine ⟨ps, o _ _ (ne h1 (fun _ z => nomatch z)) h1, h2, fun pos cv hc => ?_⟩
  obtain ⟨c, e1, e2⟩ := h3 pos cv hc
  refine ⟨c, e1, o _ _ (ne e2 (fun xs z => ?_)) e2⟩
  unfold CodeO at z
  cases z
theorem lnk_off {H H' : Hp} {d : Addr} {n : Int} {ys : List V} {gs : List Arc} (p : Pot H d n) (o : OffN d H H') (pr : Paired (LnkA H) ys gs) : Paired (LnkA H') ys gs := L2.Paired.mapP pr fun _ _ z => z.offN p o
/-- some of these links, three at most -/
theorem some_of {K : PySem.W.Frag} {d px op D1 tp : Addr} {y5 y6 y7 y8 y9 y10 y11 y12 : Option V} {H : Hp} {Q : VK} {n : Int} {ys : List V} {βs : List Arc} (pot : Pot H d n) (hn : n ≤ 900000) (hop : H op = some (.lst ys)) (prl : Paired (LnkA H) ys βs) (dl : ∀ β ∈ βs, DLink β.link) (bl : βs.length ≤ 1000)
    (q : ∀ (Hs : Hp) (sl : Addr) (vs : List V) (gs : List Arc), Off d H Hs → Pot Hs d (n + 4) → Hs sl = some (.lst vs) → Paired (LnkA Hs) vs gs → (∀ g ∈ gs, g ∈ βs) → gs.length ≤ 3 → Q (.ref sl) Hs) :
    tIf (tTest (tOp (rNeD K) (tVar 2) (tLst tNil))) (tLc (iRng1 (tCons (tCall spTake [] E0 (tCons (tVar 0) (tCons (tC (.int 4)) tNil))) tNil)) (gName 14) tYes (tCall spOf [] E0 (tCons (tVar 0) (tCons (tVar 2) tNil))) [14]) (tLst tNil)
      [some (.ref d), some (.ref px), some (.ref op), some (.ref D1), some (.ref tp), y5, y6, y7, y8, y9, y10, y11, y12, none, none] H Q := by
  have nop := lst_ne pot hop prl
  refine if_of (test_of (op_of (v_of rfl (lst_of (n_of ⟨Nat.zero_le _, fun b0 hb0 => ne_links ((Ex.new hb0) _ _ hop) (L2.Paired.mapP prl fun _ _ z => z.ex (Ex.new hb0)) dl upd_same ⟨_, rfl, ?_⟩⟩)))))
  have e1 := Ex.new hb0 (o := .lst [])
  have hop1 := e1 _ _ hop
  have prl1 : Paired (LnkA (upd H b0 (.lst []))) ys βs := L2.Paired.mapP prl fun _ _ z => z.ex e1
  have p1 := pot.ex e1
  generalize upd H b0 (.lst []) = H1 at e1 hop1 prl1 p1 ⊢
  by_cases c : βs = []
  · rw [decide_eq_false (fun z => z c), if_neg Bool.false_ne_true]
    refine lst_of (n_of ⟨Nat.zero_le _, fun b hb => q _ b [] [] ((Off.of e1).trans (Off.of (Ex.new hb))) ((p1.ex (Ex.new hb)).up (by omega)) upd_same .nil (fun _ h => absurd h List.not_mem_nil) (Nat.zero_le _)⟩)
  · rw [decide_eq_true c, if_pos rfl]
    refine lc_of (r1_of (c_of (call_of (c_of (v_of rfl (c_of (k_of (n_of ⟨d, n, 4, rfl, p1, by omega, by decide, by decide, fun H2 r o2 p2 r0 r1 => n_of ⟨r, rfl, by omega, by omega, fun D hD => lc_range (lo := 0) (n := r.toNat) (fun i H' => Off d H2 H' ∧ Pot H' d (n + 1 + (i : Int)) ∧ ∃ vs gs, H' D = some (.lst vs) ∧ vs.length = i ∧ Paired (LnkA H') vs gs ∧ ∀ g ∈ gs, g ∈ βs) ⟨Off.of (Ex.new hD), (p2.updD (p2.ne hD)).up (by omega), [], [], upd_same, rfl, .nil, fun _ h => absurd h List.not_mem_nil⟩ ?_ ?_⟩⟩))))))))
    · rintro i H' hi ⟨o3, p3, vs, gs, hD', vl, pr3, gin⟩
      refine ⟨rfl, ?_⟩
      dsimp only [tYes]
      rw [if_pos rfl]
      have o13 := o2.trans o3
      have yb := Paired.length prl1
      have b0 : 0 < βs.length := List.length_pos_iff.mpr c
      refine call_of (c_of (v_of rfl (c_of (v_of rfl (n_of ⟨d, op, _, ys, rfl, p3, by omega, nop, o13 _ _ nop hop1, by omega, by omega, fun H4 x hx o4 p4 => ?_⟩)))))
      obtain ⟨j, hj⟩ := List.mem_iff_getElem?.mp hx
      obtain ⟨g, hg, lg⟩ := paired_at prl1 hj
      have nD : D ≠ d := p2.ne hD
      have hD4 := o4 _ _ nD hD'
      have lg4 : LnkA H4 x g := lg.offN p1 (OffN.of (o13.trans o4))
      have kp : ∀ {o : HO} {y β}, LnkA H4 y β → LnkA (upd H4 D o) y β := fun {o y β} ⟨t, e1, h1⟩ => ⟨t, e1, by rw [upd_ne (ne_of h1 hD4 (fun z => nomatch z))]; exact h1⟩
      refine ⟨vs, hD4, sz_lt (by omega), ((o3.trans o4).fresh hD), (p4.updD nD).up (by push_cast; omega), vs ++ [x], gs ++ [g], upd_same, by rw [List.length_append, vl]; rfl, paired_snoc (kp lg4) (L2.Paired.mapP (lnk_off p3 (OffN.of o4) pr3) fun _ _ z => kp z), fun g' m => ?_⟩
      rcases List.mem_append.mp m with m | m
      · exact gin g' m
      · rw [List.mem_singleton.mp m]
        exact List.mem_of_getElem? hg
    · rintro H' ⟨o3, p3, vs, gs, hD', vl, pr3, gin⟩
      have := Paired.length pr3
      exact q H' D vs gs ((Off.of e1).trans (o2.trans o3)) (p3.up (by omega)) hD' pr3 gin (by omega)
/-- a value near a link -/
theorem near_of {K : PySem.W.Frag} {σ : L2.St} {d tp : Addr} {H : Hp} {Q : VK} {n : Int} {ys : List V} {βs : List Arc} (pot : Pot H d n) (hn : n ≤ 900000) (htp : H tp = some (.lst ys)) (prl : Paired (LnkA H) ys βs) (dl : ∀ β ∈ βs, DLink β.link) (bl : βs.length ≤ 1000)
    (v0 : ∀ {H : Hp} {R : VK}, R (.ref d) H → tVar 0 σ H R) (v4 : ∀ {H : Hp} {R : VK}, R (.ref tp) H → tVar 4 σ H R)
    (q : ∀ (Hs : Hp) (v : V) (e : PyData), Off d H Hs → Pot Hs d (n + 10) → Av K (· = d) Hs v e → Fit5 e → Q v Hs) :
    tIf (tTest (tOp (rNeD K) (tVar 4) (tLst tNil))) (tCall (spBent K 1) [] E0 (tCons (tVar 0) (tCons (tCall spOf [] E0 (tCons (tVar 0) (tCons (tVar 4) tNil))) tNil))) (tTup (tCons (tC (.str "root")) (tCons (tC (.str "a")) tNil))) σ H Q := by
  have nop := lst_ne pot htp prl
  refine if_of (test_of (op_of (v4 (lst_of (n_of ⟨Nat.zero_le _, fun b0 hb0 => ne_links ((Ex.new hb0) _ _ htp) (L2.Paired.mapP prl fun _ _ z => z.ex (Ex.new hb0)) dl upd_same ⟨_, rfl, ?_⟩⟩)))))
  have e1 := Ex.new hb0 (o := .lst [])
  have htp1 := e1 _ _ htp
  have prl1 : Paired (LnkA (upd H b0 (.lst []))) ys βs := L2.Paired.mapP prl fun _ _ z => z.ex e1
  have p1 := pot.ex e1
  generalize upd H b0 (.lst []) = H1 at e1 htp1 prl1 p1 ⊢
  by_cases c : βs = []
  · rw [decide_eq_false (fun z => z c), if_neg Bool.false_ne_true]
    refine tup_of (c_of (k_of (c_of (k_of (n_of ⟨by show 2 ≤ sizeLine; decide, fun b hb => q _ (.ref b) (.tuple [.str "root", .str "a"]) ((Off.of e1).trans (Off.of (Ex.new hb))) ((p1.ex (Ex.new hb)).up (by omega)) (.tup (p1.ne hb) upd_same (.cons (.str _) (.cons (.str _) .nil))) ?_⟩)))))
    exact (siz_lnk (g := ⟨[.inr "root", .inr "a"], [], 0⟩) (.inl ⟨_, rfl, name_len _ (by decide)⟩)).fit5 (by decide) (by decide) (by decide)
  · rw [decide_eq_true c, if_pos rfl]
    have yb := Paired.length prl1
    have b0 : 0 < βs.length := List.length_pos_iff.mpr c
    refine call_of (c_of (v0 (c_of (call_of (c_of (v0 (c_of (v4 (n_of ⟨d, tp, n, ys, rfl, p1, by omega, nop, htp1, by omega, by omega, fun H2 x hx o2 p2 => n_of ?_⟩)))))))))
    obtain ⟨j, hj⟩ := List.mem_iff_getElem?.mp hx
    obtain ⟨g, hg, lg⟩ := paired_at prl1 hj
    have lg2 : LnkA H2 x g := lg.offN p1 (OffN.of o2)
    have held : Held (· = d) H2 := fun a z c => by
      obtain ⟨_, _, _, h0, _⟩ := p2
      rw [z, h0] at c
      cases c
    refine ⟨(· = d), d, n + 1, x, lnkD g, 0, 60, rfl, rfl, held, p2, by omega, lnk_av p2 lg2, siz_lnk (dl g (List.mem_of_getElem? hg)), by decide, by decide, fun H3 y e' o3 p3 av sz => ?_⟩
    exact q H3 y e' ((Off.of e1).trans (o2.trans o3)) (p3.up (by omega)) av (sz.fit5 (by decide) (by decide) (by decide))
theorem drawn_arcs {s : Shot} (h : Drawn s) : (arcsOf s).length ≤ 200 := by
  have h1 := arcs_len s 10 fun t ht => (h.th t ht).1.1
  have h2 := h.rl
  have h3 := h.len
  omega
/-- what is answered at v: told what dies, or that it is no link -/
def Answer (H : Hp) (s : Shot) (t : Addr) (v : V) (e : PyData) : Prop := (GoodS s e ∧ ∃ (g : Arc) (tt : Addr) (ns : List Int), e = lnkD g ∧ H t = some (.tup [.str "told", .ref tt]) ∧ H tt = some (.tup (ns.map V.int)) ∧ ns.Pairwise (· < ·) ∧ ∀ n, n ∈ ns ↔ Live (arcsOf s) n ∧ ¬ Live (keptA [g.link] (arcsOf s)) n) ∨ (¬ GoodS s e ∧ H t = some (.tup [.str "link", v]))
section
variable {K : PySem.W.Frag} {σ : L2.St} {H1 : Hp} {Q : VK} {px d CE CO CL CT CB CF : Addr} {s : Shot} {v : V} {e : PyData}
theorem asked1 (tS : TdS K H1 (.ref px) s) (dr : Drawn s) (av : Av K (· = d) H1 v e) (fe : Fit5 e) (er : Errs K CE CO CL CT CB CF CL 1) (v1 : ∀ {H : Hp} {R : VK}, R (.ref px) H → tVar 1 σ H R) (v8 : ∀ {H : Hp} {R : VK}, R v H → tVar 8 σ H R)
    (q : ∀ H2 t, Ex H1 H2 → Answer H2 s t v e → Q (.ref t) H2) : TAsked K CE CO CL CT CB CF (fun E H' Q' => tCallS (spDwoA K CL) E (tCons (tVar 1) (tCons (tVar 8) tNil)) σ H' Q') H1 Q := by
  unfold TAsked
  refine callS_of (c_of (v1 (c_of (v8 (n_of ⟨.ref px, s, (· = d), [v], [e], rfl, tS, dr.ok, dr.links, .cons av .nil, by show 1 ≤ 1000; decide, fun e' h => by rw [List.mem_singleton.mp h]; exact fe.shw, fun gs eg hg H' t ns e1 ht asc iff => ⟨by show 2 ≤ sizeLine; decide, fun p hp => ?_⟩, fun i y e' hy he nb _ H' dd e1 hd => ?_⟩)))))
  · cases gs with
    | nil => cases eg
    | cons g gs =>
      cases gs with
      | cons _ _ => cases eg
      | nil =>
        have eg' : e = lnkD g := by
          rw [List.map_cons] at eg
          exact (List.cons.inj eg).1
        have e2 := Ex.new hp (o := .tup [.str "told", .ref t])
        refine q _ p (e1.trans e2) (.inl ⟨?_, g, t, ns, eg', upd_same, e2 _ _ ht, asc, iff⟩)
        rw [eg']
        exact ⟨g, (hg g List.mem_cons_self).1, rfl, (hg g List.mem_cons_self).2⟩
  · obtain rfl : i = 0 := by
      have := (List.getElem?_eq_some_iff.mp hy).1
      rw [List.length_singleton] at this
      omega
    cases hy
    cases he
    exact ⟨1, v, ⟨CL, dd, rfl, rfl, hd, er⟩, fun H2 t e2 _ h2 => q H2 t (e1.trans e2) (.inr ⟨nb, h2⟩)⟩
theorem asked2 {sl : Addr} {vs : List V} {gs : List Arc} {n : Int} (pot : Pot H1 d n) (hsl : H1 sl = some (.lst vs)) (prs : Paired (LnkA H1) vs gs) (goods : ∀ g ∈ gs, g ∈ arcsOf s ∧ ∀ m ∈ g.src, Live (arcsOf s) m) (dl : ∀ g ∈ gs, DLink g.link) (gl : gs.length ≤ 3)
    (tS : TdS K H1 (.ref px) s) (dr : Drawn s) (av : Av K (· = d) H1 v e) (fe : Fit5 e) (er : Errs K CE CO CL CT CB CF CL 1) (v1 : ∀ {H : Hp} {R : VK}, R (.ref px) H → tVar 1 σ H R) (v6 : ∀ {H : Hp} {R : VK}, R (.ref sl) H → tVar 6 σ H R) (v8 : ∀ {H : Hp} {R : VK}, R v H → tVar 8 σ H R)
    (q : ∀ H2 t xs, Ex H1 H2 → H2 t = some (.tup xs) → (¬ GoodS s e → xs = [.str "link", v]) → Q (.ref t) H2) :
    TAsked K CE CO CL CT CB CF (fun E H' Q' => tCall (spToldA K CL) [] E (tCons (tVar 1) (tCons (tOp rCat (tSl (rSlL K) (tVar 6) tNoPart (tPart (tC (.int 2)))) (tLst (tCons (tVar 8) tNil))) tNil)) σ H' Q') H1 Q := by
  unfold TAsked
  have vl := Paired.length prs
  have avs : AvAll K (· = d) H1 vs (gs.map lnkD) := lnks_av pot prs
  obtain ⟨fs, afs, fin, _⟩ := avs.cut none (some 2)
  have cl : (cutV vs none (some 2)).length ≤ 2 := by
    unfold cutV
    have := HT.sIx_nat vs.length vs.length 2
    rw [List.length_take]
    show min (HT.sIx vs.length vs.length (some ((2 : Nat) : Int)) - _) _ ≤ 2
    rw [this]
    omega
  have fl := afs.len
  have goodF : ∀ e' ∈ fs, GoodS s e' := fun e' h => by
    obtain ⟨g, hg, rfl⟩ := List.mem_map.mp (fin e' h)
    exact ⟨g, (goods g hg).1, rfl, (goods g hg).2⟩
  refine call_of (c_of (v1 (c_of (op_of (v6 ⟨2, rfl, sl, vs, rfl, sq_of hsl, fun p1 h1 => lst_of (c_of (v8 (n_of ⟨by show 1 ≤ sizeLine; decide, fun p2 h2 => ⟨p1, p2, cutV vs none (some 2), [v], rfl, rfl, (Ex.new h2) _ _ upd_same, upd_same, by rw [sizeLine_eq, List.length_singleton]; omega, fun p3 h3 => n_of ?_⟩⟩)))⟩)))))
  have e3 := ((Ex.new h1 (o := .lst (cutV vs none (some 2)))).trans (Ex.new h2 (o := .lst [v]))).trans (Ex.new h3 (o := .lst (cutV vs none (some 2) ++ [v])))
  refine ⟨.ref px, p3, s, (· = d), _, fs ++ [e], rfl, upd_same, tS.ex e3, dr.ok, dr.links, AvAll.app (.cons (av.ex e3) .nil) (afs.ex e3), by rw [List.length_append, List.length_singleton]; omega, fun e' h => ?_, fun gs' eg hg H' t ns e1 ht asc iff => ⟨by show 2 ≤ sizeLine; decide, fun p hp => ?_⟩, fun i y e' hy he nb be H' dd e1 hd => ?_⟩
  · rcases List.mem_append.mp h with h | h
    · obtain ⟨g, hg, rfl⟩ := List.mem_map.mp (fin e' h)
      exact ((siz_lnk (dl g hg)).fit5 (by decide) (by decide) (by decide)).shw
    · rw [List.mem_singleton.mp h]
      exact fe.shw
  · refine q _ p _ ((e3.trans e1).trans (Ex.new hp)) upd_same fun nb => ?_
    refine absurd ?_ nb
    have : e ∈ gs'.map lnkD := by
      rw [← eg]
      exact List.mem_append_right _ (List.mem_singleton_self _)
    obtain ⟨g, hg', rfl⟩ := List.mem_map.mp this
    exact ⟨g, (hg g hg').1, rfl, (hg g hg').2⟩
  · have il : i = fs.length := by
      have h1 := (List.getElem?_eq_some_iff.mp he).1
      rw [List.length_append, List.length_singleton] at h1
      by_cases c : i < fs.length
      · rw [List.getElem?_append_left c] at he
        exact absurd (goodF e' (List.mem_of_getElem? he)) nb
      · omega
    subst il
    have ey : y = v := by
      rw [← fl, List.getElem?_append_right (Nat.le_refl _), Nat.sub_self] at hy
      cases hy
      rfl
    subst ey
    exact ⟨1, y, ⟨CL, dd, rfl, rfl, hd, er⟩, fun H2 t e2 _ h2 => q H2 t _ ((e3.trans e1).trans e2) h2 fun _ => rfl⟩
end
theorem lam_of {T : List (Addr × Str)} {TT : (XK → Hp → VK → Prop) → Hp → VK → Prop} {t : XK → TE} {σ : L2.St} {H : Hp} {Q : VK} (h : Tabs T H ∧ ∀ H1, ExtN H H1 → Tabs T H1 → TT (fun E H' Q' => t E σ H' Q') H1 Q) : tLam T TT t σ H Q := h
theorem Tabs.lst {T : List (Addr × Str)} {H : Hp} {l : Addr} {xs ys : List V} (hl : H l = some (.lst xs)) (t : Tabs T H) : Tabs T (upd H l (.lst ys)) := by
  intro q hq
  obtain ⟨ps, h1, h2, h3⟩ := t q hq
  refine ⟨ps, by rw [upd_ne (ne_of h1 hl (fun z => nomatch z))]; exact h1, h2, fun pos cv hc => ?_⟩
  obtain ⟨c, e1, e2⟩ := h3 pos cv hc
  refine ⟨c, e1, ?_⟩
  rw [upd_ne (fun z => by
    rw [z, hl] at e2
    unfold CodeO at e2
    cases e2)]
  exact e2
theorem ints_av {K : PySem.W.Frag} {D : Addr → Prop} {H : Hp} : ∀ ns : List Int, AvAll K D H (ns.map V.int) (ns.map .int)
  | [] => .nil
  | n :: ns => .cons (.int n) (ints_av ns)
theorem tup_ne {H : Hp} {d l : Addr} {n : Int} {xs : List V} (p : Pot H d n) (h : H l = some (.tup xs)) : l ≠ d := fun z => by
  obtain ⟨g, b, m, h0, _⟩ := p
  rw [z, h0] at h
  cases h
/-- what is due at a value: the same as was answered -/
theorem due_of {K : PySem.W.Frag} {σ : L2.St} {H : Hp} {Q : VK} {px d t1 t2 : Addr} {s : Shot} {n : Int} {v : V} {e : PyData} {isl : Bool} {xs : List V} (tx : Td K H (.ref px) (dShot s)) (dr : Drawn s) (pot : Pot H d n) (av : Av K (· = d) H v e) (fe : Fit5 e) (hi : isl = true ↔ GoodS s e) (ans : Answer H s t1 v e) (h2 : H t2 = some (.tup xs)) (an2 : ¬ GoodS s e → xs = [.str "link", v])
    (v1 : ∀ {H : Hp} {R : VK}, R (.ref px) H → tVar 1 σ H R) (v8 : ∀ {H : Hp} {R : VK}, R v H → tVar 8 σ H R) (v10 : ∀ {H : Hp} {R : VK}, R (.bl isl) H → tVar 10 σ H R)
    (q : ∀ (H' : Hp) (du : Addr) (δ : PyData), Ex H H' → Av K (· = d) H' (.ref t1) δ → Av K (· = d) H' (.ref du) δ → Shw δ → (isl = false → Av K (· = d) H' (.ref t2) δ) → Q (.ref du) H') :
    tIf (tB (tVar 10)) (tTup (tCons (tC (.str "told")) (tCons (tCall (spDying K) [] E0 (tCons (tVar 1) (tCons (tTup tNil) (tCons (tLst (tCons (tVar 8) tNil)) tNil)))) tNil))) (tTup (tCons (tC (.str "link")) (tCons (tVar 8) tNil))) σ H Q := by
  refine if_of (test_of (v10 ⟨isl, rfl, ?_⟩))
  by_cases good : GoodS s e
  · have il := hi.mpr good
    rw [if_pos il]
    rcases ans with ⟨_, g, tt, ns, rfl, ht1, htt, asc, iff⟩ | ⟨nb, _⟩
    · have lv : Paired (LnkA H) [v] [g] := lnk_of (gs := [g]) (.cons av .nil)
      obtain ⟨g', hg', eg, _⟩ := good
      have gl : DLink g.link := by
        rw [links_inj eg]
        exact dr.dlink hg'
      refine tup_of (c_of (k_of (c_of (call_of (c_of (v1 (c_of (tup_of (n_of ⟨Nat.zero_le _, fun g0 hg0 => c_of (lst_of (c_of (v8 (n_of ⟨by show 1 ≤ sizeLine; decide, fun c0 hc0 => n_of ?_⟩))))⟩)))))))))
      have e1 := (Ex.new hg0 (o := .tup [])).trans (Ex.new hc0 (o := .lst [v]))
      refine ⟨.ref px, g0, c0, s, [], [g.link], rfl, tx.ex e1, dr.fair, .inr (st_of ((Ex.new hc0 (o := .lst [v])) _ _ upd_same)), .inr ⟨[v], upd_same, lnks_dp (L2.Paired.mapP lv fun _ _ z => z.ex e1), fun l hl => ?_, fun α h => dr.dlink h⟩, fun Hu u ms e3 hu0 hu asc2 iff2 => n_of ⟨by show 2 ≤ sizeLine; decide, fun du hdu => ?_⟩⟩
      · rw [List.mem_singleton.mp hl]
        exact gl
      rw [leftC_kept] at iff2
      have en : ms = ns := asc_uniq asc2 asc fun m => (iff2 m).trans (iff m).symm
      subst en
      have sm : (∀ n ∈ ms, 0 ≤ n ∧ n ≤ 200) ∧ ms.length ≤ 12 := by
        have lv : ∀ n ∈ ms, Live (arcsOf s) n := fun n hn => ((iff n).mp hn).1
        refine ⟨fun n hn => ?_, dr.few (asc.imp fun {a b} h => by omega) lv⟩
        cases lv n hn with
        | mk a _ => exact dr.nums _ (dr.tgts a)
      have e4 := e1.trans e3
      have e5 := e4.trans (Ex.new hdu (o := .tup [.str "told", .ref u]))
      have p5 := pot.ex e5
      have hu5 := (Ex.new hdu (o := .tup [.str "told", .ref u])) _ _ hu
      refine q _ du (.tuple [.str "told", .tuple (ms.map .int)]) e5 (.tup (tup_ne p5 (e5 _ _ ht1)) (e5 _ _ ht1) (.cons (.str _) (.cons (.tup (tup_ne p5 (e5 _ _ htt)) (e5 _ _ htt) (ints_av ms)) .nil))) (.tup (tup_ne p5 upd_same) upd_same (.cons (.str _) (.cons (.tup (tup_ne p5 hu5) hu5 (ints_av ms)) .nil))) (pair_shw (by decide) (ints_fit5 sm.1 sm.2)) fun z => ?_
      rw [il] at z
      cases z
    · exact absurd good nb
  · have il : isl = false := by
      cases c : isl with
      | false => rfl
      | true => exact absurd (hi.mp c) good
    rw [il, if_neg Bool.false_ne_true]
    rcases ans with ⟨g, _⟩ | ⟨_, ht1⟩
    · exact absurd g good
    · refine tup_of (c_of (k_of (c_of (v8 (n_of ⟨by show 2 ≤ sizeLine; decide, fun du hdu => ?_⟩)))))
      have e1 := Ex.new hdu (o := .tup [.str "link", v])
      have p1 := pot.ex e1
      have ex := an2 good
      rw [ex] at h2
      have mk : ∀ {t : Addr}, (upd H du (.tup [.str "link", v])) t = some (.tup [.str "link", v]) → Av K (· = d) (upd H du (.tup [.str "link", v])) (.ref t) (.tuple [.str "link", e]) := fun h => .tup (tup_ne p1 h) h (.cons (.str _) (.cons (av.ex e1) .nil))
      exact q _ du _ e1 (mk (e1 _ _ ht1)) (mk upd_same) (pair_shw (by decide) fe) fun _ => mk (e1 _ _ h2)
section
variable {P : Program} {w : World} {K : PySem.W.Frag} {mg : Str → Option Value} {base : Heap}
theorem ok_right {f fS fK fW fF fT fD fB fO fA fU fG cR PT CE CO CL CT CB CF : Addr} {fd fdS fdK fdW fdF fdT fdD fdB fdO fdA fdU fdG : FuncData} (F : FunT K "_law_right" "_law_right" sRight cR f fd)
    (FS : Fun K "_law_shot" "_law_shot" sShot fS fdS) (FK : Fun K "_law_links" "_law_links" sLinks fK fdK) (FW : Fun K "_law_ways" "_law_ways" sWays fW fdW) (FF : Fun K "_law_of" "_law_of" sOf fF fdF) (FT : Fun K "_law_take" "_law_take" sTake fT fdT) (FD : Fun K "_law_dying" "_law_dying" sDying fD fdD) (FB : Fun K "_law_bent" "_law_bent" sBent fB fdB) (FO : Fun K "_law_odd" "_law_odd" sOdd fO fdO) (FA : Fun K "_law_asked" "_law_asked" sAsked fA fdA) (FU : Fun K "_law_told" "_law_told" sTold fU fdU) (FG : Fun K "dies_without" "dies_without" sDwo fG fdG)
    (bS : Binds K fdS ["_law_box_here", "_law_most"] []) (bK : Binds K fdK ["_law_shot_here"] []) (bW : Binds K fdW ["_law_shot_here"] []) (bF : Binds K fdF ["_law_box_here", "_law_some"] []) (bT : Binds K fdT ["_law_box_here", "_law_many"] []) (bD : Binds K fdD ["_law_shot_here", "_law_gone", "_law_cut"] []) (bB : Binds K fdB ["_law_box_here", "_law_thing"] []) (bO : Binds K fdO ["_law_box_here", "_law_thing"] []) (bA : Binds K fdA ["_law_ask"] []) (bU : Binds K fdU ["_law_shot_here", "_law_some"] [])
    (gS : mg "_law_shot" = some (.ref fS)) (gK : mg "_law_links" = some (.ref fK)) (gW : mg "_law_ways" = some (.ref fW)) (gF : mg "_law_of" = some (.ref fF)) (gT : mg "_law_take" = some (.ref fT)) (gD : mg "_law_dying" = some (.ref fD)) (gB : mg "_law_bent" = some (.ref fB)) (gO : mg "_law_odd" = some (.ref fO)) (gA : mg "_law_asked" = some (.ref fA)) (gU : mg "_law_told" = some (.ref fU)) (gG : mg "dies_without" = some (.ref fG))
    (mE : mg "HeapError" = some (.ref CE)) (mO : mg "NoObject" = some (.ref CO)) (mNL : mg "NoLink" = some (.ref CL)) (mTM : mg "TooMany" = some (.ref CT)) (mBT : mg "BadText" = some (.ref CB)) (mFa : mg "Fault" = some (.ref CF)) (mI : mg "isinstance" = none) (mV : mg "ValueError" = none) (mP : mg "repr" = none) (mR : mg "range" = none)
    (TB : TabB base mg cR PT) (er : Errs K CE CO CL CT CB CF CL 1)
    (GS' : FnOk P w K mg base CX0 4 fS fdS ["_law_box_here", "_law_most"] (spShot K)) (GK' : FnOk P w K mg base CX0 3 fK fdK ["_law_shot_here"] (spLinks K)) (GD' : FnOk P w K mg base CX0 3 fD fdD ["_law_shot_here", "_law_gone", "_law_cut"] (spDying K)) (GB' : ∀ j : Nat, FnOk P w K mg base CX0 (3 + j + 1) fB fdB ["_law_box_here", "_law_thing"] (spBent K j)) (GO' : FnOk P w K mg base CX0 3 fO fdO ["_law_box_here", "_law_thing"] (spOdd K))
    (GF' : FnOk P w K mg base CX0 2 fF fdF ["_law_box_here", "_law_some"] spOf) (GG' : FnRG P w K mg base (L2.CX P w) 4 fG (spDwoA K CL)) (GU : FnG P w K mg base (L2.CX P w) 6 fU fdU ["_law_shot_here", "_law_some"] (spToldA K CL)) : FnG P w K mg base CX0 9 f fd ["_law_box_here"] (spRight PT) := by
  have GS : FnOk P w K mg base CX0 8 fS fdS ["_law_box_here", "_law_most"] (spShot K) := GS'.mono (by decide)
  have GK : FnOk P w K mg base CX0 8 fK fdK ["_law_shot_here"] (spLinks K) := GK'.mono (by decide)
  have GW : FnOk P w K mg base CX0 8 fW fdW ["_law_shot_here"] (spWays K) := (ok_ways FW).mono (by decide)
  have GF : FnOk P w K mg base CX0 8 fF fdF ["_law_box_here", "_law_some"] spOf := GF'.mono (by decide)
  have GT : FnOk P w K mg base CX0 8 fT fdT ["_law_box_here", "_law_many"] spTake := (ok_take FT).mono (by decide)
  have GD : FnOk P w K mg base CX0 8 fD fdD ["_law_shot_here", "_law_gone", "_law_cut"] (spDying K) := GD'.mono (by decide)
  have GB : FnOk P w K mg base CX0 8 fB fdB ["_law_box_here", "_law_thing"] (spBent K 1) := (GB' 1).mono (by decide)
  have GO : FnOk P w K mg base CX0 8 fO fdO ["_law_box_here", "_law_thing"] (spOdd K) := GO'.mono (by decide)
  have GG : FnRG P w K mg base (L2.CX P w) 6 fG (spDwoA K CL) := GG'.up (by decide)
  have GU8 : FnG P w K mg base (L2.CX P w) 8 fU fdU ["_law_shot_here", "_law_some"] (spToldA K CL) := GU.up (by decide)
  obtain ⟨oA, odA, kA, docA, pmA, anA, cA, ctA, oslA, rfl, lkA, hcA⟩ := FA.ex
  refine fngT_of F scRight (fun vs H Q E h => ?_) (fun A outer s0 H vs Q E hr gd h => ?_)
  · obtain ⟨d, n, rfl, _⟩ := h
    rfl
  · obtain ⟨d, n, rfl, pot, hn, tabs, q⟩ := h
    have hu := hu_of hr
    refine ⟨_, pss_cons (ps_asg (pe_tup (pa_cons (pe_call GS hr (by rfl) gS FS.kp bS .nil pass0 (pa_cons (pv 0) <| pa_cons pe_int pa_nil)) <| pa_cons (pe_lst pa_nil) pa_nil)) (pg_tup (n := 2) rfl (pgs_cons (pg_name (i := 1) scRight.nd rfl (.inr rfl)) <| pgs_cons (pg_name (i := 2) scRight.nd rfl (.inr rfl)) pgs_nil))) <|
      pss_cons (ps_set (i := 2) scRight.nd rfl (.inr rfl) (pe_call GK hr (by rfl) gK FK.kp bK .nil pass0 (pa_cons (pv 1) pa_nil))) <|
      pss_cons (ps_par (i := 3) (j := 4) rfl scRight.nd rfl rfl (by decide) rfl rfl (pa_cons (pe_lc (own := [("_law_link", 13)]) (g := gName 13) (tt := tYes) (te := tCB (rReprD K) (tCons (tVar 13) tNil)) rfl scRight.nd (pi_list (pv 2)) (blkOk_by (N := nRight) (sc := defScope sRight) (by decide +kernel))
            (fun _ _ _ _ _ => pg_name (i := 13) scRight.nd rfl (.inl rfl)) (fun _ _ _ _ _ => pts_nil) (fun _ _ _ _ _ => pe_callB (call_reprD gd hr.units) (by rfl) mP boot_repr (pa_cons (pv 13) pa_nil))) <|
          pa_cons (pe_op op_cat (pv 2) (pe_lc (own := [("_law_link", 13)]) (g := gName 13) (tt := tYes) (te := tVar 13) rfl scRight.nd (pi_keys (pe_lockT (pe_call GW hr (by rfl) gW FW.kp bW .nil pass0 (pa_cons (pv 1) pa_nil)))) (blkOk_by (N := nRight) (sc := defScope sRight) (by decide +kernel))
            (fun _ _ _ _ _ => pg_name (i := 13) scRight.nd rfl (.inl rfl)) (fun _ _ _ _ _ => pts_nil) (fun _ _ _ _ _ => pv 13))) pa_nil) (by rfl)) <|
      pss_cons (ps_for PassesOwn.never rfl (pi_range1 (by rfl) mR (pa_cons pe_int pa_nil)) (pg_name (i := 5) scRight.nd rfl (.inl rfl))
        (pss_cons (ps_set (i := 6) scRight.nd rfl (.inr rfl) (pe_ifExp (pt_cmpR (op_neD hr.units) (pv 2) (pe_lst pa_nil) (nomark _)) (pe_lc (own := [("_law_again", 14)]) (g := gName 14) (tt := tYes) (te := tCall spOf [] E0 (tCons (tVar 0) (tCons (tVar 2) tNil))) rfl scRight.nd (pi_range1 (by rfl) mR (pa_cons (pe_call GT hr (by rfl) gT FT.kp bT .nil pass0 (pa_cons (pv 0) <| pa_cons pe_int pa_nil)) pa_nil)) (blkOk_by (N := nRight) (sc := defScope sRight) (by decide +kernel))
            (fun _ _ _ _ _ => pg_name (i := 14) scRight.nd rfl (.inl rfl)) (fun _ _ _ _ _ => pts_nil) (fun _ _ _ _ _ => pe_call GF hr (by rfl) gF FF.kp bF .nil pass0 (pa_cons (pv 0) <| pa_cons (pv 2) pa_nil))) (pe_lst pa_nil))) <|
        pss_cons (ps_if (pt_cmpR op_ne (pe_callB (call_reprD gd hr.units) (by rfl) mP boot_repr (pa_cons (pe_callG GU8 hr gd (by rfl) gU FU.kp bU .nil passN (pa_cons (pv 1) <| pa_cons (pv 6) pa_nil)) pa_nil)) (pe_callB (call_reprD gd hr.units) (by rfl) mP boot_repr (pa_cons (pe_call GD hr (by rfl) gD FD.kp bD .nil pass0 (pa_cons (pv 1) <| pa_cons (pe_tup pa_nil) <| pa_cons (pv 6) pa_nil)) pa_nil)) (nomark _)) (pss_one (ps_ret pe_bl)) pss_nil) <|
        pss_cons (ps_set (i := 7) scRight.nd rfl (.inl rfl) (pe_ifExp (pt_cmpR (op_neD hr.units) (pv 4) (pe_lst pa_nil) (nomark _)) (pe_call GB hr (by rfl) gB FB.kp bB .nil pass0 (pa_cons (pv 0) <| pa_cons (pe_call GF hr (by rfl) gF FF.kp bF .nil pass0 (pa_cons (pv 0) <| pa_cons (pv 4) pa_nil)) pa_nil)) (pe_tup (pa_cons pe_str <| pa_cons pe_str pa_nil)))) <|
        pss_one (ps_for PassesOwn.never rfl (pi_tup (pe_tup (pa_cons (pv 7) <| pa_cons (pe_call GF hr (by rfl) gF FF.kp bF .nil pass0 (pa_cons (pv 0) <| pa_cons (pe_op op_cat (pv 4) (pe_lst (pa_cons (pe_tup (pa_cons pe_str <| pa_cons pe_int <| pa_cons pe_int pa_nil)) pa_nil))) pa_nil)) <| pa_cons (pe_call GO hr (by rfl) gO FO.kp bO .nil pass0 (pa_cons (pv 0) <| pa_cons (pe_tup (pa_cons pe_str <| pa_cons pe_int <| pa_cons pe_int pa_nil)) pa_nil)) <| pa_cons pe_non pa_nil))) (pg_name (i := 8) scRight.nd rfl (.inr rfl))
          (pss_cons (ps_set (i := 9) scRight.nd rfl (.inl rfl) (pe_callB (call_reprA gd hr.units) (by rfl) mP boot_repr (pa_cons (pv 8) pa_nil))) <|
          pss_cons (ps_set (i := 10) scRight.nd rfl (.inl rfl) (pe_cmpR op_in_seq (pv 9) (pv 3) (by rfl))) <|
          pss_cons (ps_set (i := 11) scRight.nd rfl (.inl rfl) (pe_lst (pa_cons (pe_lamG (T := tabR PT) (k := 6) (t := fun E => tCallS (spDwoA K CL) E (tCons (tVar 1) (tCons (tVar 8) tNil))) gd (by rfl) gA FA.kp lkA hcA bA scAsked rfl (.inl rfl) (asked_gives mE mO mNL mTM mBT mFa mI mV) TB rfl (List.mem_singleton.mpr rfl) (fun p hp _ => by rw [List.mem_singleton.mp hp]; rfl) hr (show LamS (defScope sRight) _ from lamS_by (by decide +kernel)) rfl (fun _ _ _ _ _ => rfl)
              (fun A outer s H E fl cc ga rk => pe_callS GG rk ga (by rfl) gG FG.kp (passes_call (takes_of rfl rfl rfl rfl) (fun _ _ _ _ h => h)) (pa_cons (pv 1) <| pa_cons (pv 8) pa_nil))) pa_nil))) <|
          pss_cons (ps_expr (pe_bm PySem.F.plainAttrs_list PySem.F.slot_list_append PySem.F.type_list_append mt_append (pv 11) (pa_cons (pe_lamG (T := tabR PT) (k := 6) (t := fun E => tCall (spToldA K CL) [] E (tCons (tVar 1) (tCons (tOp rCat (tSl (rSlL K) (tVar 6) tNoPart (tPart (tC (.int 2)))) (tLst (tCons (tVar 8) tNil))) tNil))) gd (by rfl) gA FA.kp lkA hcA bA scAsked rfl (.inl rfl) (asked_gives mE mO mNL mTM mBT mFa mI mV) TB rfl (List.mem_singleton.mpr rfl) (fun p hp _ => by rw [List.mem_singleton.mp hp]; rfl) hr (show LamS (defScope sRight) _ from lamS_by (by decide +kernel)) rfl (fun _ _ _ _ _ => rfl)
              (fun A outer s H E fl cc ga rk => pe_callG GU rk ga (by rfl) gU FU.kp bU .nil (passes_call (takes_of rfl rfl rfl rfl) (fun _ _ _ _ h => h)) (pa_cons (pv 1) <| pa_cons (pe_op op_cat (pe_slice sl_list (pv 6) po_none (po_some pe_int)) (pe_lst (pa_cons (pv 8) pa_nil))) pa_nil))) pa_nil))) <|
          pss_cons (ps_set (i := 12) scRight.nd rfl (.inl rfl) (pe_ifExp (pt_val (pv 10)) (pe_tup (pa_cons pe_str <| pa_cons (pe_call GD hr (by rfl) gD FD.kp bD .nil pass0 (pa_cons (pv 1) <| pa_cons (pe_tup pa_nil) <| pa_cons (pe_lst (pa_cons (pv 8) pa_nil)) pa_nil)) pa_nil)) (pe_tup (pa_cons pe_str <| pa_cons (pv 8) pa_nil)))) <|
          pss_cons (ps_if (pw_or (pt_cmpR op_ne (pe_callB (call_reprA gd hr.units) (by rfl) mP boot_repr (pa_cons (pe_ix ix_list (pv 11) pe_int (fun _ _ => rfl)) pa_nil)) (pe_callB (call_reprA gd hr.units) (by rfl) mP boot_repr (pa_cons (pv 12) pa_nil)) (nomark _)) (pw_or1 (pt_cmpR op_ne (pe_callB (call_reprA gd hr.units) (by rfl) mP boot_repr (pa_cons (pv 8) pa_nil)) (pv 9) (nomark _)))).pt (pss_one (ps_ret pe_bl)) pss_nil) <|
          pss_one (ps_if (pw_and (pt_not (pt_val (pv 10))) (pw_and1 (pt_cmpR op_ne (pe_callB (call_reprA gd hr.units) (by rfl) mP boot_repr (pa_cons (pe_ix ix_list (pv 11) pe_int (fun _ _ => rfl)) pa_nil)) (pe_callB (call_reprA gd hr.units) (by rfl) mP boot_repr (pa_cons (pv 12) pa_nil)) (nomark _)))).pt (pss_one (ps_ret pe_bl)) pss_nil))))) <|
      pss_one (ps_ret pe_bl), ?_⟩
    refine seq_of (asgG_of (tup_of (c_of (call_of (c_of (v_of rfl (c_of (k_of (n_of ⟨d, n, 10, rfl, by decide, by decide, pot, by omega, fun H1 x s o1 p1 tx dr ⟨_, tS⟩ => ?_⟩)))))))))
    obtain ⟨px, pr, po, rs, os, rfl, sp, plr, tr, spo, to⟩ := id tS
    refine c_of (lst_of (n_of ⟨Nat.zero_le _, fun a0 h0 => n_of ⟨by show 2 ≤ sizeLine; decide, fun t2 h2 => ⟨t2, _, rfl, st_of upd_same, rfl, .ref px, _, rfl, .ref a0, _, rfl, rfl, ?_⟩⟩⟩))
    have e2 := (Ex.new h0 (o := .lst [])).trans (Ex.new h2 (o := .tup [.ref px, .ref a0]))
    generalize upd (upd H1 a0 (.lst [])) t2 (.tup [.ref px, .ref a0]) = H2 at e2 ⊢
    dsimp only
    refine seq_of (asg_of (call_of (c_of (v_of rfl (n_of ⟨.ref px, s, rfl, tx.ex e2, dr.fair, fun H3 op ys βs e3 hop _ prl hβ bl => ?_⟩)))))
    have e13 := e2.trans e3
    have dlb : ∀ β ∈ βs, DLink β.link := fun β h => dr.dlink ((hβ β).mp h).1
    have bl2 := drawn_arcs dr
    have bl : βs.length ≤ 200 := by omega
    have yl := Paired.length prl
    dsimp only
    refine seq_of (par_of (c_of (lc_of (iL_of (v_of rfl ⟨op, rfl, ⟨_, sq_of hop⟩, fun D1 hD1 => lc_list (xs := ys) (fun i H' => Ex H3 H' ∧ H' D1 = some (.lst ((βs.take i).map fun β => V.str (lnkD β).shown))) ⟨Ex.new hD1, upd_same⟩ (fun i H' _ h => sq_of (h.1 _ _ hop)) ?_ ?_⟩)))))
    · rintro i x' H' hx ⟨e5, h5⟩
      obtain ⟨β, hb, l, rfl, hl⟩ := paired_at prl hx
      have il : i < βs.length := (List.getElem?_eq_some_iff.mp hb).1
      refine ⟨rfl, ?_⟩
      dsimp only [tYes]
      rw [if_pos rfl]
      refine cb_of (c_of (v_of rfl (n_of (rep_ok (e := lnkD β) (.tup (st_of (e5 _ _ hl)) (kVs_td _).dp) (dlb β (List.mem_of_getElem? hb)).fit (by decide) (by decide) ?_))))
      refine ⟨_, h5, sz_lt (by rw [List.length_map, List.length_take]; omega), Ex.mut e5 hD1, ?_⟩
      rw [upd_same, take_one hb, List.map_append]
      rfl
    rintro H4 ⟨e4, hD4⟩
    rw [yl, List.take_length] at hD4
    have e14 := e13.trans e4
    have hop4 := e4 _ _ hop
    have prl4 : Paired (LnkA H4) ys βs := L2.Paired.mapP prl fun _ _ z => z.ex e4
    refine c_of (op_of (v_of rfl (lc_of (ks_of (lockT_of (call_of (c_of (v_of rfl (n_of ⟨.ref px, s, rfl, tx.ex e14, dr.fair, fun H5 wd zs e5 hwd0 hwd hzs hways => ⟨wd, _, rfl, hwd, fun od => ⟨wd, od, rfl, .inr ⟨_, upd_same, fun D2 hD2 => lc_it walk_keysT (fun i H' => Ex H4 H' ∧ H' wd = some (.frz od (.dT (tabW zs))) ∧ ∃ us, H' D2 = some (.lst us) ∧ Paired (LnkA H') us ((arcsOf s).take i)) ?_ (fun i H' _ h => h.2.1) ?_ ?_⟩⟩⟩⟩)))))))))
    · exact ⟨(Ex.mut e5 hwd0).trans (Ex.new hD2), (Ex.new hD2) _ _ upd_same, [], upd_same, .nil⟩
    · rintro i x' H0 H' hi ⟨e, hw, us, hD', pr⟩ ⟨rfl, k, v, q1, hkv, rfl, hq1⟩
      obtain ⟨z, hz, ez⟩ := map_at hkv
      cases ez
      have haj : (arcsOf s)[i]? = some z.2 := by
        rw [← hzs, List.getElem?_map, hz]
        rfl
      have il : i < (arcsOf s).length := (List.getElem?_eq_some_iff.mp haj).1
      have al := dr.ok.arcs
      have ul := Paired.length pr
      rw [List.length_take] at ul
      have wn : D2 ≠ wd := (ne_of_none (upd_same (H := H5) (a := wd)) hD2).symm
      refine ⟨rfl, ?_⟩
      dsimp only [tYes]
      rw [if_pos rfl]
      have kp : ∀ {o : HO} {y β}, LnkA H' y β → LnkA (upd H' D2 o) y β := fun {o y β} ⟨t, e1, h1⟩ => ⟨t, e1, by rw [upd_ne (ne_of h1 hD' (fun z => nomatch z))]; exact h1⟩
      refine v_of rfl ⟨us, hD', sz_lt (by omega), Ex.mut e (fresh_back (Ex.mut e5 hwd0) hD2), ?_, us ++ [.ref q1], upd_same, ?_⟩
      · rw [upd_ne wn.symm]
        exact hw
      · rw [take_one haj]
        exact paired_snoc (kp ⟨q1, rfl, hq1⟩) (L2.Paired.mapP pr fun y β h => kp h)
    rintro H6 ⟨e6, hw6, us, hD6, pr6⟩
    have zl : (tabW zs).length = (arcsOf s).length := by
      rw [List.length_map, ← hzs, List.length_map]
    rw [zl, List.take_length] at pr6
    have ul := Paired.length pr6
    have al := dr.ok.arcs
    refine ⟨op, D2, ys, us, rfl, rfl, e6 _ _ hop4, hD6, by rw [sizeLine_eq]; omega, fun tp htp => n_of ⟨_, _, rfl, ?_⟩⟩
    have e7 := Ex.new htp (o := .lst (ys ++ us))
    have e47 := e6.trans e7
    have htp7 : (upd H6 tp (.lst (ys ++ us))) tp = some (.lst (ys ++ us)) := upd_same
    have hD7 := e47 _ _ hD4
    have hop7 := e47 _ _ hop4
    have pr7 : Paired (LnkA (upd H6 tp (.lst (ys ++ us)))) (ys ++ us) (βs ++ arcsOf s) := paired_app (L2.Paired.mapP pr6 fun _ _ z => z.ex e7) (L2.Paired.mapP prl4 fun _ _ z => z.ex e47)
    have e17 := e14.trans e47
    have prl7 : Paired (LnkA (upd H6 tp (.lst (ys ++ us)))) ys βs := L2.Paired.mapP prl4 fun _ _ z => z.ex e47
    generalize upd H6 tp (.lst (ys ++ us)) = H7 at htp7 hD7 hop7 pr7 e17 prl7 ⊢
    have p7 := p1.ex e17
    have nop := lst_ne p7 hop7 prl7
    have ntp := lst_ne p7 htp7 pr7
    have nD1 : D1 ≠ d := (p1.ex e13).ne hD1
    have tx7 := tx.ex e17
    have tS7 := tS.ex e17
    have T7 : Tabs (tabR PT) H7 := (Tabs.off pot o1 tabs).ext e17
    have dla : ∀ g ∈ βs ++ arcsOf s, DLink g.link := fun g hg => (List.mem_append.mp hg).elim (dlb g) dr.dlink
    have oH : OffN d H H7 := (OffN.of o1).trans (OffN.ofEx e17)
    clear e7 e47 hD6 pr6 hw6 e6 hwd hways hwd0 e5 hD4 prl4 hop4 e4 e14 e17 o1 p1 tx tS tabs pot e13 hop prl e3 e2 h0 h2 hD1 hD2 htp
    dsimp only
    refine seq_of (for_of (r1_of (c_of (k_of (n_of ⟨10, rfl, by decide, by decide, for_range (lo := 0) (n := 10) (fun i σ' Hc => ∃ y5 y6 y7 y8 y9 y10 y11 y12, σ' = [some (.ref d), some (.ref px), some (.ref op), some (.ref D1), some (.ref tp), y5, y6, y7, y8, y9, y10, y11, y12, none, none] ∧ OffN d H7 Hc ∧ Tabs (tabR PT) Hc ∧ Pot Hc d (n + 600 + 30 * (i : Int))) ⟨_, _, _, _, _, _, _, _, rfl, OffN.refl d H7, T7, p7.up (by omega)⟩ ?_ ?_⟩)))))
    · rintro i σ' Hc hi ⟨y5, y6, y7, y8, y9, y10, y11, y12, rfl, oc, Tc, pc⟩
      have kp : KeepP K H7 Hc := KeepP.offN p7 oc
      have txc := tx7.keep kp.1
      have tSc := tS7.kp kp
      have hopc := oc _ _ nop ntL hop7
      have hDc := oc _ _ nD1 ntL hD7
      have htpc := oc _ _ ntp ntL htp7
      have prlc := lnk_off p7 oc prl7
      have prc := lnk_off p7 oc pr7
      dsimp only [gName]
      refine seq_of (asg_of (some_of pc (by omega) hopc prlc dlb (by omega) fun Hs sl vs gs os ps hsl prs gin gl => ?_))
      have oNs := OffN.of (d := d) os
      have kps : KeepP K Hc Hs := KeepP.offN pc oNs
      have Ts := Tabs.off pc os Tc
      have txs := txc.keep kps.1
      have tSs := tSc.kp kps
      have avs : AvAll K (· = d) Hs vs (gs.map lnkD) := lnks_av ps prs
      have shws : ∀ e ∈ gs.map lnkD, Shw e := fun e he => by
        obtain ⟨g, hg, rfl⟩ := List.mem_map.mp he
        exact ((siz_lnk (dlb g (gin g hg))).fit5 (by decide) (by decide) (by decide)).shw
      have goods : ∀ e ∈ gs.map lnkD, GoodS s e := fun e he => by
        obtain ⟨g, hg, rfl⟩ := List.mem_map.mp he
        obtain ⟨h1, h2⟩ := (hβ g).mp (gin g hg)
        exact ⟨g, h1, rfl, h2⟩
      have small : ∀ {ns : List Int} {zs : List (List Key)}, ns.Pairwise (· < ·) → (∀ n, n ∈ ns ↔ Live (arcsOf s) n ∧ ¬ Live (keptA zs (arcsOf s)) n) → (∀ n ∈ ns, 0 ≤ n ∧ n ≤ 200) ∧ ns.length ≤ 12 := fun {ns zs} asc iff => by
        have lv : ∀ n ∈ ns, Live (arcsOf s) n := fun n hn => ((iff n).mp hn).1
        refine ⟨fun n hn => ?_, dr.few (asc.imp fun {a b} h => by omega) lv⟩
        cases lv n hn with
        | mk a _ => exact dr.nums _ (dr.tgts a)
      dsimp only
      refine seq_of (ifS_of (test_of (op_of (cb_of (c_of (call_of (c_of (v_of rfl (c_of (v_of rfl (n_of ⟨.ref px, sl, s, (· = d), vs, gs.map lnkD, rfl, hsl, tSs, dr.ok, dr.links, avs, by rw [List.length_map]; exact gl, shws, ⟨fun hs e1 hg Ht t ns e2 ht asc iff => n_of ?_, fun i y e hy he nb _ H' dd _ _ => nb (goods e (List.mem_of_getElem? he))⟩⟩)))))))))))
      have eL := lnkD_links e1
      rw [← eL] at iff
      obtain ⟨sm, nl⟩ := small asc iff
      have fi := ints_fit5 sm nl
      refine rep_ok (e := .tuple (ns.map .int)) (.tup (st_of ht) (dp_ints ns)) (k := 1) (L := 200) ((FitAll.map (k := 0) (a := 10) fun n hn => fit_int (i := n) ⟨(sm n hn).1, by have := (sm n hn).2; omega⟩).tup.up (by decide) (by omega)) (by decide) (by decide) ?_
      refine cb_of (c_of (call_of (c_of (v_of rfl (c_of (tup_of (n_of ⟨Nat.zero_le _, fun g0 hg0 => c_of (v_of rfl (n_of ⟨.ref px, g0, sl, s, [], gs.map Arc.link, rfl, (txs.ex e2).ex (Ex.new hg0), dr.fair, .inr (st_of upd_same), .inr ⟨vs, (Ex.new hg0) _ _ (e2 _ _ hsl), ?_, ?_, fun α h => dr.dlink h⟩, fun Hu u ms e3 hu0 hu asc2 iff2 => n_of ?_⟩))⟩)))))))
      · rw [← lnk_map]
        exact lnks_dp (L2.Paired.mapP prs fun _ _ z => (z.ex e2).ex (Ex.new hg0))
      · intro l hl
        obtain ⟨g, hg, rfl⟩ := List.mem_map.mp hl
        exact dlb g (gin g hg)
      rw [leftC_kept] at iff2
      have en : ms = ns := asc_uniq asc2 asc fun m => (iff2 m).trans (iff m).symm
      subst en
      refine rep_ok (e := .tuple (ms.map .int)) (.tup (st_of hu) (dp_ints ms)) (k := 1) (L := 200) ((FitAll.map (k := 0) (a := 10) fun n hn => fit_int (i := n) ⟨(sm n hn).1, by have := (sm n hn).2; omega⟩).tup.up (by decide) (by omega)) (by decide) (by decide) ⟨rfl, _, rfl, ?_⟩
      rw [decide_eq_true rfl, if_neg (show ¬ (!true) = true from Bool.false_ne_true)]
      have e4 := (e2.trans (Ex.new hg0 (o := .tup []))).trans e3
      have oU := oNs.trans (OffN.ofEx e4)
      have pU := ps.ex e4
      have TU := Ts.ext e4
      have hslU := e4 _ _ hsl
      have prsU := L2.Paired.mapP prs fun _ _ z => z.ex e4
      have txU := txs.ex e4
      have tSU := tSs.ex e4
      have hDU := oU _ _ nD1 ntL hDc
      have htpU := oU _ _ ntp ntL htpc
      have prU := lnk_off pc oU prc
      clear e4 e3 e2 iff iff2 hu hu0 hg0 ht asc asc2 fi nl sm
      have goodA : ∀ g ∈ gs, g ∈ arcsOf s ∧ ∀ m ∈ g.src, Live (arcsOf s) m := fun g hg => (hβ g).mp (gin g hg)
      have dlg : ∀ g ∈ gs, DLink g.link := fun g hg => dlb g (gin g hg)
      dsimp only [tNext]
      refine seq_of (asg_of (near_of pU (by omega) htpU prU dla (by rw [List.length_append]; omega) (v_of rfl) (v_of rfl) fun Hv nv ne' ov pv avn fn => ?_))
      have oV := OffN.of (d := d) ov
      have TV := Tabs.off pU ov TU
      have hslV := ov _ _ (lst_ne pU hslU prsU) hslU
      have prsV := lnk_off pU oV prsU
      have kpV : KeepP K _ Hv := KeepP.offN pU oV
      have txV := txU.keep kpV.1
      have tSV := tSU.kp kpV
      have hDV := ov _ _ nD1 hDU
      have htpV := ov _ _ ntp htpU
      have prV := lnk_off pU oV prU
      have dl6 : DLink [.inr "slot", .inl 0, .inl 6] := .inr (.inl ⟨0, 6, rfl, by decide, by decide⟩)
      dsimp only
      refine for_of (iT_of (tup_of (c_of (v_of rfl (c_of (call_of (c_of (v_of rfl (c_of (op_of (v_of rfl (lst_of (c_of (tup_of (c_of (k_of (c_of (k_of (c_of (k_of (n_of ⟨by show 3 ≤ sizeLine; decide, fun t3 ht3 => n_of ⟨by show 1 ≤ sizeLine; decide, fun l1 hl1 => ⟨tp, l1, ys ++ us, [.ref t3], rfl, rfl, ?_, upd_same, by rw [sizeLine_eq, List.length_append, List.length_singleton]; omega, fun l2 hl2 => n_of ?_⟩⟩⟩)))))))))))))))))))))
      · exact (Ex.new hl1) _ _ ((Ex.new ht3) _ _ htpV)
      have e3 := (Ex.new ht3 (o := .tup [.str "slot", .int 0, .int 6])).trans (Ex.new hl1 (o := .lst [.ref t3]))
      have e4 := e3.trans (Ex.new hl2 (o := .lst ((ys ++ us) ++ [.ref t3])))
      have pr4 : Paired (LnkA (upd (upd (upd Hv t3 (.tup [.str "slot", .int 0, .int 6])) l1 (.lst [.ref t3])) l2 (.lst ((ys ++ us) ++ [.ref t3])))) ((ys ++ us) ++ [.ref t3]) ((βs ++ arcsOf s) ++ [⟨[.inr "slot", .inl 0, .inl 6], [], 0⟩]) :=
        paired_snoc ⟨t3, rfl, ((Ex.new hl1 (o := .lst [.ref t3])).trans (Ex.new hl2 (o := .lst ((ys ++ us) ++ [.ref t3])))) _ _ upd_same⟩ (L2.Paired.mapP prV fun _ _ z => z.ex e4)
      have hl24 : (upd (upd (upd Hv t3 (.tup [.str "slot", .int 0, .int 6])) l1 (.lst [.ref t3])) l2 (.lst ((ys ++ us) ++ [.ref t3]))) l2 = some (.lst ((ys ++ us) ++ [.ref t3])) := upd_same
      have p4 := pv.ex e4
      generalize upd (upd (upd Hv t3 (.tup [.str "slot", .int 0, .int 6])) l1 (.lst [.ref t3])) l2 (.lst ((ys ++ us) ++ [.ref t3])) = HA at e4 pr4 hl24 p4 ⊢
      have len4 := Paired.length pr4
      rw [List.length_append, List.length_append, List.length_singleton, List.length_append, List.length_append, List.length_singleton] at len4
      refine ⟨d, l2, _, _, rfl, p4, by omega, lst_ne p4 hl24 pr4, hl24, by rw [List.length_append, List.length_singleton]; omega, by rw [List.length_append, List.length_append, List.length_singleton]; omega, fun HB x hx oB pB => ?_⟩
      obtain ⟨jx, hjx⟩ := List.mem_iff_getElem?.mp hx
      obtain ⟨gx, hgx, lgx⟩ := paired_at pr4 hjx
      have dgx : DLink gx.link := by
        rcases List.mem_append.mp (List.mem_of_getElem? hgx) with h | h
        · exact dla gx h
        · rw [List.mem_singleton.mp h]
          exact dl6
      have lgB : LnkA HB x gx := lgx.offN p4 (OffN.of oB)
      refine c_of (call_of (c_of (v_of rfl (c_of (tup_of (c_of (k_of (c_of (k_of (c_of (k_of (n_of ⟨by show 3 ≤ sizeLine; decide, fun t4 ht4 => n_of ?_⟩))))))))))))
      have e5 := Ex.new ht4 (o := .tup [.str "slot", .int 0, .int 0])
      have p5 := pB.ex e5
      have held : Held (· = d) (upd HB t4 (.tup [.str "slot", .int 0, .int 0])) := fun a z c => by
        obtain ⟨_, _, _, h0, _⟩ := p5
        rw [z, h0] at c
        cases c
      refine ⟨(· = d), d, _, .ref t4, lnkD ⟨[.inr "slot", .inl 0, .inl 0], [], 0⟩, 0, 0, 60, rfl, rfl, held, p5, by omega, .tup (pB.ne ht4) upd_same (.cons (.str _) (.cons (.int _) (.cons (.int _) .nil))), siz_lnk (.inr (.inl ⟨0, 0, rfl, by decide, by decide⟩)), by decide, by decide, fun HC yo eo oC pC avo szo => ?_⟩
      refine c_of (k_of (n_of ⟨by show 4 ≤ sizeLine; decide, fun tt htt => ⟨tt, rfl, ⟨_, st_of upd_same⟩, ?_⟩⟩))
      have e6 := Ex.new htt (o := .tup [nv, x, yo, .non])
      have oBC : Off d HB HC := (Off.of e5).trans oC
      have oAC : OffN d Hv HC := (OffN.ofEx e4).trans ((OffN.of oB).trans (OffN.of oBC))
      have oVH : OffN d Hv (upd HC tt (.tup [nv, x, yo, .non])) := oAC.trans (OffN.ofEx e6)
      have avs4 : AvAll K (· = d) (upd HC tt (.tup [nv, x, yo, .non])) [nv, x, yo, .non] [ne', lnkD gx, eo, .none] :=
        .cons (avn.offN oVH) (.cons (lnk_av (pC.ex e6) (lgB.offN pB ((OffN.of oBC).trans (OffN.ofEx e6)))) (.cons (avo.ex e6) (.cons .non .nil)))
      have fits : ∀ e ∈ [ne', lnkD gx, eo, .none], Fit5 e := fun e he => by
        simp only [List.mem_cons, List.not_mem_nil, or_false] at he
        rcases he with rfl | rfl | rfl | rfl
        · exact fn
        · exact (siz_lnk dgx).fit5 (by decide) (by decide) (by decide)
        · exact szo.fit5 (by decide) (by decide) (by decide)
        · exact ⟨by rw [fine], by decide, by decide +kernel⟩
      have TC : Tabs (tabR PT) (upd HC tt (.tup [nv, x, yo, .non])) := (Tabs.off p5 oC ((Tabs.off p4 oB (TV.ext e4)).ext e5)).ext e6
      have tt0 : (upd HC tt (.tup [nv, x, yo, .non])) tt = some (.tup [nv, x, yo, .non]) := upd_same
      have p6 := pC.ex e6
      have kpC : KeepP K Hv (upd HC tt (.tup [nv, x, yo, .non])) := KeepP.offN pv oVH
      have txC := txV.keep kpC.1
      have tSC := tSV.kp kpC
      have hslC := oVH _ _ (lst_ne pv hslV prsV) ntL hslV
      have prsC := lnk_off pv oVH prsV
      have hDC := oVH _ _ nD1 ntL hDV
      have oSC := ((oU.trans oV).trans oVH)
      generalize upd HC tt (.tup [nv, x, yo, .non]) = HX at oVH avs4 TC tt0 p6 txC tSC hslC prsC hDC oSC ⊢
      clear e6 e5 e4 e3 kpC avn avo szo pr4 hl24 p4 lgB oAC oBC oB oC pC pB p5 held htt ht4 hl2 hl1 ht3 hjx hgx hx lgx
      refine for_tup (xs := [nv, x, yo, .non]) (fun j σ' Hy => ∃ y8 y9 y10 y11 y12, σ' = [some (.ref d), some (.ref px), some (.ref op), some (.ref D1), some (.ref tp), some (.int (0 + (i : Int))), some (.ref sl), some nv, y8, y9, y10, y11, y12, none, none] ∧ ExtN HX Hy ∧ Tabs (tabR PT) Hy) ⟨_, _, _, _, _, rfl, ExtN.refl HX, TC⟩ (fun j σ' Hy _ ⟨_, _, _, _, _, _, en, _⟩ => st_of (en _ _ tt0 ntT)) ?_ ?_
      · rintro j v σ' Hy hv ⟨y8, y9, y10, y11, y12, rfl, en, Ty⟩
        obtain ⟨e, he, av0⟩ := avs4.get hv
        have fe := fits e (List.mem_of_getElem? he)
        have oXY := OffN.ofN (d := d) en
        have av : Av K (· = d) Hy v e := av0.offN oXY
        have kpY : KeepP K HX Hy := KeepP.offN p6 oXY
        have txY := txC.keep kpY.1
        have tSY := tSC.kp kpY
        have hslY := en _ _ hslC ntL
        have prsY := lnk_off p6 oXY prsC
        have pY := p6.extN en
        have eD : (βs.map fun β => V.str (lnkD β).shown) = (βs.map fun β => (lnkD β).shown).map V.str := by
          rw [List.map_map]
          rfl
        have hDY := en _ _ hDC ntL
        rw [eD] at hDY
        dsimp only [gName]
        refine seq_of (asg_of (cb_of (c_of (v_of rfl (n_of (repA_of av fe.shw ?_))))))
        dsimp only
        refine seq_of (asg_of (op_of (v_of rfl (v_of rfl ⟨D1, _, rfl, .inl (sq_of hDY), rfl, flat_strs _, ?_⟩))))
        rw [if_neg Bool.false_ne_true, inV_strs]
        have hi : decide (e.shown ∈ βs.map fun β => (lnkD β).shown) = true ↔ GoodS s e := decide_eq_true_iff.trans (known_is dr hβ)
        generalize decide (e.shown ∈ βs.map fun β => (lnkD β).shown) = isl at hi ⊢
        dsimp only
        refine seq_of (asg_of (lst_of (c_of (lam_of ⟨Ty, fun H1 n1 T1 => asked1 (d := d) (tSY.kp (KeepP.offN pY (OffN.ofN n1))) dr (av.offN (OffN.ofN n1)) fe er (v_of rfl) (v_of rfl) fun H2 t1 e2 ans => n_of ⟨by show 1 ≤ sizeLine; decide, fun tl htl => ?_⟩⟩))))
        have n2 : ExtN Hy H2 := n1.trans (ExtN.of e2)
        have p2 := pY.extN n2
        have T2 := T1.ext e2
        have e3 := Ex.new htl (o := .lst [.ref t1])
        have htl3 : (upd H2 tl (.lst [.ref t1])) tl = some (.lst [.ref t1]) := upd_same
        have n3 : ExtN Hy (upd H2 tl (.lst [.ref t1])) := n2.trans (ExtN.of e3)
        have T3 := T2.ext e3
        have tlY : ∀ a o, Hy a = some o → (∀ ps, o ≠ .tbl ps) → a ≠ tl := fun a o ha nt z => by
          have := n2 a o ha nt
          rw [z, htl] at this
          cases this
        have ans3 : Answer (upd H2 tl (.lst [.ref t1])) s t1 v e := by
          rcases ans with ⟨g, g', tt', ns, eg, a1, a2, r⟩ | ⟨nb, a1⟩
          · exact .inl ⟨g, g', tt', ns, eg, e3 _ _ a1, e3 _ _ a2, r⟩
          · exact .inr ⟨nb, e3 _ _ a1⟩
        generalize upd H2 tl (.lst [.ref t1]) = H3 at htl3 n3 T3 ans3 ⊢
        have p3 := pY.extN n3
        dsimp only
        refine seq_of (drop_of (bmL_of (v_of (v := .ref tl) rfl ⟨.inl ⟨rfl, _, sq_of htl3⟩, c_of (lam_of ⟨T3, fun H4 n4 T4 => asked2 (d := d) (p3.extN n4) (n4 _ _ (n3 _ _ hslY ntL) ntL) (lnk_off p3 (OffN.ofN n4) (lnk_off pY (OffN.ofN n3) prsY)) goodA dlg gl ((tSY.kp (KeepP.offN pY (OffN.ofN n3))).kp (KeepP.offN p3 (OffN.ofN n4))) dr ((av.offN (OffN.ofN n3)).offN (OffN.ofN n4)) fe er (v_of rfl) (v_of rfl) (v_of rfl) fun H5 t2 xs e5 ht2 an2 => n_of ⟨tl, [.ref t1], .ref t2, rfl, rfl, e5 _ _ (n4 _ _ htl3 ntL), by show 1 < sizeLine; decide, ?_⟩⟩)⟩)))
        have htl5 := e5 _ _ (n4 _ _ htl3 ntL)
        have n5 : ExtN H3 H5 := n4.trans (ExtN.of e5)
        have T6 : Tabs (tabR PT) (upd H5 tl (.lst ([.ref t1] ++ [.ref t2]))) := Tabs.lst htl5 (T4.ext e5)
        have htl6 : (upd H5 tl (.lst ([.ref t1] ++ [.ref t2]))) tl = some (.lst [.ref t1, .ref t2]) := upd_same
        have n6 : ExtN Hy (upd H5 tl (.lst ([.ref t1] ++ [.ref t2]))) := fun a o ha nt => by
          rw [upd_ne (tlY a o ha nt)]
          exact n5 _ _ (n3 _ _ ha nt) nt
        have keepT : ∀ {a : Addr} {zs : List V}, H5 a = some (.tup zs) → (upd H5 tl (.lst ([.ref t1] ++ [.ref t2]))) a = some (.tup zs) := fun {a zs} ha => by
          rw [upd_ne (ne_of ha htl5 (fun z => nomatch z))]
          exact ha
        have ans6 : Answer (upd H5 tl (.lst ([.ref t1] ++ [.ref t2]))) s t1 v e := by
          rcases ans3 with ⟨g, g', tt', ns, eg, a1, a2, r⟩ | ⟨nb, a1⟩
          · exact .inl ⟨g, g', tt', ns, eg, keepT (n5 _ _ a1 ntT), keepT (n5 _ _ a2 ntT), r⟩
          · exact .inr ⟨nb, keepT (n5 _ _ a1 ntT)⟩
        have ht6 := keepT ht2
        generalize upd H5 tl (.lst ([.ref t1] ++ [.ref t2])) = H6 at T6 htl6 n6 ans6 ht6 ⊢
        have p6' := pY.extN n6
        have av6 := av.offN (OffN.ofN n6)
        dsimp only
        refine seq_of (asg_of (due_of (d := d) (txY.keep (KeepP.offN pY (OffN.ofN n6)).1) dr p6' av6 fe hi ans6 ht6 an2 (v_of rfl) (v_of rfl) (v_of rfl) fun H7' du δ e7 a1 a2 sd a3 => ?_))
        have htl7 := e7 _ _ htl6
        have av7 := av6.ex e7
        dsimp only
        refine seq_of (ifS_of (or_of (test_of (op_of (cb_of (c_of (op_of (v_of rfl (k_of ⟨tl, _, 0, _, rfl, rfl, sq_of htl7, atI_nat (j := 0) rfl, n_of (repA_of a1 sd (cb_of (c_of (v_of rfl (n_of (repA_of a2 sd ⟨rfl, _, rfl, ?_⟩))))))⟩)))))))))
        rw [decide_eq_true rfl, if_neg (show ¬ (!true) = true from Bool.false_ne_true)]
        refine test_of (op_of (cb_of (c_of (v_of rfl (n_of (repA_of av7 fe.shw (v_of rfl ⟨rfl, _, rfl, ?_⟩)))))))
        rw [decide_eq_true rfl, if_neg (show ¬ (!true) = true from Bool.false_ne_true)]
        dsimp only [tNext]
        refine ifS_of (and_of (not_of (test_of (v_of rfl ⟨isl, rfl, ?_⟩))))
        have fin : ∃ y8 y9 y10 y11 y12, ([some (V.ref d), some (.ref px), some (.ref op), some (.ref D1), some (.ref tp), some (.int (0 + (i : Int))), some (.ref sl), some nv, some v, some (.str e.shown), some (.bl isl), some (.ref tl), some (.ref du), none, none] : L2.St) = [some (.ref d), some (.ref px), some (.ref op), some (.ref D1), some (.ref tp), some (.int (0 + (i : Int))), some (.ref sl), some nv, y8, y9, y10, y11, y12, none, none] ∧ ExtN HX H7' ∧ Tabs (tabR PT) H7' :=
          ⟨_, _, _, _, _, rfl, (en.trans n6).trans (ExtN.of e7), T6.ext e7⟩
        cases isl with
        | true =>
          rw [if_neg (show ¬ (!true) = true from Bool.false_ne_true), if_neg Bool.false_ne_true]
          exact fin
        | false =>
          rw [if_pos (show (!false) = true from rfl)]
          refine test_of (op_of (cb_of (c_of (op_of (v_of rfl (k_of ⟨tl, _, 1, _, rfl, rfl, sq_of htl7, atI_nat (j := 1) rfl, n_of (repA_of (a3 rfl) sd (cb_of (c_of (v_of rfl (n_of (repA_of a2 sd ⟨rfl, _, rfl, ?_⟩))))))⟩))))))
          rw [decide_eq_true rfl, if_neg (show ¬ (!true) = true from Bool.false_ne_true)]
          exact fin
      · rintro σ' Hy ⟨y8, y9, y10, y11, y12, rfl, en, Ty⟩
        refine ⟨_, _, _, _, _, _, _, _, rfl, oc.trans (oSC.trans (OffN.ofN en)), Ty, (p6.extN en).up ?_⟩
        push_cast
        omega
    · rintro σ' Hc ⟨y5, y6, y7, y8, y9, y10, y11, y12, rfl, oc, Tc, pc⟩
      dsimp only
      refine ret_of (k_of ?_)
      exact q Hc (oH.trans oc) Tc (pc.up (by omega))
end
end Sn
namespace Sn
open PySem PySem.Spec PyProof.Rows L2 Evl Gd Ex LamX
abbrev sLaw : Stmt := topS 35
abbrev nLaw : List Str := ["_law_script", "_law_k", "_law_box_here", "_law_turn"]
theorem scLaw : FnScope nLaw ["_law_script"] (defScope sLaw) := ⟨rfl, rfl, rfl, by decide +kernel, rfl, by decide +kernel, by decide +kernel⟩
def spLaw (K : PySem.W.Frag) (PT : Addr) : Sp := fun vs H Q _ => ∃ (a : Addr) (ns : List Int), vs = [.ref a] ∧ SqL K H a (ns.map V.int) ∧ ns.length ≤ 63 ∧ Tabs (tabR PT) H ∧ ∀ H', Q (.bl true) H'
theorem OffN.ext {d : Addr} {H H' : Hp} (o : OffN d H H') (h : H d = none) : ExtN H H' := fun a u ha nt => o a u (ne_of_none ha h) nt ha
theorem sqL_extN {K : PySem.W.Frag} {H H' : Hp} {a : Addr} {xs : List V} (e : ExtN H H') (h : SqL K H a xs) : SqL K H' a xs := by
  rcases h with (h | ⟨o, h⟩) | h
  · exact .inl (.inl (e _ _ h ntL))
  · exact .inl (.inr ⟨o, e _ _ h (fun _ z => nomatch z)⟩)
  · exact .inr h
section
variable {P : Program} {w : World} {K : PySem.W.Frag} {mg : Str → Option Value} {base : Heap}
theorem ok_law {f fJ fR PT : Addr} {fd fdJ fdR : FuncData} (F : Fun K "law" "law" sLaw f fd) (FJ : Fun K "_law_box" "_law_box" sSource fJ fdJ) (FR : Fun K "_law_right" "_law_right" sRight fR fdR)
    (bJ : Binds K fdJ ["_law_script", "_law_k"] []) (bR : Binds K fdR ["_law_box_here"] [])
    (gJ : mg "_law_box" = some (.ref fJ)) (gR : mg "_law_right" = some (.ref fR))
    (mL : mg "len" = none) (mR : mg "range" = none) (mX : mg "max" = none) (mN : mg "min" = none) (mA : mg "all" = none) (mB : mg "abs" = none) (mI : mg "int" = none)
    (GR : FnG P w K mg base CX0 9 fR fdR ["_law_box_here"] (spRight PT)) : FnG P w K mg base CX0 10 f fd ["_law_script"] (spLaw K PT) := by
  have GJ : FnOk P w K mg base CX0 9 fJ fdJ ["_law_script", "_law_k"] (spSource K) := (ok_source FJ mL mB mI).mono (by decide)
  refine fng0_of F scLaw (fun vs H Q E h => ?_) (fun cdv A outer s H vs Q E hr gd h => ?_)
  · obtain ⟨a, ns, rfl, _⟩ := h
    rfl
  · obtain ⟨a, ns, rfl, hS, hlen, tabs, q⟩ := h
    refine ⟨_, pss_cons (ps_for PassesOwn.never rfl (pi_range1 (by rfl) mR (pa_cons (pe_callB (call_max2 rfl) (by rfl) mX boot_max (pa_cons pe_int (pa_cons (pe_callB (call_min2 rfl) (by rfl) mN boot_min (pa_cons pe_int (pa_cons (pe_callB call_len_seq (by rfl) mL PySem.boot_len (pa_cons (pv 0) pa_nil)) pa_nil))) pa_nil))) pa_nil)) (pg_name (i := 1) scLaw.nd rfl (.inl rfl))
        (pss_cons (ps_set (i := 2) scLaw.nd rfl (.inr rfl) (pe_call GJ hr (by rfl) gJ FJ.kp bJ .nil pass0 (pa_cons (pv 0) <| pa_cons (pv 1) pa_nil))) <|
        pss_one (ps_if (pt_not (pt_val (pe_callB (cr_all rfl) (by rfl) mA (by decide +kernel) (pa_cons (pe_lc (own := [("_law_turn", 3)]) (g := gName 3) (tt := tYes) (te := tCall (spRight PT) [] E0 (tCons (tVar 2) tNil)) rfl scLaw.nd (pi_range1 (by rfl) mR (pa_cons pe_int pa_nil)) (blkOk_by (N := nLaw) (sc := defScope sLaw) (by decide +kernel))
          (fun _ _ _ _ _ => pg_name (i := 3) scLaw.nd rfl (.inl rfl)) (fun _ _ _ _ _ => pts_nil) (fun _ _ _ _ _ => pe_callG GR hr gd (by rfl) gR FR.kp bR .nil pass0 (pa_cons (pv 2) pa_nil))) pa_nil)))) (pss_one (ps_ret pe_bl)) pss_nil))) <|
      pss_one (ps_ret pe_bl), ?_⟩
    refine ⟨.ref a, rfl, a, _, rfl, .inl hS, 3, _, rfl, 1, _, rfl, _, rfl, ?_, ?_, ?_⟩
    · split <;> (try split) <;> omega
    · split <;> (try split) <;> omega
    have hn : (if (if ((ns.map V.int).length : Int) < 3 then ((ns.map V.int).length : Int) else 3) > 1 then (if ((ns.map V.int).length : Int) < 3 then ((ns.map V.int).length : Int) else 3) else 1).toNat ≤ 3 := by
      split <;> (try split) <;> omega
    refine for_range (lo := 0) (fun i σ' H' => ∃ y1 y2 y3, σ' = [some (.ref a), y1, y2, y3] ∧ ExtN H H' ∧ Tabs (tabR PT) H') ⟨_, _, _, rfl, ExtN.refl H, tabs⟩ ?_ ?_
    · rintro i σ' H1' hi ⟨y1, y2, y3, rfl, e1', t1'⟩
      dsimp only [gName]
      refine seq_of (asg_of (call_of (c_of (v_of rfl (c_of (v_of rfl (n_of ⟨a, ns, 0 + (i : Int), rfl, sqL_extN e1' hS, hlen, by omega, by omega, fun H2' d e2' hd pot => ?_⟩)))))))
      have t2' := t1'.ext e2'
      dsimp only
      refine ifS_of (not_of ?_)
      refine test_of (cb_of (c_of ?_))
      refine ⟨4, rfl, by decide, by decide, fun D hD => lc_range (lo := 0) (n := 4) (fun t H' => OffN d H2' H' ∧ Tabs (tabR PT) H' ∧ Pot H' d (1000 * (t : Int)) ∧ H' D = some (.lst ((List.replicate t true).map V.bl))) ⟨OffN.ofEx (Ex.new hD), t2'.ext (Ex.new hD), (pot.updD (pot.ne hD)).up (by omega), upd_same⟩ ?_ ?_⟩
      · rintro t H3 ht ⟨o, tb, p, hDt⟩
        have nDd : D ≠ d := pot.ne hD
        refine ⟨rfl, ?_⟩
        dsimp only [tYes]
        rw [if_pos rfl]
        refine call_of (c_of (v_of rfl (n_of ⟨d, _, rfl, p, by omega, tb, fun H4 o4 tb4 p4 => ?_⟩)))
        have D4 := o4 D _ nDd ntL hDt
        refine ⟨_, D4, sz_lt (by rw [List.length_map, List.length_replicate]; omega), fun b u nb nt hb => ?_, Tabs.lst D4 tb4, (p4.updD nDd).up (by push_cast; omega), ?_⟩
        · rw [upd_ne (ne_of_none hb hD)]
          exact (o.trans o4) b u nb nt hb
        · rw [upd_same, List.replicate_succ', List.map_append]
          rfl
      · rintro H3 ⟨o, tb, p, hDt⟩
        refine n_of ⟨D, List.replicate 4 true, rfl, sq_of hDt, true, rfl, ?_⟩
        rw [if_neg (show ¬ (!true) = true from Bool.false_ne_true)]
        refine ⟨_, _, _, rfl, fun b u hb nt => ?_, tb⟩
        have h2 := e2' _ _ (e1' _ _ hb nt)
        have nb : b ≠ d := fun z => by
          have h1 := e1' _ _ hb nt
          rw [z, hd] at h1
          cases h1
        exact o b u nb nt h2
    · rintro σ' H' _
      exact q H'
end
end Sn
/-! The law's end where code objects have tables: some def makes lambdas. -/
namespace Gd
open PySem PySem.Spec PyProof.Rows L2 LamX
/-- the tables, and the script if it is no part of what is written -/
def startAt (cs : List (Addr × Addr)) (yes : Bool) (a : Addr) (o : Obj) (xs : List V) : Hp := fun b => if b ∈ cs.map (·.2) then some (.tbl #[]) else if yes = true ∧ b = a then some (.frz o (.lst xs)) else none
section
variable {cs : List (Addr × Addr)} {yes : Bool} {a : Addr} {o : Obj} {xs : List V}
theorem startAt_tab {p : Addr × Addr} (h : p ∈ cs) : startAt cs yes a o xs p.2 = some (.tbl #[]) := if_pos (List.mem_map_of_mem h)
theorem startAt_own {b : Addr} {u : HO} (h : startAt cs yes a o xs b = some u) : (b ∈ cs.map (·.2) ∧ u = .tbl #[]) ∨ (yes = true ∧ b = a ∧ u = .frz o (.lst xs)) := by
  unfold startAt at h
  by_cases c : b ∈ cs.map (·.2)
  · rw [if_pos c] at h
    exact .inl ⟨c, (Option.some.inj h).symm⟩
  · rw [if_neg c] at h
    by_cases d : yes = true ∧ b = a
    · rw [if_pos d] at h
      exact .inr ⟨d.1, d.2, (Option.some.inj h).symm⟩
    · rw [if_neg d] at h
      cases h
end
section
variable {P : Program} {w : World} {K : PySem.W.Frag} {mg mb : Str → Option Value} {CX : CXT} {k : Nat} {fa a : Addr} {fd : FuncData} {x : Str} {sp : Sp} {s1 : Shared} {vs : List Value} {ns : List Int} {cs : List (Addr × Addr)}
theorem law_tabs {yes : Bool} (offK : yes = true → K.lookup a = none) (inK : K.In s1.heap) (glob : s1.heap.Ns mainGlobals mg) (blt : s1.heap.Ns builtinsNs mb) (std : ∀ x : Str, x ≠ "__name__" → mb x = bootBuiltins x) (free : s1.heap.NoLimit) (nogen : s1.gens = #[])
    (tabs : ∀ p ∈ cs, s1.heap.get? p.2 = some { cls := .none, data := .fields #[] }) (noK : ∀ p ∈ cs, K.lookup p.2 = none) (code : ∀ p ∈ cs, PySem.W.CodeHd s1.heap p.1 p.2)
    (bmain : ∃ (bm : Addr) (ob : Obj), mg "__builtins__" = some (.ref bm) ∧ bm ≠ builtinsNs ∧ s1.heap.get? bm = some ob ∧ ob.cls = .type "module" ∧ ob.dict = some builtinsNs ∧ ob.data = .plain)
    (here : s1.heap.get? a = some { cls := .type "list", data := .seq vs.toArray }) (isI : IntsAre vs ns) (many : ns.length ≤ sizeLine) (room : Room k callerA)
    (F : ∀ base : Heap, K.In base → base.Ns mainGlobals mg → (∀ p ∈ cs, TabB base mg p.1 p.2) → FnG P w K mg base CX k fa fd [x] sp) (bind : ∀ (s : Shared) (u : Value), BindsTo s fd ⟨[u], []⟩ [(x, u)])
    (want : sp [.ref a] (startAt cs yes a { cls := .type "list", data := .seq vs.toArray } (ns.map V.int)) (fun v _ => v = .bl true) fun _ _ _ => False) (noX : ∀ H e s2, CX [] H s1 (fun _ _ _ => False) e s2 → False) :
    codeAny (model P w) callerA (.call (.ref fa) ⟨[.ref a], []⟩) (fun r s2 => r = .ok (.ret (.bool true)) ∧ OldK s1.heap s2.heap ∧ s2.os = s1.os ∧ AllBare s2.gens) s1 := by
  have tabAt : ∀ {b : Addr}, b ∈ cs.map (·.2) → s1.heap.get? b = some { cls := .none, data := .fields #[] } := fun hb => by
    obtain ⟨p, hp, rfl⟩ := List.mem_map.mp hb
    exact tabs p hp
  have plain : ∀ {b : Addr} {ob : Obj}, s1.heap.get? b = some ob → (∀ xs n, ob.data ≠ .seq xs n) → ob.data ≠ .fields #[] → startAt cs yes a { cls := .type "list", data := .seq vs.toArray } (ns.map V.int) b = none := fun {b ob} e h1 h2 => by
    cases c : startAt cs yes a { cls := .type "list", data := .seq vs.toArray } (ns.map V.int) b with
    | none => rfl
    | some u =>
      rcases startAt_own c with ⟨hb, _⟩ | ⟨_, rfl, _⟩
      · rw [tabAt hb] at e
        cases e
        exact (h2 rfl).elim
      · rw [here] at e
        cases e
        exact (h1 _ _ rfl).elim
  have dicts : ∀ {b : Addr} {m : Str → Option Value}, s1.heap.Ns b m → (hidT s1.heap (startAt cs yes a { cls := .type "list", data := .seq vs.toArray } (ns.map V.int))).Ns b m := by
    rintro b m ⟨ob, es, ep, gb, isD, r⟩
    exact ⟨ob, es, ep, hidT_get gb (plain gb (fun xs n z => by rw [isD] at z; cases z) fun z => by rw [isD] at z; cases z), isD, r⟩
  have inB : K.In (hidT s1.heap (startAt cs yes a { cls := .type "list", data := .seq vs.toArray } (ns.map V.int))) := by
    intro b ob hb
    refine hidT_get (inK b ob hb) ?_
    cases c : startAt cs yes a { cls := .type "list", data := .seq vs.toArray } (ns.map V.int) b with
    | none => rfl
    | some u =>
      rcases startAt_own c with ⟨hm, _⟩ | ⟨hy, rfl, _⟩
      · obtain ⟨p, hp, rfl⟩ := List.mem_map.mp hm
        rw [noK p hp] at hb
        cases hb
      · rw [offK hy] at hb
        cases hb
  have md : Mod K mg (hidT s1.heap (startAt cs yes a { cls := .type "list", data := .seq vs.toArray } (ns.map V.int))) := ⟨inB, dicts glob, ⟨mb, dicts blt, std⟩, free.imp fun _ h => ⟨dicts h.1, h.2⟩⟩
  have TB : ∀ p ∈ cs, TabB (hidT s1.heap (startAt cs yes a { cls := .type "list", data := .seq vs.toArray } (ns.map V.int))) mg p.1 p.2 := fun p hp => by
    have tp := tabs p hp
    refine ⟨?_, ?_, fun z => ?_⟩
    · obtain ⟨ob, us, file, tf, flags, tg, inF, text, tt, e1, r1, r2, r3, r4⟩ := code p hp
      refine ⟨ob, us, file, tf, flags, tg, inF, text, tt, hidT_get e1 (plain e1 (fun xs n z => by rw [r2] at z; cases z) fun z => ?_), r1, r2, r3, r4⟩
      rw [r2] at z
      cases z
      simp at r3
    · obtain ⟨bm, ob, b1, b2, b3, b4, b5, b6⟩ := bmain
      refine ⟨bm, ob, b1, b2, fun q => ?_, fun q => ?_, hidT_get b3 (plain b3 (fun xs n z => by rw [b6] at z; cases z) fun z => by rw [b6] at z; cases z), b4, b5, b6⟩
      · obtain ⟨og, es, ep, e, hd, _⟩ := glob
        rw [q, e] at b3
        cases b3
        rw [hd] at b6
        cases b6
      · rw [q, tp] at b3
        cases b3
        cases b6
    · obtain ⟨og, es, ep, e, hd, _⟩ := glob
      rw [z, tp] at e
      cases e
      cases hd
  have rel := vals_ints isI
  have ok : HOk P w (startAt cs yes a { cls := .type "list", data := .seq vs.toArray } (ns.map V.int)) s1.heap := fun b u e => by
    rcases startAt_own e with ⟨hb, rfl⟩ | ⟨_, rfl, rfl⟩
    · exact tabAt hb
    · exact ⟨here, by rw [List.length_map]; exact many, vs, _, rel, here⟩
  have env : Env0 P w K mg (hidT s1.heap (startAt cs yes a { cls := .type "list", data := .seq vs.toArray } (ns.map V.int))) callerA [] s1 (startAt cs yes a { cls := .type "list", data := .seq vs.toArray } (ns.map V.int)) :=
    ⟨rfl, md, fun b ob hb => of_hidT hb, Nat.le_of_eq (hidT_size _ _), trivial, (fun b hb => by cases hb), ok, .of_eq nogen⟩
  have ran := (F _ inB (dicts glob) TB).go callerA room rfl [] s1 _ ⟨[.ref a], []⟩ [.ref a] [.ref a] _ _ env (bind s1 (.ref a)) (.cons rfl .nil) want
  refine codeAny_mono ran ?_
  intro r s2 post
  rcases r with err | flow
  · exact (noX _ _ _ post).elim
  · cases flow with
    | next => exact post.elim
    | brk => exact post.elim
    | cont => exact post.elim
    | ret u =>
      obtain ⟨v, H2, eos, eb, ch, ok2, rv, rfl⟩ := post
      have eu : u = Value.bool true := rv
      have grown : ∀ p ∈ cs, ∃ more : Array Value, s2.heap.get? p.2 = some { cls := .none, data := .fields more } := fun p hp => by
        obtain ⟨more, z⟩ := ch.tbls p.2 #[] (startAt_tab hp)
        exact ⟨_, ok2 p.2 _ z⟩
      have same : ∀ b ob, b ∉ cs.map (·.2) → s1.heap.get? b = some ob → s2.heap.get? b = some ob := fun b ob nb e => by
        cases hh : startAt cs yes a { cls := .type "list", data := .seq vs.toArray } (ns.map V.int) b with
        | none => exact ch.keep b ob e hh (fun z => nomatch z) (fun z => nomatch z)
        | some u2 =>
          rcases startAt_own hh with ⟨hb, _⟩ | ⟨_, rfl, rfl⟩
          · exact (nb hb).elim
          · have a1 := (ok b _ hh).1
            have a2 := (ok2 b _ (ch.frzs b _ _ hh)).1
            rw [e] at a1
            exact a2.trans a1.symm
      refine ⟨by rw [eu], ⟨fun b ob e => ?_, fun b ob e => ?_⟩, eos, eb⟩
      · by_cases hb : b ∈ cs.map (·.2)
        · obtain ⟨p, hp, rfl⟩ := List.mem_map.mp hb
          obtain ⟨more, hm⟩ := grown p hp
          rw [tabs p hp] at e
          cases e
          exact .inr (.inl ⟨((code p hp).tab (tabs p hp)).isCodeTable, rfl, #[], more, rfl, by rw [Array.empty_append]; exact hm⟩)
        · exact .inl (same b ob hb e)
      · by_cases hb : b ∈ cs.map (·.2)
        · obtain ⟨p, hp, rfl⟩ := List.mem_map.mp hb
          obtain ⟨more, hm⟩ := grown p hp
          exact ⟨_, hm⟩
        · exact ⟨ob, same b ob hb e⟩
end
/-- what is known of the law at the head's heap -/
def LawTab (l : PySem.W.OpenLaw) (w : World) (K : PySem.W.Frag) (CX : CXT) (k n : Nat) (x : Str) (mg : Str → Option Value) (fa : Addr) (h : Heap) : Prop :=
  ∃ (fd : FuncData) (cs : List (Addr × Addr)) (sp : Sp), (∀ p ∈ cs, h.get? p.2 = some { cls := .none, data := .fields #[] }) ∧ (∀ p ∈ cs, K.lookup p.2 = none) ∧ (∀ p ∈ cs, PySem.W.CodeHd h p.1 p.2) ∧ (∀ (s : Shared) (u : Value), BindsTo s fd ⟨[u], []⟩ [(x, u)]) ∧
    (∀ (H : Hp) (a : Addr) (ns : List Int), ns.length ≤ n → (∀ p ∈ cs, H p.2 = some (.tbl #[])) → SqL K H a (ns.map V.int) → sp [.ref a] H (fun v _ => v = .bl true) fun _ _ _ => False) ∧
    ∀ base : Heap, K.In base → base.Ns mainGlobals mg → (∀ p ∈ cs, TabB base mg p.1 p.2) → FnG l.prog w K mg base CX k fa fd [x] sp
theorem walkT {l : PySem.W.OpenLaw} {n k : Nat} {q : Program} {loose : List Str} {XP : (Str → Option Value) → Heap → Prop} {YP : World → Heap → Prop} {d : DefRec} {K : Params → PySem.W.Frag} {CX : World → CXT} {x : Str}
    (most : l.most = some n) (small : n ≤ sizeLine) (nodef : d.params.defaults = []) (room : Room k callerA) (kin : ∀ (w : World) (h : Heap), YP w h → (K w.params).In h)
    (F : ∀ (w : World) (mg : Str → Option Value) (fa : Addr) (h : Heap), YP w h → (K w.params).In h → h.Ns mainGlobals mg → mg d.name = some (.ref fa) → LawTab l w (K w.params) (CX w) k n x mg fa h)
    (noX : ∀ (w : World) (H : Hp) (s : Shared) (e : Value) (s2 : Shared), CX w [] H s (fun _ _ _ => False) e s2 → False) :
    PySem.W.WalkO q loose XP YP l.row.toRowW d [] (fun f vs => PySem.call f vs) := by
  apply Att.attach_call most nodef
  intro w s0 s1 mg mb fa o pm cd doc a vs ns G Y go isF code named here isI many nogen
  have inK := kin w _ Y
  obtain ⟨fd, cs, sp, tabs, noK, codes, bind, want, hF⟩ := F w mg fa _ Y inK G.T.g named
  have rel := vals_ints isI
  have lenI := isI.length
  have aT : a ∉ cs.map (·.2) := fun z => by
    obtain ⟨p, hp, e⟩ := List.mem_map.mp z
    have q := tabs p hp
    rw [e, here] at q
    cases q
  cases inMod : (K w.params).lookup a with
  | some ob =>
    have same : ob = { cls := .type "list", data := .seq vs.toArray } := Option.some.inj ((inK a ob inMod).symm.trans here)
    subst same
    exact law_tabs (yes := false) (fun z => by cases z) inK G.T.g G.T.b G.T.builtins G.T.nolimit nogen tabs noK codes G.T.bmain here isI (Nat.le_trans many small) room hF bind
      (want _ a ns many (fun p hp => startAt_tab hp) (.inr ⟨_, vs.toArray, _, inMod, rfl, rfl, rfl, by rw [List.size_toArray, lenI]; exact Nat.le_trans many small, by simpa using rel⟩)) fun H e s2 => noX w H s1 e s2
  | none =>
    refine law_tabs (yes := true) (fun _ => inMod) inK G.T.g G.T.b G.T.builtins G.T.nolimit nogen tabs noK codes G.T.bmain here isI (Nat.le_trans many small) room hF bind
      (want _ a ns many (fun p hp => startAt_tab hp) (.inl (.inr ⟨{ cls := .type "list", data := .seq vs.toArray }, ?_⟩))) fun H e s2 => noX w H s1 e s2
    · unfold startAt
      rw [if_neg aT, if_pos ⟨rfl, rfl⟩]
end Gd
namespace Sn
open PySem PySem.Spec PyProof.Rows L2 Evl Gd Ex LamX
/-- a def of the top, as the head finds it -/
structure At (K : PySem.W.Frag) (x : Str) (st : Stmt) (f : Addr) : Prop where
  nm : PySem.W.nsIn K mainGlobals x = some (some (.ref f))
  ex : ∃ (oc kV doc pm cdv ct : Value) (od an : Option Addr) (sl : Array (Option Value)), K.lookup f = some ⟨oc, od, .func (PySem.W.fnOf x x (defArgs st) (defBody st) (defScope st) .none kV doc pm an cdv ct), sl⟩ ∧ PySem.W.codeIn K cdv x = true
  kp : PySem.W.keepIn K (.ref f) = true
theorem At.of {K : PySem.W.Frag} {x : Str} {st : Stmt} {f : Addr} {oc kV doc pm cdv ct : Value} {od an : Option Addr} {sl : Array (Option Value)} (n : PySem.W.nsIn K mainGlobals x = some (some (.ref f))) (l : K.lookup f = some ⟨oc, od, .func (PySem.W.fnOf x x (defArgs st) (defBody st) (defScope st) .none kV doc pm an cdv ct), sl⟩)
    (c : PySem.W.codeIn K cdv x = true) (k : PySem.W.keepIn K (.ref f) = true) : At K x st f := ⟨n, ⟨oc, kV, doc, pm, cdv, ct, od, an, sl, l, c⟩, k⟩
theorem At.fn {K : PySem.W.Frag} {x : Str} {st : Stmt} {f : Addr} (a : At K x st f) : ∃ fd, Fun K x x st f fd := by
  obtain ⟨oc, kV, doc, pm, cdv, ct, od, an, sl, l, c⟩ := a.ex
  exact ⟨_, fun_mk l c a.kp⟩
/-- a method -/
structure AtM (K : PySem.W.Frag) (C : Addr) (x qual : Str) (st : Stmt) (f : Addr) : Prop where
  fi : PySem.W.findIn K (.ref C) x = some (some (.ref f))
  isf : PySem.W.isFn K (.ref f) = true
  ex : ∃ (oc kV doc pm cdv ct : Value) (od an : Option Addr) (sl : Array (Option Value)), K.lookup f = some ⟨oc, od, .func (PySem.W.fnOf x qual (defArgs st) (defBody st) (defScope st) .none kV doc pm an cdv ct), sl⟩ ∧ PySem.W.codeIn K cdv qual = true
  kp : PySem.W.keepIn K (.ref f) = true
theorem AtM.of {K : PySem.W.Frag} {C : Addr} {x qual : Str} {st : Stmt} {f : Addr} {oc kV doc pm cdv ct : Value} {od an : Option Addr} {sl : Array (Option Value)} (n : PySem.W.findIn K (.ref C) x = some (some (.ref f))) (i : PySem.W.isFn K (.ref f) = true) (l : K.lookup f = some ⟨oc, od, .func (PySem.W.fnOf x qual (defArgs st) (defBody st) (defScope st) .none kV doc pm an cdv ct), sl⟩)
    (c : PySem.W.codeIn K cdv qual = true) (k : PySem.W.keepIn K (.ref f) = true) : AtM K C x qual st f := ⟨n, i, ⟨oc, kV, doc, pm, cdv, ct, od, an, sl, l, c⟩, k⟩
theorem AtM.fn {K : PySem.W.Frag} {C : Addr} {x qual : Str} {st : Stmt} {f : Addr} (a : AtM K C x qual st f) : ∃ fd, Fun K x qual st f fd := by
  obtain ⟨oc, kV, doc, pm, cdv, ct, od, an, sl, l, c⟩ := a.ex
  exact ⟨_, fun_mk l c a.kp⟩
/-- the words about a class -/
structure ClsA (K : PySem.W.Frag) (x : Str) (C : Addr) : Prop where
  nm : PySem.W.nsIn K mainGlobals x = some (some (.ref C))
  pg : PySem.W.plainGet K C Str.empty = true
  hd : PySem.W.hasDictIn K C = true
  po : PySem.W.plainOver K C = true
  sa : PySem.W.findIn K (.ref C) "__setattr__" = some (some (.builtin "object.__setattr__"))
  mks : PySem.W.makesIn K C = true
  kc : PySem.W.keepIn K (.ref C) = true
theorem ClsA.cl {K : PySem.W.Frag} {x : Str} {C : Addr} (c : ClsA K x C) : Cls K C := ⟨c.pg, c.hd, c.po, c.sa⟩
/-- a def of the top whose code object makes lambdas -/
structure AtT (K : PySem.W.Frag) (x : Str) (st : Stmt) (f c : Addr) : Prop where
  nm : PySem.W.nsIn K mainGlobals x = some (some (.ref f))
  ex : ∃ (oc kV doc pm ct : Value) (od an : Option Addr) (sl : Array (Option Value)), K.lookup f = some ⟨oc, od, .func (PySem.W.fnOf x x (defArgs st) (defBody st) (defScope st) .none kV doc pm an (.ref c) ct), sl⟩ ∧ PySem.W.codeIn K (.ref c) x = true
  kp : PySem.W.keepIn K (.ref f) = true
theorem AtT.of {K : PySem.W.Frag} {x : Str} {st : Stmt} {f c : Addr} {oc kV doc pm ct : Value} {od an : Option Addr} {sl : Array (Option Value)} (n : PySem.W.nsIn K mainGlobals x = some (some (.ref f))) (l : K.lookup f = some ⟨oc, od, .func (PySem.W.fnOf x x (defArgs st) (defBody st) (defScope st) .none kV doc pm an (.ref c) ct), sl⟩)
    (cd : PySem.W.codeIn K (.ref c) x = true) (k : PySem.W.keepIn K (.ref f) = true) : AtT K x st f c := ⟨n, ⟨oc, kV, doc, pm, ct, od, an, sl, l, cd⟩, k⟩
theorem AtT.fn {K : PySem.W.Frag} {x : Str} {st : Stmt} {f c : Addr} (a : AtT K x st f c) : ∃ fd, FunT K x x st c f fd ∧ Fun K x x st f fd := by
  obtain ⟨oc, kV, doc, pm, ct, od, an, sl, l, cd⟩ := a.ex
  exact ⟨_, ⟨⟨oc, od, kV, doc, pm, an, ct, sl, rfl, l, cd⟩, a.kp⟩, fun_mk l cd a.kp⟩
/-- the words about a class that the instances' rules ask -/
structure Base (K : PySem.W.Frag) (C : Addr) : Prop where
  ga : PySem.W.findIn K (.ref C) "__getattribute__" = some (some (.builtin "BaseException.__getattribute__"))
  gg : PySem.W.findIn K (.ref C) "__getattr__" = some none
  sb : PySem.W.subIn K (.ref C) (.type "BaseException") = some true
  hd : PySem.W.hasDictIn K C = true
  ha : PySem.W.findIn K (.ref C) "__class__" = some (some (.builtin "object.__class__"))
  hn : PySem.W.specialIn K (.builtin "object.__class__") "__get__" = some (some (.builtin "getset_descriptor.__get__"))
  ht : PySem.W.takesIn K (.builtin "object.__class__") = some true
  hm : PySem.W.mroIn K C (.type "object") = some true
  kC : PySem.W.keepIn K (.ref C) = true
  val : PySem.W.kitOne K (.ref C) (.type "ValueError") = some true
theorem Base.exc {K : PySem.W.Frag} {C : Addr} (b : Base K C) : ExcC K C := ⟨b.ga, b.gg, b.sb, b.hd, b.ha, b.hn, b.ht, b.hm⟩
theorem Base.xf {K : PySem.W.Frag} {C : Addr} (b : Base K C) : XfC K C := ⟨b.ga, b.gg, b.sb, b.hd⟩
/-- one of the classes with its __init__, as the head finds it -/
structure Cf (P : Program) (K : PySem.W.Frag) (hE : Addr) (x qual : Str) (st : Stmt) (C f : Addr) : Prop where
  nm : PySem.W.nsIn K mainGlobals x = some (some (.ref C))
  base : Base K C
  own : Own K C f
  fc : ∃ fd, FunC P K "__init__" qual st C f fd
  sup : ∀ mg : Str → Option Value, mg "super" = none → SupVE P K mg C C
  heap : PySem.W.kitOne K (.ref C) (.ref hE) = some true
theorem Cf.of {P : Program} {K : PySem.W.Frag} {hE : Addr} {x qual : Str} {st : Stmt} {C f cda cc : Addr} {nm q : Str} {N : Addr} {bs bm : List Value} {sn : List Str} {sub : List Value} {ab : Bool} {col : Option Bool} {dd : Option Addr} {k0 k1 k2 k3 k5 : Option Value}
    {oc kV doc pm ct ccl cl : Value} {od an cdd cld : Option Addr} {osl ccs csl : Array (Option Value)} {vs : Array Value} {file : Str} {tf : Tok} {cd : ClassData}
    (n : PySem.W.nsIn K mainGlobals x = some (some (.ref C))) (base : Base K C) (l : K.lookup C = some (excClassObj nm q C N bs bm true sn sub ab col dd k0 k1 k2 k3 k5 "ValueError.__new__")) (r : PySem.HandSPX.refsVE bm = true) (sa : PySem.W.findIn K (.ref C) "__setattr__" = some (some (.builtin "object.__setattr__"))) (ty : PySem.W.typeIn K (.ref C) = some (.type "type"))
    (ini : PySem.W.findIn K (.ref C) "__init__" = some (some (.ref f))) (fn : PySem.W.typeIn K (.ref f) = some (.type "function")) (lf : K.lookup f = some ⟨oc, od, .func (PySem.W.fnX "__init__" qual (defArgs st) (defBody st) (defScope st) [("__class__", cc)] .none kV doc pm an (.ref cda) ct), osl⟩) (code : PySem.W.codeIn K (.ref cda) qual = true)
    (lc : K.lookup cc = some ⟨cl, cld, .cell (some (.ref C)), csl⟩) (ld : K.lookup cda = some ⟨ccl, cdd, .fields vs, ccs⟩) (v2 : vs[2]? = some (.str file tf)) (fl : ((P.main.file : Str) == file) = true)
    (c : PySem.W.clsIn K C = some cd) (m : PySem.W.mroIn K C (.ref C) = some true) (s : PySem.W.ks_superIn K C C "__init__" = some (some (.builtin "ValueError.__init__"))) (sv : PySem.W.subIn K (.ref C) (.type "ValueError") = some true) (op : PySem.W.nsIn K cStatics "thirdparty.any" = some none)
    (mn : (P.main.scope.names.lookup ("super" : Str)).isSome = false) (heap : PySem.W.kitOne K (.ref C) (.ref hE) = some true) : Cf P K hE x qual st C f :=
  ⟨n, base, ⟨⟨⟨nm, q, N, bs, bm, sn, sub, ab, col, dd, k0, k1, k2, k3, k5, l, r⟩, sa, base.sb, ty, base.kC⟩, ini, fn⟩,
    ⟨_, ⟨oc, kV, doc, pm, ct, ccl, cl, od, an, cdd, cld, cda, cc, osl, ccs, csl, vs, file, tf, rfl, lf, code, lc, ld, v2, fl⟩⟩, fun mg g => ⟨⟨cd, c⟩, m, s, sv, op, g, mn⟩, heap⟩
theorem errD_of {P : Program} {w : World} {K : PySem.W.Frag} {mg : Str → Option Value} {base : Heap} {hE C f : Addr} (c : Cf P K hE "NoLink" "NoLink.__init__" sNoLink C f) (g : mg "NoLink" = some (.ref C)) (gs : mg "super" = none) (no : PySem.W.findIn K (.ref C) "value" = some none) : ∃ fd, ErrD P w K mg base "NoLink" C f fd := by
  obtain ⟨fd, F⟩ := c.fc
  refine ⟨fd, c.own, c.base.kC, g, ok_NoLink F c.own.oex (c.sup mg gs) no, fun s self us h _ => ?_⟩
  obtain ⟨oc, kV, doc, pm, ct, ccl, cl, od, an, cdd, cld, cda, cc, osl, ccs, csl, vs, file, tf, rfl, _⟩ := F.ex
  match us, h with
  | [u], _ => exact .of_eq rfl
theorem top_ok {l : PySem.W.OpenLaw} {w : World} {K : PySem.W.Frag} {h : Heap} {mg : Str → Option Value} {fa c__law_right PT C_NoLink f_NoLink___init__ C_HeapError C_NoObject C_TooMany C_BadText C_Fault f_law f__law_box f__law_take f__law_of f__law_numbers f__law_parts f__law_shot f__law_ways f__law_alive f__law_dying f__law_links f__law_odd f__law_bent f__law_asked f__law_told f__law_right f_net_of f_need_links f_is_integer f_sources_of f_is_link f_lost f_dies_without C_Net f_Net___init__ f_Net_met f_Net_led_to f_Net_without : Addr} {hd ts te : Nat} (X : K.In h) (G : h.Ns mainGlobals mg) (hfa : mg "law" = some (.ref fa))
    (a_law : At K "law" sLaw f_law)
    (a__law_box : At K "_law_box" sSource f__law_box)
    (a__law_take : At K "_law_take" sTake f__law_take)
    (a__law_of : At K "_law_of" sOf f__law_of)
    (a__law_numbers : At K "_law_numbers" sNums f__law_numbers)
    (a__law_parts : At K "_law_parts" sParts f__law_parts)
    (a__law_shot : At K "_law_shot" sShot f__law_shot)
    (a__law_ways : At K "_law_ways" sWays f__law_ways)
    (a__law_alive : At K "_law_alive" sAliv f__law_alive)
    (a__law_dying : At K "_law_dying" sDying f__law_dying)
    (a__law_links : At K "_law_links" sLinks f__law_links)
    (a__law_odd : At K "_law_odd" sOdd f__law_odd)
    (a__law_bent : At K "_law_bent" sBent f__law_bent)
    (a__law_asked : At K "_law_asked" sAsked f__law_asked)
    (a__law_told : At K "_law_told" sTold f__law_told)
    (a__law_right : AtT K "_law_right" sRight f__law_right c__law_right)
    (a_net_of : At K "net_of" sNetOf f_net_of)
    (a_need_links : At K "need_links" sNeedL f_need_links)
    (a_is_integer : At K "is_integer" sInt f_is_integer)
    (a_sources_of : At K "sources_of" sSrc f_sources_of)
    (a_is_link : At K "is_link" sIsLink f_is_link)
    (a_lost : At K "lost" sLost f_lost)
    (a_dies_without : At K "dies_without" sDwo f_dies_without)
    (c_Net : ClsA K "Net" C_Net)
    (n_Net_roots : PySem.W.findIn K (.ref C_Net) "roots" = some none)
    (n_Net_rows : PySem.W.findIn K (.ref C_Net) "rows" = some none)
    (a_Net___init__ : AtM K C_Net "__init__" "Net.__init__" sNInit f_Net___init__)
    (a_Net_met : AtM K C_Net "met" "Net.met" sMet f_Net_met)
    (a_Net_led_to : AtM K C_Net "led_to" "Net.led_to" sLed f_Net_led_to)
    (a_Net_without : AtM K C_Net "without" "Net.without" sWout f_Net_without)
    (d_NoLink : Cf l.prog K C_HeapError "NoLink" "NoLink.__init__" sNoLink C_NoLink f_NoLink___init__)
    (n_NoLink_value : PySem.W.findIn K (.ref C_NoLink) "value" = some none)
    (z_len : PySem.W.nsIn K mainGlobals "len" = some none)
    (z_abs : PySem.W.nsIn K mainGlobals "abs" = some none)
    (z_int : PySem.W.nsIn K mainGlobals "int" = some none)
    (z_range : PySem.W.nsIn K mainGlobals "range" = some none)
    (z_max : PySem.W.nsIn K mainGlobals "max" = some none)
    (z_min : PySem.W.nsIn K mainGlobals "min" = some none)
    (z_repr : PySem.W.nsIn K mainGlobals "repr" = some none)
    (z_tuple : PySem.W.nsIn K mainGlobals "tuple" = some none)
    (z_sorted : PySem.W.nsIn K mainGlobals "sorted" = some none)
    (z_str : PySem.W.nsIn K mainGlobals "str" = some none)
    (z_list : PySem.W.nsIn K mainGlobals "list" = some none)
    (z_all : PySem.W.nsIn K mainGlobals "all" = some none)
    (z_dict : PySem.W.nsIn K mainGlobals "dict" = some none)
    (z_isinstance : PySem.W.nsIn K mainGlobals "isinstance" = some none)
    (z_bool : PySem.W.nsIn K mainGlobals "bool" = some none)
    (z_super : PySem.W.nsIn K mainGlobals "super" = some none)
    (z_ValueError : PySem.W.nsIn K mainGlobals "ValueError" = some none)
    (nm_E : PySem.W.nsIn K mainGlobals "HeapError" = some (some (.ref C_HeapError)))
    (nm_O : PySem.W.nsIn K mainGlobals "NoObject" = some (some (.ref C_NoObject)))
    (nm_T : PySem.W.nsIn K mainGlobals "TooMany" = some (some (.ref C_TooMany)))
    (nm_B : PySem.W.nsIn K mainGlobals "BadText" = some (some (.ref C_BadText)))
    (nm_F : PySem.W.nsIn K mainGlobals "Fault" = some (some (.ref C_Fault)))
    (e_1 : PySem.W.subIn K (.ref C_HeapError) (.type "BaseException") = some true)
    (e_2 : PySem.W.hasDictIn K C_HeapError = true)
    (e_3 : PySem.W.typeIn K (.ref C_HeapError) = some (.type "type"))
    (e_4 : PySem.W.subIn K (.ref C_NoLink) (.ref C_HeapError) = some true)
    (e_o : PySem.W.kitOne K (.ref C_NoLink) (.ref C_NoObject) = some false)
    (e_l : PySem.W.kitOne K (.ref C_NoLink) (.ref C_NoLink) = some true)
    (e_t : PySem.W.kitOne K (.ref C_NoLink) (.ref C_TooMany) = some false)
    (e_bf : PySem.W.kitAny K (.ref C_NoLink) [.ref C_BadText, .ref C_Fault] = some false)
    (e_ve : PySem.W.kitOne K (.ref C_NoLink) (.type "ValueError") = some true)
    (hh_hold : PySem.W.nsIn K mainGlobals "HOLDERS" = some (some (.ref hd)))
    (hh_s : PySem.W.nsIn K hd "slot" = some (some (.str "record" ts)))
    (hh_e : PySem.W.nsIn K hd "entry" = some (some (.str "map" te)))
    (hh_dic : He.dicW K hd = some (He.keysIn w.params ["slot", "entry"]))
    (tb : ∀ p ∈ [PT], h.get? p = some (PySem.W.tabObj #[])) (tn : K.lookup PT = none) (tc : PySem.W.codeHdIn K c__law_right PT = true) :
    LawTab l w K CX0 10 63 "_law_script" mg fa h := by
  have e := hfa.symm.trans (PySem.W.mg_of X G a_law.nm)
  cases e
  obtain ⟨fd_law, F_law⟩ := a_law.fn
  have g_law := PySem.W.mg_of X G a_law.nm
  obtain ⟨fd__law_box, F__law_box⟩ := a__law_box.fn
  have g__law_box := PySem.W.mg_of X G a__law_box.nm
  have b__law_box := F__law_box.binds (ps := ["_law_script", "_law_k"]) fun _ _ _ _ _ _ us hl => match us, hl with | [_, _], _ => rfl
  have D__law_box : Df K mg "_law_box" sSource ["_law_script", "_law_k"] f__law_box fd__law_box := ⟨F__law_box, b__law_box, g__law_box⟩
  obtain ⟨fd__law_take, F__law_take⟩ := a__law_take.fn
  have g__law_take := PySem.W.mg_of X G a__law_take.nm
  have b__law_take := F__law_take.binds (ps := ["_law_box_here", "_law_many"]) fun _ _ _ _ _ _ us hl => match us, hl with | [_, _], _ => rfl
  have D__law_take : Df K mg "_law_take" sTake ["_law_box_here", "_law_many"] f__law_take fd__law_take := ⟨F__law_take, b__law_take, g__law_take⟩
  obtain ⟨fd__law_of, F__law_of⟩ := a__law_of.fn
  have g__law_of := PySem.W.mg_of X G a__law_of.nm
  have b__law_of := F__law_of.binds (ps := ["_law_box_here", "_law_some"]) fun _ _ _ _ _ _ us hl => match us, hl with | [_, _], _ => rfl
  have D__law_of : Df K mg "_law_of" sOf ["_law_box_here", "_law_some"] f__law_of fd__law_of := ⟨F__law_of, b__law_of, g__law_of⟩
  obtain ⟨fd__law_numbers, F__law_numbers⟩ := a__law_numbers.fn
  have g__law_numbers := PySem.W.mg_of X G a__law_numbers.nm
  have b__law_numbers := F__law_numbers.binds (ps := ["_law_box_here", "_law_most"]) fun _ _ _ _ _ _ us hl => match us, hl with | [_, _], _ => rfl
  have D__law_numbers : Df K mg "_law_numbers" sNums ["_law_box_here", "_law_most"] f__law_numbers fd__law_numbers := ⟨F__law_numbers, b__law_numbers, g__law_numbers⟩
  obtain ⟨fd__law_parts, F__law_parts⟩ := a__law_parts.fn
  have g__law_parts := PySem.W.mg_of X G a__law_parts.nm
  have b__law_parts := F__law_parts.binds (ps := ["_law_box_here", "_law_sort", "_law_numbers_here"]) fun _ _ _ _ _ _ us hl => match us, hl with | [_, _, _], _ => rfl
  have D__law_parts : Df K mg "_law_parts" sParts ["_law_box_here", "_law_sort", "_law_numbers_here"] f__law_parts fd__law_parts := ⟨F__law_parts, b__law_parts, g__law_parts⟩
  obtain ⟨fd__law_shot, F__law_shot⟩ := a__law_shot.fn
  have g__law_shot := PySem.W.mg_of X G a__law_shot.nm
  have b__law_shot := F__law_shot.binds (ps := ["_law_box_here", "_law_most"]) fun _ _ _ _ _ _ us hl => match us, hl with | [_, _], _ => rfl
  have D__law_shot : Df K mg "_law_shot" sShot ["_law_box_here", "_law_most"] f__law_shot fd__law_shot := ⟨F__law_shot, b__law_shot, g__law_shot⟩
  obtain ⟨fd__law_ways, F__law_ways⟩ := a__law_ways.fn
  have g__law_ways := PySem.W.mg_of X G a__law_ways.nm
  have b__law_ways := F__law_ways.binds (ps := ["_law_shot_here"]) fun _ _ _ _ _ _ us hl => match us, hl with | [_], _ => rfl
  have D__law_ways : Df K mg "_law_ways" sWays ["_law_shot_here"] f__law_ways fd__law_ways := ⟨F__law_ways, b__law_ways, g__law_ways⟩
  obtain ⟨fd__law_alive, F__law_alive⟩ := a__law_alive.fn
  have g__law_alive := PySem.W.mg_of X G a__law_alive.nm
  have b__law_alive := F__law_alive.binds (ps := ["_law_shot_here", "_law_gone", "_law_cut"]) fun _ _ _ _ _ _ us hl => match us, hl with | [_, _, _], _ => rfl
  have D__law_alive : Df K mg "_law_alive" sAliv ["_law_shot_here", "_law_gone", "_law_cut"] f__law_alive fd__law_alive := ⟨F__law_alive, b__law_alive, g__law_alive⟩
  obtain ⟨fd__law_dying, F__law_dying⟩ := a__law_dying.fn
  have g__law_dying := PySem.W.mg_of X G a__law_dying.nm
  have b__law_dying := F__law_dying.binds (ps := ["_law_shot_here", "_law_gone", "_law_cut"]) fun _ _ _ _ _ _ us hl => match us, hl with | [_, _, _], _ => rfl
  have D__law_dying : Df K mg "_law_dying" sDying ["_law_shot_here", "_law_gone", "_law_cut"] f__law_dying fd__law_dying := ⟨F__law_dying, b__law_dying, g__law_dying⟩
  obtain ⟨fd__law_links, F__law_links⟩ := a__law_links.fn
  have g__law_links := PySem.W.mg_of X G a__law_links.nm
  have b__law_links := F__law_links.binds (ps := ["_law_shot_here"]) fun _ _ _ _ _ _ us hl => match us, hl with | [_], _ => rfl
  have D__law_links : Df K mg "_law_links" sLinks ["_law_shot_here"] f__law_links fd__law_links := ⟨F__law_links, b__law_links, g__law_links⟩
  obtain ⟨fd__law_odd, F__law_odd⟩ := a__law_odd.fn
  have g__law_odd := PySem.W.mg_of X G a__law_odd.nm
  have b__law_odd := F__law_odd.binds (ps := ["_law_box_here", "_law_thing"]) fun _ _ _ _ _ _ us hl => match us, hl with | [_, _], _ => rfl
  have D__law_odd : Df K mg "_law_odd" sOdd ["_law_box_here", "_law_thing"] f__law_odd fd__law_odd := ⟨F__law_odd, b__law_odd, g__law_odd⟩
  obtain ⟨fd__law_bent, F__law_bent⟩ := a__law_bent.fn
  have g__law_bent := PySem.W.mg_of X G a__law_bent.nm
  have b__law_bent := F__law_bent.binds (ps := ["_law_box_here", "_law_thing"]) fun _ _ _ _ _ _ us hl => match us, hl with | [_, _], _ => rfl
  have D__law_bent : Df K mg "_law_bent" sBent ["_law_box_here", "_law_thing"] f__law_bent fd__law_bent := ⟨F__law_bent, b__law_bent, g__law_bent⟩
  obtain ⟨fd__law_asked, F__law_asked⟩ := a__law_asked.fn
  have g__law_asked := PySem.W.mg_of X G a__law_asked.nm
  have b__law_asked := F__law_asked.binds (ps := ["_law_ask"]) fun _ _ _ _ _ _ us hl => match us, hl with | [_], _ => rfl
  have D__law_asked : Df K mg "_law_asked" sAsked ["_law_ask"] f__law_asked fd__law_asked := ⟨F__law_asked, b__law_asked, g__law_asked⟩
  obtain ⟨fd__law_told, F__law_told⟩ := a__law_told.fn
  have g__law_told := PySem.W.mg_of X G a__law_told.nm
  have b__law_told := F__law_told.binds (ps := ["_law_shot_here", "_law_some"]) fun _ _ _ _ _ _ us hl => match us, hl with | [_, _], _ => rfl
  have D__law_told : Df K mg "_law_told" sTold ["_law_shot_here", "_law_some"] f__law_told fd__law_told := ⟨F__law_told, b__law_told, g__law_told⟩
  obtain ⟨fd__law_right, FT__law_right, F__law_right⟩ := a__law_right.fn
  have g__law_right := PySem.W.mg_of X G a__law_right.nm
  have b__law_right := F__law_right.binds (ps := ["_law_box_here"]) fun _ _ _ _ _ _ us hl => match us, hl with | [_], _ => rfl
  have D__law_right : Df K mg "_law_right" sRight ["_law_box_here"] f__law_right fd__law_right := ⟨F__law_right, b__law_right, g__law_right⟩
  obtain ⟨fd_net_of, F_net_of⟩ := a_net_of.fn
  have g_net_of := PySem.W.mg_of X G a_net_of.nm
  have b_net_of := F_net_of.binds (ps := ["snapshot"]) fun _ _ _ _ _ _ us hl => match us, hl with | [_], _ => rfl
  have D_net_of : Df K mg "net_of" sNetOf ["snapshot"] f_net_of fd_net_of := ⟨F_net_of, b_net_of, g_net_of⟩
  obtain ⟨fd_need_links, F_need_links⟩ := a_need_links.fn
  have g_need_links := PySem.W.mg_of X G a_need_links.nm
  have b_need_links := F_need_links.binds (ps := ["net", "alive", "values"]) fun _ _ _ _ _ _ us hl => match us, hl with | [_, _, _], _ => rfl
  have D_need_links : Df K mg "need_links" sNeedL ["net", "alive", "values"] f_need_links fd_need_links := ⟨F_need_links, b_need_links, g_need_links⟩
  obtain ⟨fd_is_integer, F_is_integer⟩ := a_is_integer.fn
  have g_is_integer := PySem.W.mg_of X G a_is_integer.nm
  have b_is_integer := F_is_integer.binds (ps := ["value"]) fun _ _ _ _ _ _ us hl => match us, hl with | [_], _ => rfl
  have D_is_integer : Df K mg "is_integer" sInt ["value"] f_is_integer fd_is_integer := ⟨F_is_integer, b_is_integer, g_is_integer⟩
  obtain ⟨fd_sources_of, F_sources_of⟩ := a_sources_of.fn
  have g_sources_of := PySem.W.mg_of X G a_sources_of.nm
  have b_sources_of := F_sources_of.binds (ps := ["link"]) fun _ _ _ _ _ _ us hl => match us, hl with | [_], _ => rfl
  have D_sources_of : Df K mg "sources_of" sSrc ["link"] f_sources_of fd_sources_of := ⟨F_sources_of, b_sources_of, g_sources_of⟩
  obtain ⟨fd_is_link, F_is_link⟩ := a_is_link.fn
  have g_is_link := PySem.W.mg_of X G a_is_link.nm
  have b_is_link := F_is_link.binds (ps := ["value"]) fun _ _ _ _ _ _ us hl => match us, hl with | [_], _ => rfl
  have D_is_link : Df K mg "is_link" sIsLink ["value"] f_is_link fd_is_link := ⟨F_is_link, b_is_link, g_is_link⟩
  obtain ⟨fd_lost, F_lost⟩ := a_lost.fn
  have g_lost := PySem.W.mg_of X G a_lost.nm
  have b_lost := F_lost.binds (ps := ["met", "left"]) fun _ _ _ _ _ _ us hl => match us, hl with | [_, _], _ => rfl
  have D_lost : Df K mg "lost" sLost ["met", "left"] f_lost fd_lost := ⟨F_lost, b_lost, g_lost⟩
  obtain ⟨fd_dies_without, F_dies_without⟩ := a_dies_without.fn
  have g_dies_without := PySem.W.mg_of X G a_dies_without.nm
  have g_Net := PySem.W.mg_of X G c_Net.nm
  obtain ⟨fd_Net___init__, F_Net___init__⟩ := a_Net___init__.fn
  have b_Net___init__ := F_Net___init__.binds (ps := ["self", "roots", "rows"]) fun _ _ _ _ _ _ us hl => match us, hl with | [_, _, _], _ => rfl
  have mk_Net : Mk K C_Net f_Net___init__ := ⟨c_Net.mks, a_Net___init__.fi, a_Net___init__.isf, c_Net.kc⟩
  obtain ⟨fd_Net_met, F_Net_met⟩ := a_Net_met.fn
  have b_Net_met := F_Net_met.binds (ps := ["self", "barred"]) fun _ _ _ _ _ _ us hl => match us, hl with | [_, _], _ => rfl
  have M_Net_met : Mf K C_Net "met" "Net.met" sMet ["self", "barred"] f_Net_met fd_Net_met := ⟨F_Net_met, b_Net_met, ⟨a_Net_met.fi, a_Net_met.isf, a_Net_met.kp⟩⟩
  obtain ⟨fd_Net_led_to, F_Net_led_to⟩ := a_Net_led_to.fn
  have b_Net_led_to := F_Net_led_to.binds (ps := ["self", "link"]) fun _ _ _ _ _ _ us hl => match us, hl with | [_, _], _ => rfl
  have M_Net_led_to : Mf K C_Net "led_to" "Net.led_to" sLed ["self", "link"] f_Net_led_to fd_Net_led_to := ⟨F_Net_led_to, b_Net_led_to, ⟨a_Net_led_to.fi, a_Net_led_to.isf, a_Net_led_to.kp⟩⟩
  obtain ⟨fd_Net_without, F_Net_without⟩ := a_Net_without.fn
  have b_Net_without := F_Net_without.binds (ps := ["self", "links"]) fun _ _ _ _ _ _ us hl => match us, hl with | [_, _], _ => rfl
  have M_Net_without : Mf K C_Net "without" "Net.without" sWout ["self", "links"] f_Net_without fd_Net_without := ⟨F_Net_without, b_Net_without, ⟨a_Net_without.fi, a_Net_without.isf, a_Net_without.kp⟩⟩
  have m_len := PySem.W.mg_none_of X G z_len
  have m_abs := PySem.W.mg_none_of X G z_abs
  have m_int := PySem.W.mg_none_of X G z_int
  have m_range := PySem.W.mg_none_of X G z_range
  have m_max := PySem.W.mg_none_of X G z_max
  have m_min := PySem.W.mg_none_of X G z_min
  have m_repr := PySem.W.mg_none_of X G z_repr
  have m_tuple := PySem.W.mg_none_of X G z_tuple
  have m_sorted := PySem.W.mg_none_of X G z_sorted
  have m_str := PySem.W.mg_none_of X G z_str
  have m_list := PySem.W.mg_none_of X G z_list
  have m_all := PySem.W.mg_none_of X G z_all
  have m_dict := PySem.W.mg_none_of X G z_dict
  have m_isinstance := PySem.W.mg_none_of X G z_isinstance
  have m_bool := PySem.W.mg_none_of X G z_bool
  have m_super := PySem.W.mg_none_of X G z_super
  have m_ValueError := PySem.W.mg_none_of X G z_ValueError
  have g_HeapError := PySem.W.mg_of X G nm_E
  have g_NoObject := PySem.W.mg_of X G nm_O
  have g_TooMany := PySem.W.mg_of X G nm_T
  have g_BadText := PySem.W.mg_of X G nm_B
  have g_Fault := PySem.W.mg_of X G nm_F
  have g_NoLink := PySem.W.mg_of X G d_NoLink.nm
  refine ⟨fd_law, [(c__law_right, PT)], spLaw K PT, fun p hp => by rw [List.mem_singleton.mp hp]; exact tb PT (List.mem_singleton.mpr rfl), fun p hp => by rw [List.mem_singleton.mp hp]; exact tn, fun p hp => by rw [List.mem_singleton.mp hp]; exact PySem.W.codeHd_of_K X tc, fun s v => ?_, fun H a ns hl hT hS => ⟨a, ns, rfl, hS, hl, fun p hp => by rw [List.mem_singleton.mp hp]; exact TabS.nil (hT _ (List.mem_singleton.mpr rfl)), fun _ => rfl⟩, fun base _ _ tabs => ?_⟩
  · obtain ⟨oc, od, kV, doc, pm, an, cdv, ct, osl, rfl, _⟩ := F_law.ex
    exact .of_eq rfl
  · have T : Txt K mg C_Net := ⟨c_Net.cl, n_Net_roots, n_Net_rows, g_Net⟩
    have hH : Hold K w mg hd := by
      obtain ⟨es, n, D⟩ := He.dicW_ok hh_dic
      exact ⟨PySem.W.mg_of X G hh_hold, ⟨es, n, _, D.at_, D.lit, hh_s, ⟨_, rfl⟩⟩, ⟨es, n, _, D.at_, D.lit, hh_e, ⟨_, rfl⟩⟩⟩
    have ND : NetD l.prog w K mg base C_Net := ⟨T, f_Net___init__, fd_Net___init__, mk_Net, ok_ninit F_Net___init__ T, b_Net___init__⟩
    have er : Errs K C_HeapError C_NoObject C_NoLink C_TooMany C_BadText C_Fault C_NoLink 1 := ⟨by decide, PySem.W.exm_ref e_1 e_2 e_3 e_4, e_o, e_l, e_t, e_bf, e_ve, d_NoLink.base.exc, d_NoLink.base.xf, n_NoLink_value⟩
    obtain ⟨fd_N, ED⟩ := errD_of (w := w) (base := base) d_NoLink g_NoLink m_super n_NoLink_value
    have GL := ok_ledA (P := l.prog) (w := w) (base := base) F_Net_led_to T hH m_dict
    have GK := ok_linkA (P := l.prog) (w := w) (base := base) F_is_link D_is_integer m_len m_isinstance m_tuple m_str m_int m_bool
    have GE := ok_needlA F_need_links D_is_link D_sources_of M_Net_led_to T ED GK GL m_all
    have GW := ok_dwoA F_dies_without D_need_links D_net_of D_lost M_Net_met M_Net_without ND GE m_len m_tuple m_sorted m_dict
    have GU := ok_toldA F__law_told F_dies_without g_dies_without m_len GW
    have GS := ok_shot (P := l.prog) (w := w) (base := base) F__law_shot F__law_take F__law_of F__law_numbers F__law_parts b__law_take b__law_of b__law_numbers b__law_parts g__law_take g__law_of g__law_numbers g__law_parts m_len m_str m_tuple m_sorted m_range
    have GV := ok_aliv (P := l.prog) (w := w) (base := base) F__law_alive F__law_ways b__law_ways g__law_ways m_len m_all
    have GD := ok_dying (P := l.prog) (w := w) (base := base) F__law_dying F__law_alive b__law_alive g__law_alive m_tuple m_sorted GV
    have GKl := ok_links (P := l.prog) (w := w) (base := base) F__law_links F__law_alive F__law_ways b__law_alive b__law_ways g__law_alive g__law_ways m_sorted m_all GV
    have GO := ok_odd (P := l.prog) (w := w) (base := base) F__law_odd F__law_take F__law_of b__law_take b__law_of g__law_take g__law_of m_len m_isinstance m_tuple m_str m_int m_list
    have GB := ok_bent (P := l.prog) (w := w) (base := base) F__law_bent F__law_take F__law_odd b__law_bent b__law_take b__law_odd g__law_bent g__law_take g__law_odd m_len m_isinstance m_tuple GO
    have GF := ok_of (P := l.prog) (w := w) (base := base) F__law_of F__law_take b__law_take g__law_take m_len
    have TB := tabs (c__law_right, PT) (List.mem_singleton.mpr rfl)
    have GR := ok_right FT__law_right F__law_shot F__law_links F__law_ways F__law_of F__law_take F__law_dying F__law_bent F__law_odd F__law_asked F__law_told F_dies_without b__law_shot b__law_links b__law_ways b__law_of b__law_take b__law_dying b__law_bent b__law_odd b__law_asked b__law_told g__law_shot g__law_links g__law_ways g__law_of g__law_take g__law_dying g__law_bent g__law_odd g__law_asked g__law_told g_dies_without g_HeapError g_NoObject g_NoLink g_TooMany g_BadText g_Fault m_isinstance m_ValueError m_repr m_range TB er GS GKl GD GB GO GF GW GU
    exact ok_law F_law F__law_box F__law_right b__law_box b__law_right g__law_box g__law_right m_len m_range m_max m_min m_all m_abs m_int GR
end Sn
open PySem PySem.W PyProof.Rows
set_option maxHeartbeats 0 in
theorem PySem.Challenge.cw_crossheaps_k54_what_dies_without_links_holds : PySem.Challenge.rw_crossheaps_k54_what_dies_without_links.Holds := by
  w_on; o_law; km_head; (case hw => w_witness2)
  k_fill
  refine Gd.walkT (l := PySem.Challenge.rw_crossheaps_k54_what_dies_without_links) (n := 63) (k := 10) (x := "_law_script") (CX := fun _ => L2.CX0) rfl (by decide) rfl ⟨rfl, by decide, by decide⟩ (fun w h Y => PySem.W.km_in_of Y) ?F (fun _ _ _ _ _ h => h)
  case F =>
    intro w mg fa h Y KX G hmg
    have hT8 := PySem.W.km_tabs_of Y
    refine' Sn.top_ok KX G hmg (.of ?n0 ?l0 ?c0 ?k0) (.of ?n1 ?l1 ?c1 ?k1) (.of ?n2 ?l2 ?c2 ?k2) (.of ?n3 ?l3 ?c3 ?k3) (.of ?n4 ?l4 ?c4 ?k4) (.of ?n5 ?l5 ?c5 ?k5) (.of ?n6 ?l6 ?c6 ?k6) (.of ?n7 ?l7 ?c7 ?k7) (.of ?n8 ?l8 ?c8 ?k8) (.of ?n9 ?l9 ?c9 ?k9) (.of ?n10 ?l10 ?c10 ?k10) (.of ?n11 ?l11 ?c11 ?k11) (.of ?n12 ?l12 ?c12 ?k12) (.of ?n13 ?l13 ?c13 ?k13) (.of ?n14 ?l14 ?c14 ?k14) (.of ?n15 ?l15 ?c15 ?k15) (.of ?n16 ?l16 ?c16 ?k16) (.of ?n17 ?l17 ?c17 ?k17) (.of ?n18 ?l18 ?c18 ?k18) (.of ?n19 ?l19 ?c19 ?k19) (.of ?n20 ?l20 ?c20 ?k20) (.of ?n21 ?l21 ?c21 ?k21) (.of ?n22 ?l22 ?c22 ?k22) ⟨?yNet0, ?yNet1, ?yNet2, ?yNet3, ?yNet4, ?yNet5, ?yNet6⟩ ?xNet0 ?xNet1 (.of ?mf23 ?mi23 ?ml23 ?mc23 ?mk23) (.of ?mf24 ?mi24 ?ml24 ?mc24 ?mk24) (.of ?mf25 ?mi25 ?ml25 ?mc25 ?mk25) (.of ?mf26 ?mi26 ?ml26 ?mc26 ?mk26) (.of ?dNoLinkn (.mk ?bNoLinka ?bNoLinkb ?bNoLinkc ?bNoLinkd ?bNoLinke ?bNoLinkf ?bNoLinkg ?bNoLinkh ?bNoLinki ?bNoLinkj) ?dNoLinkl ?dNoLinkr ?dNoLinksa ?dNoLinkty ?dNoLinkini ?dNoLinkfn ?dNoLinklf ?dNoLinkcode ?dNoLinklc ?dNoLinkld ?dNoLinkv2 ?dNoLinkfl ?dNoLinkc ?dNoLinkm ?dNoLinks ?dNoLinksv ?dNoLinkop ?dNoLinkmn ?dNoLinkheap) ?xNoLinkvalue ?z0 ?z1 ?z2 ?z3 ?z4 ?z5 ?z6 ?z7 ?z8 ?z9 ?z10 ?z11 ?z12 ?z13 ?z14 ?z15 ?z16 ?h0 ?h1 ?h2 ?h3 ?h4 ?h5 ?h6 ?h7 ?h8 ?h9 ?h10 ?h11 ?h12 ?h13 ?h14 ?h15 ?h16 ?h17 hT8 ?tn ?tc
    (case yNet0 => k_is)
    (case yNet1 => k_is)
    (case yNet2 => k_is)
    (case yNet3 => k_is)
    (case yNet4 => k_is)
    (case yNet5 => k_is)
    (case yNet6 => k_is)
    (case h0 => k_is)
    (case h1 => k_is)
    (case h2 => k_is)
    (case h3 => k_is)
    (case h4 => k_is)
    (case n0 => k_is)
    (case l0 => k_is)
    (case c0 => k_is)
    (case k0 => k_is)
    (case n1 => k_is)
    (case l1 => k_is)
    (case c1 => k_is)
    (case k1 => k_is)
    (case n2 => k_is)
    (case l2 => k_is)
    (case c2 => k_is)
    (case k2 => k_is)
    (case n3 => k_is)
    (case l3 => k_is)
    (case c3 => k_is)
    (case k3 => k_is)
    (case n4 => k_is)
    (case l4 => k_is)
    (case c4 => k_is)
    (case k4 => k_is)
    (case n5 => k_is)
    (case l5 => k_is)
    (case c5 => k_is)
    (case k5 => k_is)
    (case n6 => k_is)
    (case l6 => k_is)
    (case c6 => k_is)
    (case k6 => k_is)
    (case n7 => k_is)
    (case l7 => k_is)
    (case c7 => k_is)
    (case k7 => k_is)
    (case n8 => k_is)
    (case l8 => k_is)
    (case c8 => k_is)
    (case k8 => k_is)
    (case n9 => k_is)
    (case l9 => k_is)
    (case c9 => k_is)
    (case k9 => k_is)
    (case n10 => k_is)
    (case l10 => k_is)
    (case c10 => k_is)
    (case k10 => k_is)
    (case n11 => k_is)
    (case l11 => k_is)
    (case c11 => k_is)
    (case k11 => k_is)
    (case n12 => k_is)
    (case l12 => k_is)
    (case c12 => k_is)
    (case k12 => k_is)
    (case n13 => k_is)
    (case l13 => k_is)
    (case c13 => k_is)
    (case k13 => k_is)
    (case n14 => k_is)
    (case l14 => k_is)
    (case c14 => k_is)
    (case k14 => k_is)
    (case n15 => k_is)
    (case l15 => k_is)
    (case c15 => k_is)
    (case k15 => k_is)
    (case n16 => k_is)
    (case l16 => k_is)
    (case c16 => k_is)
    (case k16 => k_is)
    (case n17 => k_is)
    (case l17 => k_is)
    (case c17 => k_is)
    (case k17 => k_is)
    (case n18 => k_is)
    (case l18 => k_is)
    (case c18 => k_is)
    (case k18 => k_is)
    (case n19 => k_is)
    (case l19 => k_is)
    (case c19 => k_is)
    (case k19 => k_is)
    (case n20 => k_is)
    (case l20 => k_is)
    (case c20 => k_is)
    (case k20 => k_is)
    (case n21 => k_is)
    (case l21 => k_is)
    (case c21 => k_is)
    (case k21 => k_is)
    (case n22 => k_is)
    (case l22 => k_is)
    (case c22 => k_is)
    (case k22 => k_is)
    (case xNet0 => k_is)
    (case xNet1 => k_is)
    (case mf23 => k_is)
    (case mi23 => k_is)
    (case ml23 => k_is)
    (case mc23 => k_is)
    (case mk23 => k_is)
    (case mf24 => k_is)
    (case mi24 => k_is)
    (case ml24 => k_is)
    (case mc24 => k_is)
    (case mk24 => k_is)
    (case mf25 => k_is)
    (case mi25 => k_is)
    (case ml25 => k_is)
    (case mc25 => k_is)
    (case mk25 => k_is)
    (case mf26 => k_is)
    (case mi26 => k_is)
    (case ml26 => k_is)
    (case mc26 => k_is)
    (case mk26 => k_is)
    (case dNoLinkn => k_is)
    (case bNoLinka => (first | k_is | kit_is | ks_is | rfl | kernel_rfl))
    (case bNoLinkb => (first | k_is | kit_is | ks_is | rfl | kernel_rfl))
    (case bNoLinkc => (first | k_is | kit_is | ks_is | rfl | kernel_rfl))
    (case bNoLinkd => (first | k_is | kit_is | ks_is | rfl | kernel_rfl))
    (case bNoLinke => (first | k_is | kit_is | ks_is | rfl | kernel_rfl))
    (case bNoLinkf => (first | k_is | kit_is | ks_is | rfl | kernel_rfl))
    (case bNoLinkg => (first | k_is | kit_is | ks_is | rfl | kernel_rfl))
    (case bNoLinkh => (first | k_is | kit_is | ks_is | rfl | kernel_rfl))
    (case bNoLinki => (first | k_is | kit_is | ks_is | rfl | kernel_rfl))
    (case bNoLinkj => (first | k_is | kit_is | ks_is | rfl | kernel_rfl))
    (case dNoLinkl => (first | k_is | kit_is | ks_is | rfl | kernel_rfl))
    (case dNoLinkr => (first | k_is | kit_is | ks_is | rfl | kernel_rfl))
    (case dNoLinksa => (first | k_is | kit_is | ks_is | rfl | kernel_rfl))
    (case dNoLinkty => (first | k_is | kit_is | ks_is | rfl | kernel_rfl))
    (case dNoLinkini => (first | k_is | kit_is | ks_is | rfl | kernel_rfl))
    (case dNoLinkfn => (first | k_is | kit_is | ks_is | rfl | kernel_rfl))
    (case dNoLinklf => (first | k_is | kit_is | ks_is | rfl | kernel_rfl))
    (case dNoLinkcode => (first | k_is | kit_is | ks_is | rfl | kernel_rfl))
    (case dNoLinklc => (first | k_is | kit_is | ks_is | rfl | kernel_rfl))
    (case dNoLinkld => (first | k_is | kit_is | ks_is | rfl | kernel_rfl))
    (case dNoLinkv2 => (first | k_is | kit_is | ks_is | rfl | kernel_rfl))
    (case dNoLinkfl => (first | k_is | kit_is | ks_is | rfl | kernel_rfl))
    (case dNoLinkc => (first | k_is | kit_is | ks_is | rfl | kernel_rfl))
    (case dNoLinkm => (first | k_is | kit_is | ks_is | rfl | kernel_rfl))
    (case dNoLinks => (first | k_is | kit_is | ks_is | rfl | kernel_rfl))
    (case dNoLinksv => (first | k_is | kit_is | ks_is | rfl | kernel_rfl))
    (case dNoLinkop => (first | k_is | kit_is | ks_is | rfl | kernel_rfl))
    (case dNoLinkmn => (first | k_is | kit_is | ks_is | rfl | kernel_rfl))
    (case dNoLinkheap => (first | k_is | kit_is | ks_is | rfl | kernel_rfl))
    (case xNoLinkvalue => k_is)
    (case z0 => k_is)
    (case z1 => k_is)
    (case z2 => k_is)
    (case z3 => k_is)
    (case z4 => k_is)
    (case z5 => k_is)
    (case z6 => k_is)
    (case z7 => k_is)
    (case z8 => k_is)
    (case z9 => k_is)
    (case z10 => k_is)
    (case z11 => k_is)
    (case z12 => k_is)
    (case z13 => k_is)
    (case z14 => k_is)
    (case z15 => k_is)
    (case z16 => k_is)
    (case h5 => (first | k_is | kit_is | ks_is | rfl | kernel_rfl))
    (case h6 => (first | k_is | kit_is | ks_is | rfl | kernel_rfl))
    (case h7 => (first | k_is | kit_is | ks_is | rfl | kernel_rfl))
    (case h8 => (first | k_is | kit_is | ks_is | rfl | kernel_rfl))
    (case h9 => (first | k_is | kit_is | ks_is | rfl | kernel_rfl))
    (case h10 => (first | k_is | kit_is | ks_is | rfl | kernel_rfl))
    (case h11 => (first | k_is | kit_is | ks_is | rfl | kernel_rfl))
    (case h12 => (first | k_is | kit_is | ks_is | rfl | kernel_rfl))
    (case h13 => (first | k_is | kit_is | ks_is | rfl | kernel_rfl))
    (case h14 => k_is)
    (case h15 => k_is)
    (case h16 => k_is)
    (case h17 => (first | rfl | k_is | kernel_rfl | decide +kernel))
    (case tn => (first | k_is | rfl | kernel_rfl))
    (case tc => (first | k_is | rfl | kernel_rfl))
