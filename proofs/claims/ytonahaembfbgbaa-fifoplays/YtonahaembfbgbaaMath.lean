/-
  Queues as plain data: rings of places that are linked by numbers, and the lists that they stand for.
-/
import Derived.Test.YtonahaembfbgbaaRows
import Derived.WalkKit
namespace Go.Proofs.Ytonahaembfbgbaa
open Go.RowKit

structure Plc where
  q : Int
  a : Nat
  b : Nat

def upd (f : Nat → Plc) (k : Nat) (p : Plc) : Nat → Plc := fun i => if i = k then p else f i
theorem upd_same (f : Nat → Plc) (k : Nat) (p : Plc) : upd f k p k = p := by simp [upd]
theorem upd_other (f : Nat → Plc) {k i : Nat} (p : Plc) (h : i ≠ k) : upd f k p i = f i := by simp [upd, h]
theorem upd_upd (f : Nat → Plc) (k : Nat) (p q : Plc) : upd (upd f k p) k q = upd f k q := by funext i; simp only [upd]; split <;> rfl

/-- Each one's neighbour behind it is the next one, whose neighbour ahead is that one. -/
def Links (f : Nat → Plc) : List Nat → Prop
  | [] => True
  | [_] => True
  | a :: b :: r => ((f a).b = b ∧ (f b).a = a) ∧ Links f (b :: r)

theorem links_app (f : Nat → Plc) (y : Nat) (zs : List Nat) : ∀ xs, Links f (xs ++ y :: zs) ↔ Links f (xs ++ [y]) ∧ Links f (y :: zs)
  | [] => by simp [Links]
  | [a] => by simp [Links]
  | a :: b :: r => by
    have ih := links_app f y zs (b :: r)
    simp only [List.cons_append, Links] at ih ⊢
    rw [ih]; simp only [and_assoc]

theorem links_to {f g : Nat → Plc} : ∀ l, Links f l → (∀ x ∈ l.dropLast, (g x).b = (f x).b) → (∀ x ∈ l.tail, (g x).a = (f x).a) → Links g l
  | [], _, _, _ => trivial
  | [_], _, _, _ => trivial
  | a :: b :: r, h, h1, h2 => by
    refine ⟨⟨?_, ?_⟩, links_to (b :: r) h.2 (fun x hx => h1 x (by simp only [List.dropLast_cons_cons, List.mem_cons]; exact .inr hx)) (fun x hx => h2 x (by simp at hx ⊢; exact .inr hx))⟩
    · rw [h1 a (by simp)]; exact h.1.1
    · rw [h2 b (by simp)]; exact h.1.2

/-- The ring of a queue: its own place, its items, and its own place again. -/
abbrev ringOf (e : Nat) (l : List Nat) : List Nat := e :: (l ++ [e])

theorem snoc_of (e : Nat) : ∀ l : List Nat, ∃ s x, e :: l = s ++ [x]
  | [] => ⟨[], e, rfl⟩
  | b :: r => by
    obtain ⟨s, x, h⟩ := snoc_of b r
    exact ⟨e :: s, x, by rw [h]; rfl⟩
theorem mem_turn {y e : Nat} {l : List Nat} (h : y ∈ l ++ [e]) : y ∈ e :: l := by
  rcases List.mem_append.1 h with h | h
  · exact List.mem_cons_of_mem _ h
  · simp at h; simp [h]
theorem mem_left {y e x : Nat} {l1 l2 : List Nat} (h : y ∈ e :: l1) : y ∈ e :: (l1 ++ x :: l2) := by
  rcases List.mem_cons.1 h with h | h
  · simp [h]
  · simp [h]
theorem mem_right {y e x : Nat} {l1 l2 : List Nat} (h : y ∈ e :: l2) : y ∈ e :: (l1 ++ x :: l2) := by
  rcases List.mem_cons.1 h with h | h
  · simp [h]
  · simp [h]

theorem ring_last {f : Nat → Plc} {e : Nat} {l : List Nat} (h : Links f (ringOf e l)) : ∃ s, e :: l = s ++ [(f e).a] := by
  obtain ⟨s, x, hs⟩ := snoc_of e l
  refine ⟨s, ?_⟩
  have h' : Links f (s ++ x :: [e]) := by
    rw [show s ++ x :: [e] = (s ++ [x]) ++ [e] by simp, ← hs]; exact h
  rw [((links_app f x [e] s).1 h').2.1.2]
  exact hs

theorem tail_snoc {e : Nat} {l s : List Nat} {x : Nat} (h : e :: l = s ++ [x]) : (s ++ [x]).tail = l := by rw [← h]; rfl

theorem ring_push {f g : Nat → Plc} {e x last : Nat} {l : List Nat} (hn : (e :: l).Nodup) (hx : x ∉ e :: l) (h : Links f (ringOf e l)) (hla : (f e).a = last)
    (hb : ∀ y, y ≠ x → y ≠ last → (g y).b = (f y).b) (ha : ∀ y, y ≠ x → y ≠ e → (g y).a = (f y).a)
    (g1 : (g last).b = x) (g2 : (g x).a = last) (g3 : (g x).b = e) (g4 : (g e).a = x) : Links g (ringOf e (l ++ [x])) := by
  obtain ⟨s, hs⟩ := ring_last h
  rw [hla] at hs
  have h' : Links f (s ++ last :: [e]) := by
    rw [show s ++ last :: [e] = (s ++ [last]) ++ [e] by simp, ← hs]; exact h
  have hr : ringOf e (l ++ [x]) = s ++ last :: [x, e] := by
    rw [show s ++ last :: [x, e] = (s ++ [last]) ++ [x, e] by simp, ← hs]; simp
  rw [hr]
  refine (links_app g last [x, e] s).2 ⟨?_, ⟨g1, g2⟩, ⟨g3, g4⟩, trivial⟩
  refine links_to _ ((links_app f last [e] s).1 h').1 (fun y hy => ?_) (fun y hy => ?_)
  · simp at hy
    have hm : y ∈ e :: l := by rw [hs]; simp [hy]
    refine hb y (fun e' => hx (e' ▸ hm)) (fun e' => ?_)
    rw [hs, List.nodup_append] at hn
    exact hn.2.2 y hy last (by simp) e'
  · rw [tail_snoc hs] at hy
    exact ha y (fun e' => hx (e' ▸ List.mem_cons_of_mem _ hy)) (fun e' => (List.nodup_cons.1 hn).1 (e' ▸ hy))

theorem ring_other {f g : Nat → Plc} {e : Nat} {l : List Nat} (h : Links f (ringOf e l)) (hb : ∀ y ∈ e :: l, (g y).b = (f y).b) (ha : ∀ y ∈ e :: l, (g y).a = (f y).a) : Links g (ringOf e l) := by
  refine links_to _ h (fun y hy => hb y ?_) (fun y hy => ha y ?_)
  · have : (ringOf e l).dropLast = e :: l := by
      rw [show ringOf e l = (e :: l) ++ [e] by simp, List.dropLast_concat]
    rwa [this] at hy
  · exact mem_turn hy

theorem ring_remove {f g : Nat → Plc} {e x a b : Nat} {l1 l2 : List Nat} (hn : (e :: (l1 ++ x :: l2)).Nodup) (h : Links f (ringOf e (l1 ++ x :: l2))) (hfa : (f x).a = a) (hfb : (f x).b = b)
    (hb : ∀ y, y ≠ a → (g y).b = (f y).b) (ha : ∀ y, y ≠ b → (g y).a = (f y).a) (g1 : (g a).b = b) (g2 : (g b).a = a) :
    Links g (ringOf e (l1 ++ l2)) ∧ a ∈ e :: l1 ∧ b ∈ e :: l2 := by
  obtain ⟨s, a', hs⟩ := snoc_of e l1
  obtain ⟨b', t, ht⟩ : ∃ b' t, l2 ++ [e] = b' :: t := by
    cases l2 with
    | nil => exact ⟨e, [], rfl⟩
    | cons y r => exact ⟨y, r ++ [e], rfl⟩
  have hr : ringOf e (l1 ++ x :: l2) = s ++ a' :: x :: (b' :: t) := by
    rw [← ht, show s ++ a' :: x :: (l2 ++ [e]) = (s ++ [a']) ++ (x :: (l2 ++ [e])) by simp, ← hs]; simp
  rw [hr] at h
  obtain ⟨h1, ⟨_, k2⟩, ⟨k3, _⟩, h4⟩ := (links_app f a' (x :: b' :: t) s).1 h
  obtain rfl : a = a' := hfa ▸ k2
  obtain rfl : b = b' := hfb ▸ k3
  rw [List.nodup_cons, List.nodup_append, List.nodup_cons] at hn
  obtain ⟨n0, n1, ⟨n2, n3⟩, n4⟩ := hn
  have ma : a ∈ e :: l1 := by rw [hs]; simp
  have mb : b ∈ e :: l2 := by
    exact mem_turn (by rw [ht]; simp)
  have hr2 : ringOf e (l1 ++ l2) = s ++ a :: (b :: t) := by
    rw [← ht, show s ++ a :: (l2 ++ [e]) = (s ++ [a]) ++ (l2 ++ [e]) by simp, ← hs]; simp
  refine ⟨?_, ma, mb⟩
  rw [hr2]
  refine (links_app g a (b :: t) s).2 ⟨?_, ⟨g1, g2⟩, ?_⟩
  · refine links_to _ h1 (fun y hy => hb y ?_) (fun y hy => ha y ?_)
    · simp at hy
      intro e'
      have hd : (e :: l1).Nodup := List.nodup_cons.2 ⟨fun hm => n0 (by simp [hm]), n1⟩
      rw [hs, List.nodup_append] at hd
      exact hd.2.2 y hy a (by simp) e'
    · rw [tail_snoc hs] at hy
      intro e'
      subst e'
      rcases List.mem_cons.1 mb with e' | hm
      · subst e'; exact n0 (by simp [hy])
      · exact n4 y hy y (by simp [hm]) rfl
  · refine links_to _ h4 (fun y hy => hb y ?_) (fun y hy => ha y ?_)
    · rw [← ht, List.dropLast_concat] at hy
      intro e'
      subst e'
      rcases List.mem_cons.1 ma with e' | hm
      · subst e'; exact n0 (by simp [hy])
      · exact n4 y hm y (by simp [hy]) rfl
    · simp at hy
      intro e'
      subst e'
      cases l2 with
      | nil => simp at ht; obtain ⟨_, rfl⟩ := ht; simp at hy
      | cons z r =>
        simp at ht
        obtain ⟨rfl, rfl⟩ := ht
        simp at hy
        rcases hy with hy | rfl
        · exact (List.nodup_cons.1 n3).1 hy
        · exact n0 (by simp)

/-- Queues: their lists, and of each item in which it is. -/
structure Qs where
  nq : Nat
  ni : Nat
  l : Nat → List Nat
  wh : Nat → Int

structure Ok (s : Qs) : Prop where
  nq : s.nq ≤ 32
  ni : s.ni ≤ 32
  mem : ∀ k x, k < s.nq → (x ∈ s.l k ↔ x < s.ni ∧ s.wh x = (k : Int))
  wh : ∀ x, x < s.ni → s.wh x = -1 ∨ (0 ≤ s.wh x ∧ s.wh x < (s.nq : Int))
  nodup : ∀ k, k < s.nq → (s.l k).Nodup

structure Rep (s : Qs) (f : Nat → Plc) : Prop where
  ring : ∀ k, k < s.nq → Links f (ringOf (s.ni + k) (s.l k))
  wh : ∀ i, i < s.ni → (f i).q = s.wh i

def setL (l : Nat → List Nat) (k : Nat) (x : List Nat) : Nat → List Nat := fun i => if i = k then x else l i
def setW (l : Nat → Int) (k : Nat) (x : Int) : Nat → Int := fun i => if i = k then x else l i
theorem setL_same (l : Nat → List Nat) (k : Nat) (x : List Nat) : setL l k x k = x := by simp [setL]
theorem setL_other (l : Nat → List Nat) {k i : Nat} (x : List Nat) (h : i ≠ k) : setL l k x i = l i := by simp [setL, h]
theorem setW_same (l : Nat → Int) (k : Nat) (x : Int) : setW l k x k = x := by simp [setW]
theorem setW_other (l : Nat → Int) {k i : Nat} (x : Int) (h : i ≠ k) : setW l k x i = l i := by simp [setW, h]

abbrev hasQ (s : Qs) (k : Int) : Prop := 0 ≤ k ∧ k < (s.nq : Int)
abbrev hasI (s : Qs) (x : Int) : Prop := 0 ≤ x ∧ x < (s.ni : Int)
def whereOf (s : Qs) (x : Int) : Int := if hasI s x then s.wh x.toNat else -1
abbrev fits (s : Qs) (k x : Int) : Prop := hasQ s k ∧ hasI s x ∧ s.wh x.toNat = -1
def pushB (s : Qs) (k x : Int) : Bool := if fits s k x then true else false
def pushAt (s : Qs) (k x : Nat) : Qs := { s with l := setL s.l k (s.l k ++ [x]), wh := setW s.wh x k }
def pushOf (s : Qs) (k x : Int) : Qs := if fits s k x then pushAt s k.toNat x.toNat else s
def rmAt (s : Qs) (k x : Nat) : Qs := { s with l := setL s.l k ((s.l k).filter (fun y => y != x)), wh := setW s.wh x (-1) }
def rmB (s : Qs) (x : Int) : Bool := if whereOf s x = -1 then false else true
def rmOf (s : Qs) (x : Int) : Qs := if whereOf s x = -1 then s else rmAt s (whereOf s x).toNat x.toNat
def allOf (s : Qs) (k : Int) : List Nat := if hasQ s k then s.l k.toNat else []
def popX (s : Qs) (k : Int) : Nat := (allOf s k).headD 0
def popB (s : Qs) (k : Int) : Bool := if allOf s k = [] then false else true
def popOf (s : Qs) (k : Int) : Qs := if allOf s k = [] then s else rmOf s (popX s k)

theorem split_filter {l1 l2 : List Nat} {x : Nat} (h : (l1 ++ x :: l2).Nodup) : (l1 ++ x :: l2).filter (fun y => y != x) = l1 ++ l2 := by
  rw [List.nodup_append, List.nodup_cons] at h
  obtain ⟨_, ⟨h2, _⟩, h3⟩ := h
  rw [List.filter_append, List.filter_cons_of_neg (by simp)]
  congr 1
  · refine List.filter_eq_self.2 fun y hy => ?_
    have := h3 y hy x (by simp)
    simpa using this
  · refine List.filter_eq_self.2 fun y hy => ?_
    have : y ≠ x := fun e => h2 (e ▸ hy)
    simpa using this

theorem pushAt_ok {s : Qs} (h : Ok s) {k x : Nat} (hk : k < s.nq) (hx : x < s.ni) (hw : s.wh x = -1) : Ok (pushAt s k x) := by
  have hnx : ∀ j, j < s.nq → x ∉ s.l j := fun j hj hm => by have := ((h.mem j x hj).1 hm).2; omega
  refine ⟨h.nq, h.ni, fun j y hj => ?_, fun y hy => ?_, fun j hj => ?_⟩
  · show y ∈ setL s.l k (s.l k ++ [x]) j ↔ y < s.ni ∧ setW s.wh x k y = (j : Int)
    by_cases ey : y = x
    · subst ey
      rw [setW_same]
      by_cases ej : j = k
      · subst ej; rw [setL_same]; simp [hx]
      · rw [setL_other _ _ ej]
        exact ⟨fun hm => absurd hm (hnx j hj), fun hm => by have := hm.2; omega⟩
    · rw [setW_other _ _ ey]
      by_cases ej : j = k
      · subst ej; rw [setL_same]; simp [ey, h.mem j y hj]
      · rw [setL_other _ _ ej]; exact h.mem j y hj
  · show setW s.wh x k y = -1 ∨ (0 ≤ setW s.wh x k y ∧ setW s.wh x k y < (s.nq : Int))
    by_cases ey : y = x
    · subst ey; rw [setW_same]; right; omega
    · rw [setW_other _ _ ey]; exact h.wh y hy
  · show (setL s.l k (s.l k ++ [x]) j).Nodup
    by_cases ej : j = k
    · subst ej
      rw [setL_same, List.nodup_append]
      refine ⟨h.nodup j hj, by simp, fun a ha b hb e => ?_⟩
      simp at hb
      subst hb e
      exact hnx j hj ha
    · rw [setL_other _ _ ej]; exact h.nodup j hj

theorem rmAt_ok {s : Qs} (h : Ok s) {k x : Nat} (hk : k < s.nq) (hx : x < s.ni) (hw : s.wh x = (k : Int)) : Ok (rmAt s k x) := by
  refine ⟨h.nq, h.ni, fun j y hj => ?_, fun y hy => ?_, fun j hj => ?_⟩
  · show y ∈ setL s.l k ((s.l k).filter (fun y => y != x)) j ↔ y < s.ni ∧ setW s.wh x (-1) y = (j : Int)
    by_cases ey : y = x
    · subst ey
      rw [setW_same]
      by_cases ej : j = k
      · subst ej; rw [setL_same]; simp
      · rw [setL_other _ _ ej, h.mem j y hj]
        exact ⟨fun hm => by have := hm.2; omega, fun hm => by have := hm.2; omega⟩
    · rw [setW_other _ _ ey]
      by_cases ej : j = k
      · subst ej; rw [setL_same]; simp [ey, h.mem j y hj]
      · rw [setL_other _ _ ej]; exact h.mem j y hj
  · show setW s.wh x (-1) y = -1 ∨ (0 ≤ setW s.wh x (-1) y ∧ setW s.wh x (-1) y < (s.nq : Int))
    by_cases ey : y = x
    · subst ey; rw [setW_same]; left; rfl
    · rw [setW_other _ _ ey]; exact h.wh y hy
  · show (setL s.l k ((s.l k).filter (fun y => y != x)) j).Nodup
    by_cases ej : j = k
    · subst ej; rw [setL_same]; exact (h.nodup j hj).filter _
    · rw [setL_other _ _ ej]; exact h.nodup j hj

theorem whereOf_at {s : Qs} {x : Int} (h : Ok s) (hw : whereOf s x ≠ -1) : ∃ k y : Nat, x = (y : Int) ∧ y < s.ni ∧ k < s.nq ∧ s.wh y = (k : Int) ∧ whereOf s x = (k : Int) := by
  unfold whereOf at hw ⊢
  split at hw
  · rename_i hi
    rw [if_pos hi]
    rcases h.wh x.toNat (by omega) with e | ⟨e1, e2⟩
    · exact absurd e hw
    · exact ⟨(s.wh x.toNat).toNat, x.toNat, by omega, by omega, by omega, by omega, by omega⟩
  · exact absurd rfl hw
theorem pushOf_ok {s : Qs} (h : Ok s) (k x : Int) : Ok (pushOf s k x) := by
  unfold pushOf
  split
  · rename_i hf
    exact pushAt_ok h (by omega) (by omega) hf.2.2
  · exact h
theorem rmOf_ok {s : Qs} (h : Ok s) (x : Int) : Ok (rmOf s x) := by
  unfold rmOf
  split
  · exact h
  · rename_i hw
    obtain ⟨k, y, rfl, h1, h2, h3, h4⟩ := whereOf_at h hw
    rw [h4]
    exact rmAt_ok h (by omega) (by omega) (by simpa using h3)
theorem popOf_ok {s : Qs} (h : Ok s) (k : Int) : Ok (popOf s k) := by
  unfold popOf
  split
  · exact h
  · exact rmOf_ok h _

/-- Whoever is in a queue's ring lies within the places; rings of two queues have nothing in common. -/
theorem ring_mem {s : Qs} (h : Ok s) {k y : Nat} (hk : k < s.nq) (hy : y ∈ (s.ni + k) :: s.l k) : y < s.ni + s.nq := by
  rcases List.mem_cons.1 hy with rfl | hm
  · omega
  · have := ((h.mem k y hk).1 hm).1; omega
theorem ring_nodup {s : Qs} (h : Ok s) {k : Nat} (hk : k < s.nq) : ((s.ni + k) :: s.l k).Nodup :=
  List.nodup_cons.2 ⟨fun hm => by have := ((h.mem k _ hk).1 hm).1; omega, h.nodup k hk⟩
theorem ring_apart {s : Qs} (h : Ok s) {k j y : Nat} (hk : k < s.nq) (hj : j < s.nq) (hne : j ≠ k) (hy : y ∈ (s.ni + k) :: s.l k) : y ∉ (s.ni + j) :: s.l j := by
  intro hz
  rcases List.mem_cons.1 hy with rfl | hm
  · rcases List.mem_cons.1 hz with e | hz
    · omega
    · have := ((h.mem j _ hj).1 hz).1; omega
  · have h1 := (h.mem k y hk).1 hm
    rcases List.mem_cons.1 hz with e | hz
    · omega
    · have := ((h.mem j _ hj).1 hz).2; omega

theorem rep_push {s : Qs} {f g : Nat → Plc} (h : Ok s) (hr : Rep s f) {k x last : Nat} (hk : k < s.nq) (hx : x < s.ni) (hw : s.wh x = -1) (hla : (f (s.ni + k)).a = last)
    (hq : ∀ y, y ≠ x → (g y).q = (f y).q) (hb : ∀ y, y ≠ x → y ≠ last → (g y).b = (f y).b) (ha : ∀ y, y ≠ x → y ≠ s.ni + k → (g y).a = (f y).a)
    (g0 : (g x).q = (k : Int)) (g1 : (g last).b = x) (g2 : (g x).a = last) (g3 : (g x).b = s.ni + k) (g4 : (g (s.ni + k)).a = x) : Rep (pushAt s k x) g := by
  have hnx : ∀ j, j < s.nq → x ∉ (s.ni + j) :: s.l j := fun j hj hm => by
    rcases List.mem_cons.1 hm with e | hm
    · omega
    · have := ((h.mem j x hj).1 hm).2; omega
  have hml : last ∈ (s.ni + k) :: s.l k := by
    obtain ⟨t, ht⟩ := ring_last (hr.ring k hk)
    rw [ht, hla]; simp
  refine ⟨fun j hj => ?_, fun i hi => ?_⟩
  · show Links g (ringOf (s.ni + j) (setL s.l k (s.l k ++ [x]) j))
    by_cases ej : j = k
    · subst ej
      rw [setL_same]
      exact ring_push (ring_nodup h hj) (hnx j hj) (hr.ring j hj) hla hb ha g1 g2 g3 g4
    · rw [setL_other _ _ ej]
      refine ring_other (hr.ring j hj) (fun y hy => hb y (fun e => hnx j hj (e ▸ hy)) (fun e => ?_)) (fun y hy => ha y (fun e => hnx j hj (e ▸ hy)) (fun e => ?_))
      · exact ring_apart h hk hj ej hml (e ▸ hy)
      · exact ring_apart h hk hj ej (y := s.ni + k) (by simp) (e ▸ hy)
  · show (g i).q = setW s.wh x k i
    by_cases ei : i = x
    · subst ei; rw [setW_same, g0]
    · rw [setW_other _ _ ei, hq i ei]; exact hr.wh i hi

theorem rep_remove {s : Qs} {f g : Nat → Plc} (h : Ok s) (hr : Rep s f) {k x a b : Nat} (hk : k < s.nq) (hx : x < s.ni) (hw : s.wh x = (k : Int)) (hfa : (f x).a = a) (hfb : (f x).b = b)
    (hq : ∀ y, y ≠ x → (g y).q = (f y).q) (hb : ∀ y, y ≠ a → (g y).b = (f y).b) (ha : ∀ y, y ≠ b → (g y).a = (f y).a)
    (g0 : (g x).q = -1) (g1 : (g a).b = b) (g2 : (g b).a = a) : Rep (rmAt s k x) g := by
  obtain ⟨l1, l2, hl⟩ := List.append_of_mem ((h.mem k x hk).2 ⟨hx, hw⟩)
  have hn := ring_nodup h hk
  have hR := hr.ring k hk
  rw [hl] at hn hR
  obtain ⟨r1, r2, r3⟩ := ring_remove hn hR hfa hfb hb ha g1 g2
  have m2 : a ∈ (s.ni + k) :: s.l k := by rw [hl]; exact mem_left r2
  have m3 : b ∈ (s.ni + k) :: s.l k := by rw [hl]; exact mem_right r3
  refine ⟨fun j hj => ?_, fun i hi => ?_⟩
  · show Links g (ringOf (s.ni + j) (setL s.l k ((s.l k).filter (fun y => y != x)) j))
    by_cases ej : j = k
    · subst ej
      rw [setL_same, hl, split_filter (List.nodup_cons.1 hn).2]
      exact r1
    · rw [setL_other _ _ ej]
      exact ring_other (hr.ring j hj) (fun y hy => hb y (fun e => ring_apart h hk hj ej m2 (e ▸ hy))) (fun y hy => ha y (fun e => ring_apart h hk hj ej m3 (e ▸ hy)))
  · show (g i).q = setW s.wh x (-1) i
    by_cases ei : i = x
    · subst ei; rw [setW_same, g0]
    · rw [setW_other _ _ ei, hq i ei]; exact hr.wh i hi

/-- What stands ahead of an item and behind it are other places of its ring. -/
theorem rep_near {s : Qs} {f : Nat → Plc} (h : Ok s) (hr : Rep s f) {k x : Nat} (hk : k < s.nq) (hx : x < s.ni) (hw : s.wh x = (k : Int)) :
    (f x).a < s.ni + s.nq ∧ (f x).b < s.ni + s.nq ∧ (f x).a ≠ x ∧ (f x).b ≠ x := by
  obtain ⟨l1, l2, hl⟩ := List.append_of_mem ((h.mem k x hk).2 ⟨hx, hw⟩)
  have hn := ring_nodup h hk
  have hR := hr.ring k hk
  rw [hl] at hn hR
  obtain ⟨g, hg⟩ : ∃ g : Nat → Plc, g = fun y => ⟨(f y).q, if y = (f x).b then (f x).a else (f y).a, if y = (f x).a then (f x).b else (f y).b⟩ := ⟨_, rfl⟩
  obtain ⟨_, r2, r3⟩ := ring_remove (g := g) hn hR rfl rfl (fun y hy => by subst hg; simp [hy]) (fun y hy => by subst hg; simp [hy]) (by subst hg; simp) (by subst hg; simp)
  have m2 : (f x).a ∈ (s.ni + k) :: s.l k := by rw [hl]; exact mem_left r2
  have m3 : (f x).b ∈ (s.ni + k) :: s.l k := by rw [hl]; exact mem_right r3
  refine ⟨ring_mem h hk m2, ring_mem h hk m3, fun e => ?_, fun e => ?_⟩
  · rw [e] at r2
    rw [List.nodup_cons, List.nodup_append] at hn
    rcases List.mem_cons.1 r2 with e2 | hm
    · omega
    · exact hn.2.2.2 x hm x (by simp) rfl
  · rw [e] at r3
    rw [List.nodup_cons, List.nodup_append, List.nodup_cons] at hn
    rcases List.mem_cons.1 r3 with e2 | hm
    · omega
    · exact hn.2.2.1.1 hm
theorem rep_last {s : Qs} {f : Nat → Plc} (h : Ok s) (hr : Rep s f) {k : Nat} (hk : k < s.nq) : (f (s.ni + k)).a ∈ (s.ni + k) :: s.l k ∧ (f (s.ni + k)).a < s.ni + s.nq := by
  obtain ⟨t, ht⟩ := ring_last (hr.ring k hk)
  have : (f (s.ni + k)).a ∈ (s.ni + k) :: s.l k := by rw [ht]; simp
  exact ⟨this, ring_mem h hk this⟩

/-- The places of a ring in their order. -/
def nd (e : Nat) (l : List Nat) (j : Nat) : Nat := (l ++ [e]).getD j e
theorem nd_lt {e : Nat} {l : List Nat} {j : Nat} (h : j < l.length) : l[j]? = some (nd e l j) := by
  simp [nd, List.getD, List.getElem?_append_left h, h]
theorem nd_end (e : Nat) (l : List Nat) : nd e l l.length = e := by simp [nd, List.getD]
theorem links_at {f : Nat → Plc} : ∀ (l : List Nat) (x : Nat) (j : Nat) (y z : Nat), Links f (x :: l) → (x :: l)[j]? = some y → (x :: l)[j + 1]? = some z → (f y).b = z
  | [], x, j, y, z, _, _, h2 => by simp at h2
  | b :: r, x, 0, y, z, h, h1, h2 => by simp at h1 h2; subst h1 h2; exact h.1.1
  | b :: r, x, j + 1, y, z, h, h1, h2 => links_at r b j y z h.2 (by simpa using h1) (by simpa using h2)
theorem ring_first {f : Nat → Plc} {e : Nat} {l : List Nat} (h : Links f (ringOf e l)) : (f e).b = nd e l 0 :=
  links_at (l ++ [e]) e 0 e _ h rfl (by cases l <;> simp [nd])
theorem ring_next {f : Nat → Plc} {e : Nat} {l : List Nat} (h : Links f (ringOf e l)) {j : Nat} (hj : j < l.length) : (f (nd e l j)).b = nd e l (j + 1) := by
  refine links_at (l ++ [e]) e (j + 1) _ _ h ?_ ?_
  · simp only [List.getElem?_cons_succ]
    rw [List.getElem?_append_left hj]; exact nd_lt hj
  · simp only [List.getElem?_cons_succ]
    have : j + 1 < (l ++ [e]).length := by simp; omega
    unfold nd List.getD
    rw [List.getElem?_eq_getElem this]; rfl

end Go.Proofs.Ytonahaembfbgbaa
