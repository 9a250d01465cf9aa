/-
  Wake-ups that are held back, as plain lists.
-/
import Derived.Test.YtiookbmffdmdeaaRows
import Derived.WalkKit
namespace Go.Proofs.Ytiookbmffdmdeaa

structure Wk where
  t : Int
  e : Int
def zk : Wk := ⟨0, 0⟩
def wk (l : List Wk) (i : Nat) : Wk := l.getD i zk
theorem wk_lt {l : List Wk} {i : Nat} (h : i < l.length) : l[i]? = some (wk l i) := by
  rw [List.getElem?_eq_getElem h]; simp [wk, List.getD, h]
theorem wk_ge {l : List Wk} {i : Nat} (h : l.length ≤ i) : wk l i = zk := by
  simp [wk, List.getD, h]
theorem wk_snoc_lt {l : List Wk} {x : Wk} {i : Nat} (h : i < l.length) : wk (l ++ [x]) i = wk l i := by
  simp [wk, List.getD, List.getElem?_append_left h]
theorem wk_snoc_eq {l : List Wk} {x : Wk} : wk (l ++ [x]) l.length = x := by
  simp [wk, List.getD]
theorem wk_snoc_ne {l : List Wk} {x : Wk} {i : Nat} (h : i ≠ l.length) : wk (l ++ [x]) i = wk l i := by
  by_cases h1 : i < l.length
  · exact wk_snoc_lt h1
  · rw [wk_ge (by simp; omega), wk_ge (by omega)]

/-- Is there one of this task? -/
def hasB (l : List Wk) (t : Int) : Bool := l.any fun x => decide (x.t = t)
theorem hasB_nil (t : Int) : hasB [] t = false := rfl
theorem hasB_false {l : List Wk} {t : Int} : hasB l t = false ↔ ∀ i, i < l.length → (wk l i).t ≠ t := by
  unfold hasB
  rw [List.any_eq_false]
  constructor
  · intro h i hi e
    refine h (wk l i) ?_ (decide_eq_true e)
    exact List.mem_of_getElem? (wk_lt hi)
  · intro h x hx hd
    obtain ⟨i, hi⟩ := List.getElem?_of_mem hx
    have hlt : i < l.length := (List.getElem?_eq_some_iff.1 hi).1
    rw [wk_lt hlt] at hi
    cases hi
    exact h i hlt (of_decide_eq_true hd)
theorem hasB_true {l : List Wk} {t : Int} {i : Nat} (hi : i < l.length) (h : (wk l i).t = t) : hasB l t = true := by
  cases hb : hasB l t
  · exact absurd h (hasB_false.1 hb i hi)
  · rfl
/-- Does one more come in? -/
def putB (n : Nat) (l : List Wk) (x : Wk) : Bool := decide (l.length < n) && !hasB l x.t
def putL (n : Nat) (l : List Wk) (x : Wk) : List Wk := if putB n l x = true then l ++ [x] else l
theorem putL_yes {n : Nat} {l : List Wk} {x : Wk} (h : putB n l x = true) : putL n l x = l ++ [x] := if_pos h
theorem putL_no {n : Nat} {l : List Wk} {x : Wk} (h : putB n l x = false) : putL n l x = l := if_neg (by rw [h]; decide)

/-- No more than may be, and no two of one task. -/
structure Ok (n : Nat) (l : List Wk) : Prop where
  len : l.length ≤ n
  n8 : n ≤ 8
  one : ∀ i k, i < l.length → k < i → (wk l k).t ≠ (wk l i).t
theorem Ok.nil {n : Nat} (h : n ≤ 8) : Ok n [] := ⟨Nat.zero_le _, h, fun i _ hi => absurd hi (by simp)⟩
theorem Ok.put {n : Nat} {l : List Wk} (h : Ok n l) (x : Wk) : Ok n (putL n l x) := by
  cases hb : putB n l x
  · rw [putL_no hb]; exact h
  · rw [putL_yes hb]
    unfold putB at hb
    rw [Bool.and_eq_true, decide_eq_true_eq, Bool.not_eq_true'] at hb
    refine ⟨by simp; omega, h.n8, fun i k hi hk => ?_⟩
    have hi' : i < l.length + 1 := by simpa using hi
    by_cases e : i = l.length
    · subst e
      rw [wk_snoc_eq, wk_snoc_lt hk]
      exact hasB_false.1 hb.2 k hk
    · rw [wk_snoc_lt (by omega), wk_snoc_lt (by omega)]
      exact h.one i k (by omega) hk

/-- What is told: so many, empty ones behind. -/
def told (n : Nat) (l : List Wk) : List Wk := l ++ List.replicate (n - l.length) zk
theorem told_len {n : Nat} {l : List Wk} (h : l.length ≤ n) : (told n l).length = n := by simp [told]; omega
theorem told_wk {n : Nat} {l : List Wk} (i : Nat) : wk (told n l) i = wk l i := by
  by_cases h : i < l.length
  · simp [wk, told, List.getD, List.getElem?_append_left h]
  · rw [wk_ge (l := l) (by omega)]
    by_cases h2 : i < (told n l).length
    · have e := wk_lt h2
      unfold told at e
      rw [List.getElem?_append_right (by omega)] at e
      have := List.mem_of_getElem? e
      rw [List.mem_replicate] at this
      exact this.2
    · exact wk_ge (by omega)
theorem wk_ext {a b : List Wk} (hl : a.length = b.length) (h : ∀ i, i < a.length → wk a i = wk b i) : a = b := by
  refine List.ext_getElem? fun i => ?_
  by_cases hi : i < a.length
  · rw [wk_lt hi, wk_lt (by omega), h i hi]
  · rw [List.getElem?_eq_none (by omega), List.getElem?_eq_none (by omega)]

def heldN (n : Int) : Nat := (min (max n 0) 8).toNat
theorem heldN_le (n : Int) : heldN n ≤ 8 := by unfold heldN; omega

/-- The cells of a row of wake-ups. -/
def cW (l : List Wk) : List Value := l.flatMap fun x => [.int .i64 x.t, .int .i64 x.e]
theorem cW_nil : cW [] = [] := rfl
theorem cW_app (a b : List Wk) : cW (a ++ b) = cW a ++ cW b := by simp [cW]
theorem cW_one (x : Wk) : cW [x] = [.int .i64 x.t, .int .i64 x.e] := rfl
theorem cW_len (l : List Wk) : (cW l).length = l.length * 2 := by
  induction l with
  | nil => rfl
  | cons x l ih => simp only [cW, List.flatMap_cons, List.length_append, List.length_cons, List.length_nil] at ih ⊢; omega
theorem cW_at : ∀ (l : List Wk) (i : Nat), i < l.length → (cW l)[i * 2]? = some (.int .i64 (wk l i).t) ∧ (cW l)[i * 2 + 1]? = some (.int .i64 (wk l i).e)
  | [], i, h => by simp at h
  | x :: l, 0, _ => by simp [cW, wk]
  | x :: l, i + 1, h => by
    have := cW_at l i (by simpa using h)
    rw [show (i + 1) * 2 = i * 2 + 1 + 1 by omega]
    simpa [cW, wk, List.getD] using this
theorem cW_ones (l : List Wk) : ∀ v ∈ cW l, v.oneCell' = true := by
  intro v hv
  unfold cW at hv
  obtain ⟨x, _, hx⟩ := List.mem_flatMap.1 hv
  simp at hx
  rcases hx with rfl | rfl <;> rfl

end Go.Proofs.Ytiookbmffdmdeaa
