/-
  Who does it, and who waits for that, as plain data: one row of numbers, of which the first one does it; and whether it is done.
-/
import Derived.Lib.Slices
namespace Go.Proofs.Ytinipmandmhgnaa

def gz (l : List Int) (k : Nat) : Int := l.getD k 0
def inZ (l : List Int) (t : Int) : Bool := l.any fun x => decide (x = t)
def rmZ (l : List Int) (t : Int) : List Int := l.filter fun x => !decide (x = t)
def idxZ (l : List Int) (t : Int) : Int := Go.Lib.idxOf l t
def hold (l : List Int) : Int := gz l 0

theorem inZ_true {l : List Int} {t : Int} : inZ l t = true ↔ t ∈ l := by simp [inZ]
theorem inZ_false {l : List Int} {t : Int} : inZ l t = false ↔ t ∉ l := by
  rw [← inZ_true]; cases inZ l t <;> simp
theorem mem_rm {l : List Int} {t x : Int} : x ∈ rmZ l t ↔ x ∈ l ∧ x ≠ t := by simp [rmZ]
theorem rm_none {l : List Int} {t : Int} (h : inZ l t = false) : rmZ l t = l := by
  unfold rmZ
  rw [List.filter_eq_self]
  intro x hx
  have := inZ_false.1 h
  simpa using fun e : x = t => this (e ▸ hx)
theorem rm_nodup {l : List Int} (h : l.Nodup) (t : Int) : (rmZ l t).Nodup := h.filter _
theorem rm_len (l : List Int) (t : Int) : (rmZ l t).length ≤ l.length := List.length_filter_le _ _
theorem in_rm (l : List Int) (t : Int) : inZ (rmZ l t) t = false := inZ_false.2 fun h => (mem_rm.1 h).2 rfl
theorem gz_mem {l : List Int} {k : Nat} (h : k < l.length) : gz l k ∈ l := by
  rw [gz, List.getD_eq_getElem?_getD, List.getElem?_eq_getElem h]
  exact List.getElem_mem h
theorem gz_zero (x : Int) (l : List Int) : gz (x :: l) 0 = x := rfl
theorem gz_succ (x : Int) (l : List Int) (k : Nat) : gz (x :: l) (k + 1) = gz l k := rfl
theorem gz_tail (l : List Int) (k : Nat) : gz l.tail k = gz l (k + 1) := by cases l <;> simp [gz]

/-- Where a number is first in a row it is taken out of there. -/
theorem rm_erase : ∀ {l : List Int} {t : Int} {k : Nat}, l.Nodup → k < l.length → gz l k = t → rmZ l t = l.eraseIdx k
  | [], _, _, _, h, _ => by simp at h
  | x :: l, t, 0, hn, _, e => by
    have e' : x = t := by simpa [gz] using e
    have h : inZ l t = false := inZ_false.2 fun hm => (List.nodup_cons.1 hn).1 (e' ▸ hm)
    show (x :: l).filter _ = _
    rw [List.filter_cons_of_neg (by simp [e'])]
    exact rm_none h
  | x :: l, t, k + 1, hn, hk, e => by
    have hk' : k < l.length := by simpa using hk
    have e' : gz l k = t := by simpa [gz] using e
    have hx : x ≠ t := fun h => (List.nodup_cons.1 hn).1 (h ▸ e' ▸ gz_mem hk')
    show (x :: l).filter _ = _
    rw [List.filter_cons_of_pos (by simp [hx]), List.eraseIdx_cons_succ]
    exact congrArg (x :: ·) (rm_erase (List.nodup_cons.1 hn).2 hk' e')
/-- One that is in a row is first at some place. -/
theorem in_at {l : List Int} {t : Int} (h : inZ l t = true) : ∃ k, k < l.length ∧ gz l k = t ∧ ∀ m, m < k → gz l m ≠ t := by
  induction l with
  | nil => simp [inZ] at h
  | cons x l ih =>
    by_cases hx : x = t
    · exact ⟨0, by simp, by simpa [gz] using hx, fun m hm => by omega⟩
    · have h' : inZ l t = true := by
        rcases List.mem_cons.1 (inZ_true.1 h) with h1 | h1
        · exact absurd h1.symm hx
        · exact inZ_true.2 h1
      obtain ⟨k, h1, h2, h3⟩ := ih h'
      refine ⟨k + 1, by simpa using h1, by simpa [gz] using h2, fun m hm => ?_⟩
      match m with
      | 0 => simpa [gz] using hx
      | m + 1 => simpa [gz] using h3 m (by omega)
theorem out_at {l : List Int} {t : Int} (h : inZ l t = false) : ∀ m, m < l.length → gz l m ≠ t := fun _ hm e => inZ_false.1 h (e ▸ gz_mem hm)

theorem idx_out {l : List Int} {t : Int} (h : inZ l t = false) : idxZ l t = -1 := by
  have := Go.Lib.idxOf_miss l l.length t (fun j hj => out_at h j hj)
  rwa [List.take_of_length_le (Nat.le_refl _)] at this
theorem idx_at {l : List Int} {t : Int} {k : Nat} (h1 : k < l.length) (h2 : gz l k = t) (h3 : ∀ m, m < k → gz l m ≠ t) : idxZ l t = (k : Int) := by
  have := Go.Lib.idxOf_hit l l.length k t h1 (Nat.le_refl _) h2 h3
  rwa [List.take_of_length_le (Nat.le_refl _)] at this
theorem idx_in {l : List Int} {t : Int} (h : inZ l t = true) : ∃ k : Nat, k < l.length ∧ idxZ l t = (k : Int) ∧ gz l k = t := by
  obtain ⟨k, h1, h2, h3⟩ := in_at h
  exact ⟨k, h1, idx_at h1 h2 h3, h2⟩
theorem one_at {l : List Int} (h : l.Nodup) {j k : Nat} (hj : j < l.length) (hk : k < l.length) (e : gz l j = gz l k) : j = k := by
  have e1 : l[j] = l[k] := by simpa [gz, List.getD_eq_getElem?_getD, hj, hk] using e
  exact (List.getElem_inj h).1 e1

/-- What a row is: each once, and each a task. -/
structure Okz (l : List Int) : Prop where
  nd : l.Nodup
  pos : ∀ x ∈ l, 1 ≤ x
theorem Okz.nil : Okz [] := ⟨List.nodup_nil, fun _ h => by cases h⟩

/-- Begin: whether it is the first one, what it answers, and the row behind it. -/
def begB (l : List Int) (o : Bool) (t : Int) : Bool := if t < 1 then false else if o = true then false else if inZ l t = true then false else if l = [] then true else false
def begE (l : List Int) (o : Bool) (t : Int) : Int := if t < 1 then 1 else if o = true then 0 else if inZ l t = true then 11 else if l = [] then 0 else 14
def begL (l : List Int) (o : Bool) (t : Int) : List Int := if t < 1 then l else if o = true then l else if inZ l t = true then l else l ++ [t]
abbrev has (l : List Int) (t : Int) : Prop := 1 ≤ t ∧ l ≠ [] ∧ hold l = t
/-- Done: who is told, what it answers, the row behind it, and whether it is done then. -/
def dnW (l : List Int) (t : Int) : List Int := if has l t then l.tail else []
def dnE (l : List Int) (t : Int) : Int := if t < 1 then 1 else if has l t then 0 else 11
def dnL (l : List Int) (t : Int) : List Int := if has l t then [] else l
def dnO (l : List Int) (o : Bool) (t : Int) : Bool := if has l t then true else o
def dropB (l : List Int) (t : Int) : Bool := inZ l.tail t
def dropL (l : List Int) (t : Int) : List Int := l.take 1 ++ rmZ l.tail t

theorem Okz.tail {l : List Int} (h : Okz l) : Okz l.tail := ⟨h.nd.sublist (List.tail_sublist l), fun x hx => h.pos x (List.mem_of_mem_tail hx)⟩
theorem Okz.snoc {l : List Int} (h : Okz l) {t : Int} (ht : ¬ t < 1) (hn : inZ l t = false) : Okz (l ++ [t]) := by
  refine ⟨?_, fun x hx => ?_⟩
  · rw [List.nodup_append]
    refine ⟨h.nd, by simp, fun a ha b hb e => ?_⟩
    simp at hb
    subst hb
    subst e
    exact inZ_false.1 hn ha
  · rcases List.mem_append.1 hx with q | q
    · exact h.pos x q
    · simp at q; omega
theorem Okz.beg {l : List Int} (h : Okz l) (o : Bool) (t : Int) : Okz (begL l o t) := by
  unfold begL
  split
  · exact h
  split
  · exact h
  split
  · exact h
  · rename_i h1 _ h2
    exact h.snoc h1 (by simpa using h2)
theorem Okz.dn {l : List Int} (h : Okz l) (t : Int) : Okz (dnL l t) := by
  unfold dnL
  split
  · exact Okz.nil
  · exact h
theorem Okz.drop {l : List Int} (h : Okz l) (t : Int) : Okz (dropL l t) := by
  unfold dropL
  cases l with
  | nil => exact h
  | cons x r =>
    have h1 := List.nodup_cons.1 h.nd
    refine ⟨?_, fun y hy => ?_⟩
    · show (x :: rmZ r t).Nodup
      exact List.nodup_cons.2 ⟨fun e => h1.1 (mem_rm.1 e).1, rm_nodup h1.2 t⟩
    · rcases List.mem_cons.1 (show y ∈ x :: rmZ r t from hy) with q | q
      · exact h.pos y (by rw [q]; exact List.mem_cons_self)
      · exact h.pos y (List.mem_cons_of_mem _ (mem_rm.1 q).1)
theorem beg_len (l : List Int) (o : Bool) (t : Int) : (begL l o t).length ≤ l.length + 1 := by
  unfold begL
  split
  · omega
  split
  · omega
  split <;> simp
theorem dn_len (l : List Int) (t : Int) : (dnL l t).length ≤ l.length := by
  unfold dnL
  split <;> simp
theorem dnW_len (l : List Int) (t : Int) : (dnW l t).length ≤ l.length := by
  unfold dnW
  split <;> simp
/-- Where it is done nobody is left. -/
def Ov (l : List Int) (o : Bool) : Prop := o = true → l = []
theorem Ov.beg {l : List Int} {o : Bool} (h : Ov l o) (t : Int) : Ov (begL l o t) o := fun e => by
  have := h e
  subst this
  unfold begL
  rw [if_pos e]
  split <;> rfl
theorem Ov.dn {l : List Int} {o : Bool} (h : Ov l o) (t : Int) : Ov (dnL l t) (dnO l o t) := by
  unfold dnL dnO
  split
  · exact fun _ => rfl
  · exact h
theorem Ov.drop {l : List Int} {o : Bool} (h : Ov l o) (t : Int) : Ov (dropL l t) o := fun e => by
  rw [h e]
  rfl
theorem drop_len (l : List Int) (t : Int) : (dropL l t).length ≤ l.length := by
  unfold dropL
  cases l with
  | nil => simp [rmZ]
  | cons x r =>
    have := rm_len r t
    simp
    omega
theorem hold_in {l : List Int} (h : l ≠ []) : inZ l (hold l) = true := by
  cases l with
  | nil => exact absurd rfl h
  | cons x r => exact inZ_true.2 (by simp [hold, gz])
theorem hold_nil : hold [] = 0 := rfl
theorem hold_pos {l : List Int} (h : Okz l) (hn : l ≠ []) : 1 ≤ hold l := h.pos _ (inZ_true.1 (hold_in hn))
/-- Whoever is in a row holds it or waits. -/
theorem in_split (l : List Int) (t : Int) : inZ l t = true ↔ (l ≠ [] ∧ hold l = t) ∨ inZ l.tail t = true := by
  cases l with
  | nil => simp [inZ]
  | cons x r => simp [inZ, hold, gz]
/-- Whoever holds it does not wait. -/
theorem hold_out {l : List Int} (h : Okz l) : inZ l.tail (hold l) = false := by
  cases l with
  | nil => simp [inZ]
  | cons x r => exact inZ_false.2 (List.nodup_cons.1 h.nd).1

theorem drop_no {l : List Int} {t : Int} (h : inZ l.tail t = false) : dropL l t = l := by
  unfold dropL
  rw [rm_none h]
  cases l <;> rfl
theorem drop_tail {l : List Int} {t : Int} (h : inZ l.tail t = true) : (dropL l t).tail = rmZ l.tail t ∧ hold (dropL l t) = hold l := by
  cases l with
  | nil => simp [inZ] at h
  | cons x r => exact ⟨rfl, rfl⟩

theorem not_hold {l : List Int} {t : Int} (h : inZ l t = false) (h1 : ¬ t < 1) : ¬ t = hold l := by
  intro e
  by_cases hn : l = []
  · subst hn; rw [hold_nil] at e; omega
  · have := hold_in hn
    rw [← e, h] at this
    cases this
theorem not_tail {l : List Int} {t : Int} (h : inZ l t = false) : inZ l.tail t = false := by
  cases hb : inZ l.tail t
  · rfl
  · have := (in_split l t).2 (Or.inr hb)
    rw [h] at this
    cases this


end Go.Proofs.Ytinipmandmhgnaa
