/-
  A count, and who waits till it is 0, as plain data: a number and a row of numbers.
-/
import Derived.Lib.Slices
namespace Go.Proofs.Ytgfkleaekaggoaa

def gz (l : List Int) (k : Nat) : Int := l.getD k 0
def inZ (l : List Int) (t : Int) : Bool := l.any fun x => decide (x = t)
def rmZ (l : List Int) (t : Int) : List Int := l.filter fun x => !decide (x = t)
def idxZ (l : List Int) (t : Int) : Int := Go.Lib.idxOf l t

theorem inZ_true {l : List Int} {t : Int} : inZ l t = true ↔ t ∈ l := by simp [inZ]
theorem inZ_false {l : List Int} {t : Int} : inZ l t = false ↔ t ∉ l := by
  rw [← inZ_true]; cases inZ l t <;> simp
theorem mem_rm {l : List Int} {t x : Int} : x ∈ rmZ l t ↔ x ∈ l ∧ x ≠ t := by simp [rmZ]
theorem rm_none {l : List Int} {t : Int} (h : inZ l t = false) : rmZ l t = l := by
  unfold rmZ
  rw [List.filter_eq_self]
  intro x hx
  have := inZ_false.1 h
  simpa using fun e : x = t => this (e ▸ hx)
theorem rm_nodup {l : List Int} (h : l.Nodup) (t : Int) : (rmZ l t).Nodup := h.filter _
theorem rm_len (l : List Int) (t : Int) : (rmZ l t).length ≤ l.length := List.length_filter_le _ _
theorem in_rm (l : List Int) (t : Int) : inZ (rmZ l t) t = false := inZ_false.2 fun h => (mem_rm.1 h).2 rfl
theorem gz_mem {l : List Int} {k : Nat} (h : k < l.length) : gz l k ∈ l := by
  rw [gz, List.getD_eq_getElem?_getD, List.getElem?_eq_getElem h]
  exact List.getElem_mem h
theorem gz_zero (x : Int) (l : List Int) : gz (x :: l) 0 = x := rfl
theorem gz_succ (x : Int) (l : List Int) (k : Nat) : gz (x :: l) (k + 1) = gz l k := rfl
theorem gz_tail (l : List Int) (k : Nat) : gz l.tail k = gz l (k + 1) := by cases l <;> simp [gz]

/-- Where a number is first in a row it is taken out of there. -/
theorem rm_erase : ∀ {l : List Int} {t : Int} {k : Nat}, l.Nodup → k < l.length → gz l k = t → rmZ l t = l.eraseIdx k
  | [], _, _, _, h, _ => by simp at h
  | x :: l, t, 0, hn, _, e => by
    have e' : x = t := by simpa [gz] using e
    have h : inZ l t = false := inZ_false.2 fun hm => (List.nodup_cons.1 hn).1 (e' ▸ hm)
    show (x :: l).filter _ = _
    rw [List.filter_cons_of_neg (by simp [e'])]
    exact rm_none h
  | x :: l, t, k + 1, hn, hk, e => by
    have hk' : k < l.length := by simpa using hk
    have e' : gz l k = t := by simpa [gz] using e
    have hx : x ≠ t := fun h => (List.nodup_cons.1 hn).1 (h ▸ e' ▸ gz_mem hk')
    show (x :: l).filter _ = _
    rw [List.filter_cons_of_pos (by simp [hx]), List.eraseIdx_cons_succ]
    exact congrArg (x :: ·) (rm_erase (List.nodup_cons.1 hn).2 hk' e')
/-- One that is in a row is first at some place. -/
theorem in_at {l : List Int} {t : Int} (h : inZ l t = true) : ∃ k, k < l.length ∧ gz l k = t ∧ ∀ m, m < k → gz l m ≠ t := by
  induction l with
  | nil => simp [inZ] at h
  | cons x l ih =>
    by_cases hx : x = t
    · exact ⟨0, by simp, by simpa [gz] using hx, fun m hm => by omega⟩
    · have h' : inZ l t = true := by
        rcases List.mem_cons.1 (inZ_true.1 h) with h1 | h1
        · exact absurd h1.symm hx
        · exact inZ_true.2 h1
      obtain ⟨k, h1, h2, h3⟩ := ih h'
      refine ⟨k + 1, by simpa using h1, by simpa [gz] using h2, fun m hm => ?_⟩
      match m with
      | 0 => simpa [gz] using hx
      | m + 1 => simpa [gz] using h3 m (by omega)
theorem out_at {l : List Int} {t : Int} (h : inZ l t = false) : ∀ m, m < l.length → gz l m ≠ t := fun _ hm e => inZ_false.1 h (e ▸ gz_mem hm)

theorem idx_out {l : List Int} {t : Int} (h : inZ l t = false) : idxZ l t = -1 := by
  have := Go.Lib.idxOf_miss l l.length t (fun j hj => out_at h j hj)
  rwa [List.take_of_length_le (Nat.le_refl _)] at this
theorem idx_at {l : List Int} {t : Int} {k : Nat} (h1 : k < l.length) (h2 : gz l k = t) (h3 : ∀ m, m < k → gz l m ≠ t) : idxZ l t = (k : Int) := by
  have := Go.Lib.idxOf_hit l l.length k t h1 (Nat.le_refl _) h2 h3
  rwa [List.take_of_length_le (Nat.le_refl _)] at this
theorem idx_in {l : List Int} {t : Int} (h : inZ l t = true) : ∃ k : Nat, k < l.length ∧ idxZ l t = (k : Int) ∧ gz l k = t := by
  obtain ⟨k, h1, h2, h3⟩ := in_at h
  exact ⟨k, h1, idx_at h1 h2 h3, h2⟩
theorem one_at {l : List Int} (h : l.Nodup) {j k : Nat} (hj : j < l.length) (hk : k < l.length) (e : gz l j = gz l k) : j = k := by
  have e1 : l[j] = l[k] := by simpa [gz, List.getD_eq_getElem?_getD, hj, hk] using e
  exact (List.getElem_inj h).1 e1

/-- What a row is: each once, and each a task. -/
structure Okz (l : List Int) : Prop where
  nd : l.Nodup
  pos : ∀ x ∈ l, 1 ≤ x
theorem Okz.nil : Okz [] := ⟨List.nodup_nil, fun _ h => by cases h⟩

/-- Add: what it answers, the count behind it, who is told, who waits behind it, and what went out. -/
def addE (c n : Int) : Int := if c + n < 0 then 11 else if 1048576 < c + n then 13 else 0
def addC (c n : Int) : Int := if c + n < 0 then c else if 1048576 < c + n then c else c + n
def addW (c n : Int) (l : List Int) : List Int := if c + n = 0 then l else []
def addL (c n : Int) (l : List Int) : List Int := if c + n = 0 then [] else l
def addO (c o n : Int) : Int := if c + n < 0 then o else if 1048576 < c + n then o else if 0 < n then o else o - n
def waitE (c : Int) (l : List Int) (t : Int) : Int := if t < 1 then 1 else if inZ l t = true then 11 else if c = 0 then 0 else 14
def waitL (c : Int) (l : List Int) (t : Int) : List Int := if t < 1 then l else if inZ l t = true then l else if c = 0 then l else l ++ [t]

theorem Okz.snoc {l : List Int} (h : Okz l) {t : Int} (ht : ¬ t < 1) (hn : inZ l t = false) : Okz (l ++ [t]) := by
  refine ⟨?_, fun x hx => ?_⟩
  · rw [List.nodup_append]
    refine ⟨h.nd, by simp, fun a ha b hb e => ?_⟩
    simp at hb
    subst hb
    subst e
    exact inZ_false.1 hn ha
  · rcases List.mem_append.1 hx with q | q
    · exact h.pos x q
    · simp at q; omega
theorem Okz.rm {l : List Int} (h : Okz l) (t : Int) : Okz (rmZ l t) := ⟨rm_nodup h.nd t, fun x hx => h.pos x (mem_rm.1 hx).1⟩
theorem add_low {c n : Int} {l : List Int} (h : c + n < 0) : addE c n = 11 ∧ addC c n = c ∧ addW c n l = [] ∧ addL c n l = l ∧ ∀ o, addO c o n = o :=
  ⟨if_pos h, if_pos h, if_neg (by omega), if_neg (by omega), fun _ => if_pos h⟩
theorem add_over {c n : Int} {l : List Int} (h : 1048576 < c + n) : addE c n = 13 ∧ addC c n = c ∧ addW c n l = [] ∧ addL c n l = l ∧ ∀ o, addO c o n = o := by
  have h0 : ¬ c + n < 0 := by omega
  exact ⟨(if_neg h0).trans (if_pos h), (if_neg h0).trans (if_pos h), if_neg (by omega), if_neg (by omega), fun _ => (if_neg h0).trans (if_pos h)⟩
theorem add_fit {c n : Int} (h : 0 ≤ c + n) (h2 : c + n ≤ 1048576) : addE c n = 0 ∧ addC c n = c + n ∧ ∀ o, addO c o n = if 0 < n then o else o - n := by
  have h0 : ¬ c + n < 0 := by omega
  have h1 : ¬ 1048576 < c + n := by omega
  exact ⟨(if_neg h0).trans (if_neg h1), (if_neg h0).trans (if_neg h1), fun _ => (if_neg h0).trans (if_neg h1)⟩
theorem add_zero {c n : Int} {l : List Int} (h : c + n = 0) : addW c n l = l ∧ addL c n l = [] := ⟨if_pos h, if_pos h⟩
theorem add_some {c n : Int} {l : List Int} (h : ¬ c + n = 0) : addW c n l = [] ∧ addL c n l = l := ⟨if_neg h, if_neg h⟩
theorem wait_low {c : Int} {l : List Int} {t : Int} (h1 : t < 1) : waitE c l t = 1 ∧ waitL c l t = l := ⟨if_pos h1, if_pos h1⟩
theorem wait_in {c : Int} {l : List Int} {t : Int} (h1 : ¬ t < 1) (h2 : inZ l t = true) : waitE c l t = 11 ∧ waitL c l t = l :=
  ⟨(if_neg h1).trans (if_pos h2), (if_neg h1).trans (if_pos h2)⟩
theorem wait_zero {c : Int} {l : List Int} {t : Int} (h1 : ¬ t < 1) (h2 : inZ l t = false) (h3 : c = 0) : waitE c l t = 0 ∧ waitL c l t = l := by
  have h2' : ¬ inZ l t = true := by rw [h2]; simp
  exact ⟨(if_neg h1).trans ((if_neg h2').trans (if_pos h3)), (if_neg h1).trans ((if_neg h2').trans (if_pos h3))⟩
theorem wait_new {c : Int} {l : List Int} {t : Int} (h1 : ¬ t < 1) (h2 : inZ l t = false) (h3 : ¬ c = 0) : waitE c l t = 14 ∧ waitL c l t = l ++ [t] := by
  have h2' : ¬ inZ l t = true := by rw [h2]; simp
  exact ⟨(if_neg h1).trans ((if_neg h2').trans (if_neg h3)), (if_neg h1).trans ((if_neg h2').trans (if_neg h3))⟩
/-- What a count is: in its bounds, and nobody waits while it is 0. -/
structure Okc (c : Int) (l : List Int) : Prop where
  lo : 0 ≤ c
  hi : c ≤ 1048576
  row : Okz l
  none : c = 0 → l = []
theorem Okc.start : Okc 0 [] := ⟨Int.le_refl _, by decide, Okz.nil, fun _ => rfl⟩
theorem Okc.add {c : Int} {l : List Int} (h : Okc c l) (n : Int) : Okc (addC c n) (addL c n l) := by
  have h1 := h.lo
  have h2 := h.hi
  by_cases q1 : c + n < 0
  · obtain ⟨_, e2, _, e4, _⟩ := add_low (l := l) q1
    rw [e2, e4]; exact h
  by_cases q2 : 1048576 < c + n
  · obtain ⟨_, e2, _, e4, _⟩ := add_over (l := l) q2
    rw [e2, e4]; exact h
  · obtain ⟨_, e2, _⟩ := add_fit (c := c) (n := n) (by omega) (by omega)
    rw [e2]
    by_cases q3 : c + n = 0
    · rw [(add_zero (l := l) q3).2, q3]; exact Okc.start
    · rw [(add_some (l := l) q3).2]; exact ⟨by omega, by omega, h.row, fun e => absurd e q3⟩
theorem Okc.wait {c : Int} {l : List Int} (h : Okc c l) (t : Int) : Okc c (waitL c l t) := by
  by_cases h1 : t < 1
  · rw [(wait_low h1).2]; exact h
  cases h2 : inZ l t
  · by_cases h3 : c = 0
    · rw [(wait_zero h1 h2 h3).2]; exact h
    · rw [(wait_new h1 h2 h3).2]; exact ⟨h.lo, h.hi, h.row.snoc h1 h2, fun e => absurd e h3⟩
  · rw [(wait_in h1 h2).2]; exact h
theorem Okc.rm {c : Int} {l : List Int} (h : Okc c l) (t : Int) : Okc c (rmZ l t) := ⟨h.lo, h.hi, h.row.rm t, fun e => by rw [h.none e]; rfl⟩
theorem wait_len (c : Int) (l : List Int) (t : Int) : (waitL c l t).length ≤ l.length + 1 := by
  unfold waitL
  split
  · omega
  split
  · omega
  split <;> simp
theorem addW_len (c n : Int) (l : List Int) : (addW c n l).length ≤ l.length := by
  unfold addW
  split <;> simp
theorem addL_len (c n : Int) (l : List Int) : (addL c n l).length ≤ l.length := by
  unfold addL
  split <;> simp
/-- What went out grows by no more than a count can be. -/
theorem addO_le {c n : Int} (o : Int) (h1 : 0 ≤ c) (h2 : c ≤ 1048576) : o ≤ addO c o n ∧ addO c o n ≤ o + 1048576 := by
  unfold addO
  split
  · omega
  split
  · omega
  split <;> omega

end Go.Proofs.Ytgfkleaekaggoaa
