/-
  Who waits, as plain data: a row of numbers; and the document's: all that ever waited, and whether each of them still does.
-/
import Derived.Lib.Slices
namespace Go.Proofs.Ytinfmchbcipbjaa

def gz (l : List Int) (k : Nat) : Int := l.getD k 0
def inZ (l : List Int) (t : Int) : Bool := l.any fun x => decide (x = t)
def rmZ (l : List Int) (t : Int) : List Int := l.filter fun x => !decide (x = t)
def idxZ (l : List Int) (t : Int) : Int := Go.Lib.idxOf l t
def hold (l : List Int) : Int := gz l 0

theorem inZ_true {l : List Int} {t : Int} : inZ l t = true ↔ t ∈ l := by simp [inZ]
theorem inZ_false {l : List Int} {t : Int} : inZ l t = false ↔ t ∉ l := by
  rw [← inZ_true]; cases inZ l t <;> simp
theorem mem_rm {l : List Int} {t x : Int} : x ∈ rmZ l t ↔ x ∈ l ∧ x ≠ t := by simp [rmZ]
theorem rm_none {l : List Int} {t : Int} (h : inZ l t = false) : rmZ l t = l := by
  unfold rmZ
  rw [List.filter_eq_self]
  intro x hx
  have := inZ_false.1 h
  simpa using fun e : x = t => this (e ▸ hx)
theorem rm_nodup {l : List Int} (h : l.Nodup) (t : Int) : (rmZ l t).Nodup := h.filter _
theorem rm_len (l : List Int) (t : Int) : (rmZ l t).length ≤ l.length := List.length_filter_le _ _
theorem in_rm (l : List Int) (t : Int) : inZ (rmZ l t) t = false := inZ_false.2 fun h => (mem_rm.1 h).2 rfl
theorem gz_mem {l : List Int} {k : Nat} (h : k < l.length) : gz l k ∈ l := by
  rw [gz, List.getD_eq_getElem?_getD, List.getElem?_eq_getElem h]
  exact List.getElem_mem h
theorem gz_zero (x : Int) (l : List Int) : gz (x :: l) 0 = x := rfl
theorem gz_succ (x : Int) (l : List Int) (k : Nat) : gz (x :: l) (k + 1) = gz l k := rfl
theorem gz_tail (l : List Int) (k : Nat) : gz l.tail k = gz l (k + 1) := by cases l <;> simp [gz]

/-- Where a number is first in a row it is taken out of there. -/
theorem rm_erase : ∀ {l : List Int} {t : Int} {k : Nat}, l.Nodup → k < l.length → gz l k = t → rmZ l t = l.eraseIdx k
  | [], _, _, _, h, _ => by simp at h
  | x :: l, t, 0, hn, _, e => by
    have e' : x = t := by simpa [gz] using e
    have h : inZ l t = false := inZ_false.2 fun hm => (List.nodup_cons.1 hn).1 (e' ▸ hm)
    show (x :: l).filter _ = _
    rw [List.filter_cons_of_neg (by simp [e'])]
    exact rm_none h
  | x :: l, t, k + 1, hn, hk, e => by
    have hk' : k < l.length := by simpa using hk
    have e' : gz l k = t := by simpa [gz] using e
    have hx : x ≠ t := fun h => (List.nodup_cons.1 hn).1 (h ▸ e' ▸ gz_mem hk')
    show (x :: l).filter _ = _
    rw [List.filter_cons_of_pos (by simp [hx]), List.eraseIdx_cons_succ]
    exact congrArg (x :: ·) (rm_erase (List.nodup_cons.1 hn).2 hk' e')
/-- One that is in a row is first at some place. -/
theorem in_at {l : List Int} {t : Int} (h : inZ l t = true) : ∃ k, k < l.length ∧ gz l k = t ∧ ∀ m, m < k → gz l m ≠ t := by
  induction l with
  | nil => simp [inZ] at h
  | cons x l ih =>
    by_cases hx : x = t
    · exact ⟨0, by simp, by simpa [gz] using hx, fun m hm => by omega⟩
    · have h' : inZ l t = true := by
        rcases List.mem_cons.1 (inZ_true.1 h) with h1 | h1
        · exact absurd h1.symm hx
        · exact inZ_true.2 h1
      obtain ⟨k, h1, h2, h3⟩ := ih h'
      refine ⟨k + 1, by simpa using h1, by simpa [gz] using h2, fun m hm => ?_⟩
      match m with
      | 0 => simpa [gz] using hx
      | m + 1 => simpa [gz] using h3 m (by omega)
theorem out_at {l : List Int} {t : Int} (h : inZ l t = false) : ∀ m, m < l.length → gz l m ≠ t := fun _ hm e => inZ_false.1 h (e ▸ gz_mem hm)

theorem idx_out {l : List Int} {t : Int} (h : inZ l t = false) : idxZ l t = -1 := by
  have := Go.Lib.idxOf_miss l l.length t (fun j hj => out_at h j hj)
  rwa [List.take_of_length_le (Nat.le_refl _)] at this
theorem idx_at {l : List Int} {t : Int} {k : Nat} (h1 : k < l.length) (h2 : gz l k = t) (h3 : ∀ m, m < k → gz l m ≠ t) : idxZ l t = (k : Int) := by
  have := Go.Lib.idxOf_hit l l.length k t h1 (Nat.le_refl _) h2 h3
  rwa [List.take_of_length_le (Nat.le_refl _)] at this
theorem idx_in {l : List Int} {t : Int} (h : inZ l t = true) : ∃ k : Nat, k < l.length ∧ idxZ l t = (k : Int) ∧ gz l k = t := by
  obtain ⟨k, h1, h2, h3⟩ := in_at h
  exact ⟨k, h1, idx_at h1 h2 h3, h2⟩
theorem one_at {l : List Int} (h : l.Nodup) {j k : Nat} (hj : j < l.length) (hk : k < l.length) (e : gz l j = gz l k) : j = k := by
  have e1 : l[j] = l[k] := by simpa [gz, List.getD_eq_getElem?_getD, hj, hk] using e
  exact (List.getElem_inj h).1 e1

/-- What a row is: each once, and each a task. -/
structure Okz (l : List Int) : Prop where
  nd : l.Nodup
  pos : ∀ x ∈ l, 1 ≤ x
theorem Okz.nil : Okz [] := ⟨List.nodup_nil, fun _ h => by cases h⟩

theorem Okz.tail {l : List Int} (h : Okz l) : Okz l.tail := ⟨h.nd.sublist (List.tail_sublist l), fun x hx => h.pos x (List.mem_of_mem_tail hx)⟩
theorem Okz.snoc {l : List Int} (h : Okz l) {t : Int} (ht : ¬ t < 1) (hn : inZ l t = false) : Okz (l ++ [t]) := by
  refine ⟨?_, fun x hx => ?_⟩
  · rw [List.nodup_append]
    refine ⟨h.nd, by simp, fun a ha b hb e => ?_⟩
    simp at hb
    subst hb
    subst e
    exact inZ_false.1 hn ha
  · rcases List.mem_append.1 hx with q | q
    · exact h.pos x q
    · simp at q; omega
theorem Okz.rm {l : List Int} (h : Okz l) (t : Int) : Okz (rmZ l t) := ⟨rm_nodup h.nd t, fun x hx => h.pos x (mem_rm.1 hx).1⟩
theorem hold_in {l : List Int} (h : l ≠ []) : inZ l (hold l) = true := by
  cases l with
  | nil => exact absurd rfl h
  | cons x r => exact inZ_true.2 (by simp [hold, gz])
theorem hold_nil : hold [] = 0 := rfl
theorem hold_pos {l : List Int} (h : Okz l) (hn : l ≠ []) : 1 ≤ hold l := h.pos _ (inZ_true.1 (hold_in hn))
/-- The first one is taken out. -/
theorem rm_hold {l : List Int} (h : Okz l) : rmZ l (hold l) = l.tail := by
  cases l with
  | nil => rfl
  | cons x r =>
    show (x :: r).filter _ = r
    rw [List.filter_cons_of_neg (by simp [hold, gz])]
    exact rm_none (inZ_false.2 (List.nodup_cons.1 h.nd).1)

def waitE (l : List Int) (t : Int) : Int := if t < 1 then 1 else if inZ l t = true then 11 else 14
def waitL (l : List Int) (t : Int) : List Int := if t < 1 then l else if inZ l t = true then l else l ++ [t]
def some1 (l : List Int) : Bool := match l with
  | [] => false
  | _ :: _ => true
theorem Okz.wait {l : List Int} (h : Okz l) (t : Int) : Okz (waitL l t) := by
  unfold waitL
  split
  · exact h
  split
  · exact h
  · rename_i h1 h2
    exact h.snoc h1 (by simpa using h2)
theorem wait_len (l : List Int) (t : Int) : (waitL l t).length ≤ l.length + 1 := by
  unfold waitL
  split
  · omega
  split <;> simp
theorem wait_low {l : List Int} {t : Int} (h : t < 1) : waitE l t = 1 ∧ waitL l t = l := ⟨if_pos h, if_pos h⟩
theorem wait_in {l : List Int} {t : Int} (h : ¬ t < 1) (hb : inZ l t = true) : waitE l t = 11 ∧ waitL l t = l := ⟨(if_neg h).trans (if_pos hb), (if_neg h).trans (if_pos hb)⟩
theorem wait_out {l : List Int} {t : Int} (h : ¬ t < 1) (hb : inZ l t = false) : waitE l t = 14 ∧ waitL l t = l ++ [t] := by
  unfold waitE waitL
  rw [if_neg h, if_neg h, hb]
  exact ⟨rfl, rfl⟩

/-- The document's: each that ever waited, and whether it still does. -/
abbrev Q := List (Int × Bool)
def ids (q : Q) : List Int := q.map (·.1)
def hs (q : Q) : List Bool := q.map (·.2)
def wts (q : Q) : List Int := (q.filter (·.2)).map (·.1)
def qa (q : Q) (k : Nat) : Int := (q.getD k (0, false)).1
def qb (q : Q) (k : Nat) : Bool := (q.getD k (0, false)).2
def offQ (q : Q) (t : Int) : Q := q.map fun x => (x.1, x.2 && !decide (x.1 = t))
/-- Whoever waits does so by its last entry. -/
def Inv (q : Q) : Prop := q.Pairwise fun x y => x.2 = true → y.1 ≠ x.1
structure Rep (l : List Int) (q : Q) : Prop where
  inv : Inv q
  wts : wts q = l
theorem Rep.nil : Rep [] [] := ⟨List.Pairwise.nil, rfl⟩
theorem as_len (q : Q) : (ids q).length = q.length := by simp [ids]
theorem hs_len (q : Q) : (hs q).length = q.length := by simp [hs]
theorem off_len (q : Q) (t : Int) : (offQ q t).length = q.length := by simp [offQ]
theorem as_gz (q : Q) (k : Nat) : gz (ids q) k = qa q k := by
  unfold gz ids qa
  rw [List.getD_eq_getElem?_getD, List.getD_eq_getElem?_getD, List.getElem?_map]
  cases q[k]? <;> rfl
theorem q_at {q : Q} {k : Nat} (h : k < q.length) : q[k]? = some (qa q k, qb q k) := by
  rw [qa, qb, List.getD_eq_getElem?_getD, List.getElem?_eq_getElem h]
  rfl
theorem wts_len (q : Q) : (wts q).length ≤ q.length := by
  unfold wts
  rw [List.length_map]
  exact List.length_filter_le _ _
theorem wts_snoc (q : Q) (t : Int) (b : Bool) : wts (q ++ [(t, b)]) = if b = true then wts q ++ [t] else wts q := by
  unfold wts
  cases b <;> simp
theorem in_wts {q : Q} {t : Int} : t ∈ wts q ↔ (t, true) ∈ q := by
  unfold wts
  simp only [List.mem_map, List.mem_filter]
  constructor
  · rintro ⟨⟨a, b⟩, ⟨h1, h2⟩, h3⟩
    simp only at h2 h3
    subst h2; subst h3
    exact h1
  · exact fun h => ⟨(t, true), ⟨h, rfl⟩, rfl⟩
theorem wts_off (q : Q) (t : Int) : wts (offQ q t) = rmZ (wts q) t := by
  induction q with
  | nil => rfl
  | cons x q ih =>
    obtain ⟨a, b⟩ := x
    unfold wts offQ rmZ at ih ⊢
    by_cases h : a = t
    · cases b <;> simp [h] <;> simpa using ih
    · cases b <;> simp [h] <;> simpa using ih
theorem Inv.off {q : Q} (h : Inv q) (t : Int) : Inv (offQ q t) := by
  unfold Inv offQ at *
  rw [List.pairwise_map]
  exact h.imp fun {x y} k e => k (by simp at e; exact e.1)
theorem Inv.snoc {q : Q} (h : Inv q) {t : Int} (hn : inZ (wts q) t = false) : Inv (q ++ [(t, true)]) := by
  unfold Inv at *
  rw [List.pairwise_append]
  refine ⟨h, List.pairwise_singleton _ _, fun x hx y hy e => ?_⟩
  simp at hy
  subst hy
  intro e2
  obtain ⟨a, b⟩ := x
  simp only at e e2
  subst e; subst e2
  exact inZ_false.1 hn (in_wts.2 hx)
theorem Inv.at {q : Q} (h : Inv q) {i j : Nat} (hij : i < j) (hj : j < q.length) (hb : qb q i = true) : qa q j ≠ qa q i := by
  have hi : i < q.length := by omega
  have := List.pairwise_iff_getElem.1 h i j hi hj hij
  have e1 := q_at hi
  have e2 := q_at hj
  rw [List.getElem?_eq_getElem hi] at e1
  rw [List.getElem?_eq_getElem hj] at e2
  rw [Option.some.inj e1, Option.some.inj e2] at this
  exact this hb
theorem Rep.off {l : List Int} {q : Q} (h : Rep l q) (t : Int) : Rep (rmZ l t) (offQ q t) := ⟨h.inv.off t, by rw [wts_off, h.wts]⟩
theorem Rep.snoc {l : List Int} {q : Q} (h : Rep l q) {t : Int} (hn : inZ l t = false) : Rep (l ++ [t]) (q ++ [(t, true)]) := ⟨h.inv.snoc (by rw [h.wts]; exact hn), by rw [wts_snoc, if_pos rfl, h.wts]⟩
/-- One that waits is found, where its entry is. -/
theorem off_at {q : Q} {t : Int} {i : Nat} (h : Inv q) (hi : i < q.length) (ha : qa q i = t) (hb : qb q i = true) (hn : ∀ j, j < i → ¬ (qb q j = true ∧ qa q j = t)) : offQ q t = q.set i (t, false) := by
  apply List.ext_getElem?
  intro j
  unfold offQ
  rw [List.getElem?_map, List.getElem?_set]
  by_cases hj : j < q.length
  · rw [q_at hj]
    by_cases e : i = j
    · subst e
      rw [if_pos rfl, if_pos hi]
      simp [ha]
    · rw [if_neg e]
      simp only [Option.map_some, Option.some.injEq, Prod.mk.injEq, true_and]
      by_cases e2 : qa q j = t
      · have : qb q j = false := by
          rcases Nat.lt_or_gt_of_ne e with k | k
          · exact absurd (e2.trans ha.symm) (h.at k hj hb)
          · cases hq : qb q j
            · rfl
            · exact absurd ⟨hq, e2⟩ (hn j k)
        rw [this]; rfl
      · simp [e2]
  · rw [List.getElem?_eq_none (by omega)]
    by_cases e : i = j
    · omega
    · rw [if_neg e]; rfl
theorem off_in {q : Q} {t : Int} {i : Nat} (hi : i < q.length) (ha : qa q i = t) (hb : qb q i = true) : inZ (wts q) t = true := inZ_true.2 (in_wts.2 (by
  have := q_at hi
  rw [ha, hb] at this
  exact List.mem_of_getElem? this))
theorem off_out {q : Q} {t : Int} (hn : ∀ j, j < q.length → ¬ (qb q j = true ∧ qa q j = t)) : inZ (wts q) t = false := inZ_false.2 fun h => by
  obtain ⟨j, hj, e⟩ := List.getElem_of_mem (in_wts.1 h)
  have e1 := q_at hj
  rw [List.getElem?_eq_getElem hj, e] at e1
  have e2 := Option.some.inj e1
  injection e2 with a b
  exact hn j hj ⟨b.symm, a.symm⟩
theorem off_none {q : Q} {t : Int} (h : inZ (wts q) t = false) : offQ q t = q := by
  unfold offQ
  conv => rhs; rw [← List.map_id q]
  refine List.map_congr_left fun x hx => ?_
  obtain ⟨a, b⟩ := x
  by_cases e : a = t
  · subst e
    cases b
    · rfl
    · exact absurd (in_wts.2 hx) (inZ_false.1 h)
  · simp [e]
theorem off_qa (q : Q) (t : Int) (k : Nat) : qa (offQ q t) k = qa q k := by
  unfold qa offQ
  rw [List.getD_eq_getElem?_getD, List.getD_eq_getElem?_getD, List.getElem?_map]
  cases q[k]? <;> rfl
/-- .. and put back, at the last entry of its. -/
theorem back_at {q : Q} {t : Int} {j : Nat} (h : Inv q) (hb : inZ (wts q) t = true) (hj : j < q.length) (ha : qa q j = t) (hn : ∀ k, j < k → k < q.length → qa q k ≠ t) : (offQ q t).set j (t, true) = q := by
  obtain ⟨i, hi, e⟩ := List.getElem_of_mem (in_wts.1 (inZ_true.1 hb))
  have e1 := q_at hi
  rw [List.getElem?_eq_getElem hi, e] at e1
  have e2 := Option.some.inj e1
  injection e2 with a1 b1
  have hij : i = j := by
    rcases Nat.lt_trichotomy i j with k | k | k
    · exact absurd (ha.trans a1) (h.at k hj b1.symm)
    · exact k
    · exact absurd a1.symm (hn i k hi)
  subst hij
  apply List.ext_getElem?
  intro k
  rw [List.getElem?_set]
  by_cases e3 : i = k
  · subst e3
    rw [if_pos rfl, if_pos (by rw [off_len]; exact hj), q_at hj, ← a1, ← b1]
  · rw [if_neg e3]
    unfold offQ
    rw [List.getElem?_map]
    by_cases hk : k < q.length
    · rw [q_at hk]
      simp only [Option.map_some, Option.some.injEq, Prod.mk.injEq, true_and]
      by_cases e4 : qa q k = t
      · have : qb q k = false := by
          cases hq : qb q k
          · rfl
          · rcases Nat.lt_or_gt_of_ne e3 with m | m
            · exact absurd e4 (hn k m hk)
            · exact absurd (ha.trans e4.symm) (h.at m hj hq)
        rw [this]; rfl
      · simp [e4]
    · rw [List.getElem?_eq_none (by omega)]; rfl
/-- One that is in a row has a last place in it. -/
theorem last_at {q : Q} {t : Int} (h : inZ (wts q) t = true) : ∃ j, j < q.length ∧ qa q j = t ∧ ∀ k, j < k → k < q.length → qa q k ≠ t := by
  have hm : ∃ j, j < q.length ∧ qa q j = t := by
    obtain ⟨i, hi, e⟩ := List.getElem_of_mem (in_wts.1 (inZ_true.1 h))
    have e1 := q_at hi
    rw [List.getElem?_eq_getElem hi, e] at e1
    have e2 := Option.some.inj e1
    injection e2 with a1 b1
    exact ⟨i, hi, a1.symm⟩
  have key : ∀ n, n ≤ q.length → (∀ k, n ≤ k → k < q.length → qa q k ≠ t) → ∃ j, j < q.length ∧ qa q j = t ∧ ∀ k, j < k → k < q.length → qa q k ≠ t := by
    intro n
    induction n with
    | zero =>
      intro _ hn
      obtain ⟨j, h1, h2⟩ := hm
      exact absurd h2 (hn j (Nat.zero_le _) h1)
    | succ n ih =>
      intro hle hn
      by_cases e : qa q n = t
      · exact ⟨n, by omega, e, fun k hk => hn k hk⟩
      · refine ih (by omega) fun k hk hk2 => ?_
        by_cases e2 : k = n
        · rw [e2]; exact e
        · exact hn k (by omega) hk2
  exact key q.length (Nat.le_refl _) (fun k h1 h2 => by omega)
theorem set_len (q : Q) (i : Nat) (x : Int × Bool) : (q.set i x).length = q.length := by simp
theorem set_as {q : Q} {i : Nat} {t : Int} {b : Bool} (hi : i < q.length) (ha : qa q i = t) : ids (q.set i (t, b)) = ids q := by
  unfold ids
  rw [List.map_set]
  apply List.ext_getElem?
  intro j
  rw [List.getElem?_set]
  by_cases e : i = j
  · subst e
    rw [if_pos rfl, if_pos (by simpa using hi), List.getElem?_map, q_at hi]
    simp [ha]
  · rw [if_neg e]
theorem set_hs (q : Q) (i : Nat) (t : Int) (b : Bool) : hs (q.set i (t, b)) = (hs q).set i b := by unfold hs; rw [List.map_set]

end Go.Proofs.Ytinfmchbcipbjaa
