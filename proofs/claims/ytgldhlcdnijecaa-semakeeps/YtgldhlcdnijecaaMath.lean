/-
  Units of which some are free, and who waits for how many, as plain data: what each call answers, and what it leaves.
-/
import Derived.Lib.Slices
namespace Go.Proofs.Ytgldhlcdnijecaa

def gz (l : List Int) (k : Nat) : Int := l.getD k 0
def inZ (l : List Int) (t : Int) : Bool := l.any fun x => decide (x = t)
def rmZ (l : List Int) (t : Int) : List Int := l.filter fun x => !decide (x = t)
def idxZ (l : List Int) (t : Int) : Int := Go.Lib.idxOf l t

theorem inZ_true {l : List Int} {t : Int} : inZ l t = true ↔ t ∈ l := by simp [inZ]
theorem inZ_false {l : List Int} {t : Int} : inZ l t = false ↔ t ∉ l := by
  rw [← inZ_true]; cases inZ l t <;> simp
theorem mem_rm {l : List Int} {t x : Int} : x ∈ rmZ l t ↔ x ∈ l ∧ x ≠ t := by simp [rmZ]
theorem rm_none {l : List Int} {t : Int} (h : inZ l t = false) : rmZ l t = l := by
  unfold rmZ
  rw [List.filter_eq_self]
  intro x hx
  have := inZ_false.1 h
  simpa using fun e : x = t => this (e ▸ hx)
theorem rm_nodup {l : List Int} (h : l.Nodup) (t : Int) : (rmZ l t).Nodup := h.filter _
theorem rm_len (l : List Int) (t : Int) : (rmZ l t).length ≤ l.length := List.length_filter_le _ _
theorem in_rm (l : List Int) (t : Int) : inZ (rmZ l t) t = false := inZ_false.2 fun h => (mem_rm.1 h).2 rfl
theorem gz_mem {l : List Int} {k : Nat} (h : k < l.length) : gz l k ∈ l := by
  rw [gz, List.getD_eq_getElem?_getD, List.getElem?_eq_getElem h]
  exact List.getElem_mem h
theorem gz_zero (x : Int) (l : List Int) : gz (x :: l) 0 = x := rfl
theorem gz_succ (x : Int) (l : List Int) (k : Nat) : gz (x :: l) (k + 1) = gz l k := rfl

/-- Where a number is first in a row it is taken out of there. -/
theorem rm_erase : ∀ {l : List Int} {t : Int} {k : Nat}, l.Nodup → k < l.length → gz l k = t → rmZ l t = l.eraseIdx k
  | [], _, _, _, h, _ => by simp at h
  | x :: l, t, 0, hn, _, e => by
    have e' : x = t := by simpa [gz] using e
    have h : inZ l t = false := inZ_false.2 fun hm => (List.nodup_cons.1 hn).1 (e' ▸ hm)
    show (x :: l).filter _ = _
    rw [List.filter_cons_of_neg (by simp [e'])]
    exact rm_none h
  | x :: l, t, k + 1, hn, hk, e => by
    have hk' : k < l.length := by simpa using hk
    have e' : gz l k = t := by simpa [gz] using e
    have hx : x ≠ t := fun h => (List.nodup_cons.1 hn).1 (h ▸ e' ▸ gz_mem hk')
    show (x :: l).filter _ = _
    rw [List.filter_cons_of_pos (by simp [hx]), List.eraseIdx_cons_succ]
    exact congrArg (x :: ·) (rm_erase (List.nodup_cons.1 hn).2 hk' e')
/-- One that is in a row is first at some place. -/
theorem in_at {l : List Int} {t : Int} (h : inZ l t = true) : ∃ k, k < l.length ∧ gz l k = t ∧ ∀ m, m < k → gz l m ≠ t := by
  induction l with
  | nil => simp [inZ] at h
  | cons x l ih =>
    by_cases hx : x = t
    · exact ⟨0, by simp, by simpa [gz] using hx, fun m hm => by omega⟩
    · have h' : inZ l t = true := by
        rcases List.mem_cons.1 (inZ_true.1 h) with h1 | h1
        · exact absurd h1.symm hx
        · exact inZ_true.2 h1
      obtain ⟨k, h1, h2, h3⟩ := ih h'
      refine ⟨k + 1, by simpa using h1, by simpa [gz] using h2, fun m hm => ?_⟩
      match m with
      | 0 => simpa [gz] using hx
      | m + 1 => simpa [gz] using h3 m (by omega)
theorem out_at {l : List Int} {t : Int} (h : inZ l t = false) : ∀ m, m < l.length → gz l m ≠ t := fun _ hm e => inZ_false.1 h (e ▸ gz_mem hm)
theorem idx_out {l : List Int} {t : Int} (h : inZ l t = false) : idxZ l t = -1 := by
  have := Go.Lib.idxOf_miss l l.length t (fun j hj => out_at h j hj)
  rwa [List.take_of_length_le (Nat.le_refl _)] at this
theorem idx_at {l : List Int} {t : Int} {k : Nat} (h1 : k < l.length) (h2 : gz l k = t) (h3 : ∀ m, m < k → gz l m ≠ t) : idxZ l t = (k : Int) := by
  have := Go.Lib.idxOf_hit l l.length k t h1 (Nat.le_refl _) h2 h3
  rwa [List.take_of_length_le (Nat.le_refl _)] at this
theorem idx_in {l : List Int} {t : Int} (h : inZ l t = true) : ∃ k : Nat, k < l.length ∧ idxZ l t = (k : Int) ∧ gz l k = t := by
  obtain ⟨k, h1, h2, h3⟩ := in_at h
  exact ⟨k, h1, idx_at h1 h2 h3, h2⟩
theorem in_snoc (l : List Int) (x t : Int) : inZ (l ++ [x]) t = (inZ l t || decide (x = t)) := by simp [inZ]
theorem nodup_snoc {l : List Int} (h : l.Nodup) {t : Int} (hn : inZ l t = false) : (l ++ [t]).Nodup := by
  rw [List.nodup_append]
  refine ⟨h, by simp, fun a ha b hb e => ?_⟩
  simp at hb
  subst hb
  subst e
  exact inZ_false.1 hn ha


/-- Who waits, and for how many. -/
structure Wt where
  t : Int
  u : Int
def wt (l : List Wt) (k : Nat) : Wt := l.getD k ⟨0, 0⟩
def ts (l : List Wt) : List Int := l.map Wt.t
def us (l : List Wt) : List Int := l.map Wt.u
theorem ts_len (l : List Wt) : (ts l).length = l.length := by simp [ts]
theorem us_len (l : List Wt) : (us l).length = l.length := by simp [us]
theorem gz_ts (l : List Wt) {k : Nat} (h : k < l.length) : gz (ts l) k = (wt l k).t := by simp [gz, ts, wt, h]
theorem gz_us (l : List Wt) {k : Nat} (h : k < l.length) : gz (us l) k = (wt l k).u := by simp [gz, us, wt, h]
theorem wt_mem {l : List Wt} {k : Nat} (h : k < l.length) : wt l k ∈ l := by
  rw [wt, List.getD_eq_getElem?_getD, List.getElem?_eq_getElem h]
  exact List.getElem_mem h
theorem map_erase {α β : Type} (g : α → β) : ∀ (l : List α) (k : Nat), (l.eraseIdx k).map g = (l.map g).eraseIdx k
  | [], _ => rfl
  | _ :: _, 0 => rfl
  | x :: l, k + 1 => congrArg (g x :: ·) (map_erase g l k)
theorem ts_erase (l : List Wt) (k : Nat) : ts (l.eraseIdx k) = (ts l).take k ++ (ts l).drop (k + 1) := by
  rw [← List.eraseIdx_eq_take_drop_succ]
  exact (map_erase Wt.t l k)
theorem us_erase (l : List Wt) (k : Nat) : us (l.eraseIdx k) = (us l).take k ++ (us l).drop (k + 1) := by
  rw [← List.eraseIdx_eq_take_drop_succ]
  exact (map_erase Wt.u l k)
theorem ts_snoc (l : List Wt) (x : Wt) : ts (l ++ [x]) = ts l ++ [x.t] := by simp [ts]
theorem us_snoc (l : List Wt) (x : Wt) : us (l ++ [x]) = us l ++ [x.u] := by simp [us]
theorem erase_zero (x : Wt) (q : List Wt) : (x :: q).eraseIdx 0 = q := rfl

/-- The place of a task among those that wait. -/
def idxN (l : List Wt) (t : Int) : Nat := (idxZ (ts l) t).toNat
theorem idx_here {l : List Wt} {t : Int} (h : inZ (ts l) t = true) : idxN l t < l.length ∧ (wt l (idxN l t)).t = t ∧ idxZ (ts l) t = ((idxN l t : Nat) : Int) := by
  obtain ⟨k, h1, h2, h3⟩ := idx_in h
  have e : idxN l t = k := by unfold idxN; rw [h2]; omega
  rw [ts_len] at h1
  rw [e]
  exact ⟨h1, by rw [← gz_ts l h1]; exact h3, h2⟩

/-- How many there are, how many are free, and who waits. -/
structure Sm where
  n : Int
  f : Int
  q : List Wt
structure Okw (s : Sm) : Prop where
  n1 : 1 ≤ s.n
  n16 : s.n ≤ 16
  f0 : 0 ≤ s.f
  fn : s.f ≤ s.n
  us : ∀ x ∈ s.q, 1 ≤ x.u ∧ x.u ≤ s.n

/-- Who is served, how many are free then, and who waits on. -/
def srv : Int → List Wt → List Int × Int × List Wt
  | f, [] => ([], f, [])
  | f, x :: q => if x.u ≤ f then (x.t :: (srv (f - x.u) q).1, (srv (f - x.u) q).2.1, (srv (f - x.u) q).2.2) else ([], f, x :: q)
def serveO (s : Sm) : List Int := (srv s.f s.q).1
def serveS (s : Sm) : Sm := ⟨s.n, (srv s.f s.q).2.1, (srv s.f s.q).2.2⟩
theorem serve_more {n f : Int} {x : Wt} {q : List Wt} (h : x.u ≤ f) : serveO ⟨n, f, x :: q⟩ = x.t :: serveO ⟨n, f - x.u, q⟩ ∧ serveS ⟨n, f, x :: q⟩ = serveS ⟨n, f - x.u, q⟩ := by
  unfold serveO serveS
  simp [srv, h]
theorem serve_none {n f : Int} {q : List Wt} (h : ∀ x, q.head? = some x → f < x.u) : serveO ⟨n, f, q⟩ = [] ∧ serveS ⟨n, f, q⟩ = ⟨n, f, q⟩ := by
  cases q with
  | nil => exact ⟨rfl, rfl⟩
  | cons x q =>
    have := h x rfl
    have hn : ¬ x.u ≤ f := by omega
    unfold serveO serveS
    simp [srv, hn]
/-- Those ahead are served, the others are not. -/
theorem serve_parts : ∀ (q : List Wt) (n f : Int), (∀ x ∈ q, 1 ≤ x.u) → 0 ≤ f → ∃ q1 q2, q = q1 ++ q2 ∧ serveO ⟨n, f, q⟩ = ts q1 ∧ (serveS ⟨n, f, q⟩).q = q2 ∧ (serveS ⟨n, f, q⟩).f + (us q1).sum = f ∧ 0 ≤ (serveS ⟨n, f, q⟩).f ∧ (serveS ⟨n, f, q⟩).f ≤ f ∧ ∀ x, q2.head? = some x → (serveS ⟨n, f, q⟩).f < x.u
  | [], n, f, _, h0 => ⟨[], [], rfl, rfl, rfl, by show f + 0 = f; omega, h0, Int.le_refl _, fun x h => by simp at h⟩
  | x :: q, n, f, hu, h0 => by
    by_cases hx : x.u ≤ f
    · obtain ⟨q1, q2, h1, h2, h3, h4, h5, h6, h7⟩ := serve_parts q n (f - x.u) (fun y hy => hu y (List.mem_cons_of_mem _ hy)) (by omega)
      obtain ⟨e1, e2⟩ := serve_more (n := n) (q := q) hx
      have := hu x List.mem_cons_self
      rw [e1, e2]
      refine ⟨x :: q1, q2, by rw [h1]; rfl, by rw [h2]; rfl, h3, ?_, h5, by omega, h7⟩
      show _ + (x.u + (us q1).sum) = f
      omega
    · obtain ⟨e1, e2⟩ := serve_none (n := n) (f := f) (q := x :: q) (fun y hy => by simp at hy; subst hy; omega)
      rw [e1, e2]
      exact ⟨[], x :: q, rfl, rfl, rfl, by show f + 0 = f; omega, h0, Int.le_refl _, fun y hy => by simp at hy; subst hy; show f < _; omega⟩
theorem serve_n (s : Sm) : (serveS s).n = s.n := rfl
theorem serve_ok {s : Sm} (h : Okw s) : Okw (serveS s) := by
  obtain ⟨q1, q2, h1, _, h3, _, h5, h6, _⟩ := serve_parts s.q s.n s.f (fun x hx => (h.us x hx).1) h.f0
  have h3' : (serveS s).q = q2 := h3
  have h6' : (serveS s).f ≤ s.f := h6
  refine ⟨h.n1, h.n16, h5, Int.le_trans h6' h.fn, fun x hx => ?_⟩
  rw [h3'] at hx
  exact h.us x (by rw [h1]; exact List.mem_append_right _ hx)
theorem serve_len (s : Sm) (h : Okw s) : (serveS s).q.length ≤ s.q.length ∧ (serveO s).length ≤ s.q.length := by
  obtain ⟨q1, q2, h1, h2, h3, _⟩ := serve_parts s.q s.n s.f (fun x hx => (h.us x hx).1) h.f0
  have h3' : (serveS s).q = q2 := h3
  have h2' : serveO s = ts q1 := h2
  rw [h3', h2', h1, ts_len, List.length_append]
  omega

abbrev may (s : Sm) (m : Int) : Prop := 1 ≤ m ∧ m ≤ s.n
def tryE (s : Sm) (t m : Int) : Int := if t < 1 ∨ ¬ may s m then 1 else if inZ (ts s.q) t = true then 11 else if 0 < s.q.length ∨ s.f < m then 12 else 0
def tryS (s : Sm) (t m : Int) : Sm := if tryE s t m = 0 then ⟨s.n, s.f - m, s.q⟩ else s
def acqE (s : Sm) (t m : Int) : Int := if tryE s t m = 12 then 14 else tryE s t m
def acqS (s : Sm) (t m : Int) : Sm := if tryE s t m = 12 then ⟨s.n, s.f, s.q ++ [⟨t, m⟩]⟩ else tryS s t m
def relE (s : Sm) (m : Int) : Int := if ¬ may s m then 1 else if s.n - s.f < m then 13 else 0
def relO (s : Sm) (m : Int) : List Int := if relE s m = 0 then serveO ⟨s.n, s.f + m, s.q⟩ else []
def relS (s : Sm) (m : Int) : Sm := if relE s m = 0 then serveS ⟨s.n, s.f + m, s.q⟩ else s
def dropB (s : Sm) (t : Int) : Bool := inZ (ts s.q) t
def lessD (s : Sm) (t : Int) : Sm := ⟨s.n, s.f, s.q.eraseIdx (idxN s.q t)⟩
def dropO (s : Sm) (t : Int) : List Int := if dropB s t = true then serveO (lessD s t) else []
def dropS (s : Sm) (t : Int) : Sm := if dropB s t = true then serveS (lessD s t) else s

theorem try_cases (s : Sm) (t m : Int) : (tryE s t m = 1 ∧ (t < 1 ∨ ¬ may s m)) ∨ (tryE s t m = 11 ∧ ¬ t < 1 ∧ may s m ∧ inZ (ts s.q) t = true) ∨
    (tryE s t m = 12 ∧ ¬ t < 1 ∧ may s m ∧ inZ (ts s.q) t = false ∧ (0 < s.q.length ∨ s.f < m)) ∨ (tryE s t m = 0 ∧ ¬ t < 1 ∧ may s m ∧ inZ (ts s.q) t = false ∧ s.q = [] ∧ m ≤ s.f) := by
  unfold tryE
  by_cases h1 : t < 1 ∨ ¬ may s m
  · rw [if_pos h1]; exact Or.inl ⟨rfl, h1⟩
  · rw [if_neg h1]
    have h2 : ¬ t < 1 := fun h => h1 (Or.inl h)
    have h3 : may s m := Decidable.not_not.1 fun h => h1 (Or.inr h)
    cases hb : inZ (ts s.q) t
    · rw [if_neg (by simp)]
      by_cases h4 : 0 < s.q.length ∨ s.f < m
      · rw [if_pos h4]; exact Or.inr (Or.inr (Or.inl ⟨rfl, h2, h3, rfl, h4⟩))
      · rw [if_neg h4]
        refine Or.inr (Or.inr (Or.inr ⟨rfl, h2, h3, rfl, ?_, ?_⟩))
        · exact List.length_eq_zero_iff.1 (by omega)
        · omega
    · rw [if_pos rfl]; exact Or.inr (Or.inl ⟨rfl, h2, h3, rfl⟩)
theorem rel_cases (s : Sm) (m : Int) : (relE s m = 1 ∧ ¬ may s m) ∨ (relE s m = 13 ∧ may s m ∧ s.n - s.f < m) ∨ (relE s m = 0 ∧ may s m ∧ m ≤ s.n - s.f) := by
  unfold relE
  by_cases h1 : may s m
  · rw [if_neg (fun h => h h1)]
    by_cases h2 : s.n - s.f < m
    · rw [if_pos h2]; exact Or.inr (Or.inl ⟨rfl, h1, h2⟩)
    · rw [if_neg h2]; exact Or.inr (Or.inr ⟨rfl, h1, by omega⟩)
  · rw [if_pos h1]; exact Or.inl ⟨rfl, h1⟩

theorem try_ok {s : Sm} (h : Okw s) (t m : Int) : Okw (tryS s t m) := by
  unfold tryS
  rcases try_cases s t m with ⟨e, _⟩ | ⟨e, _⟩ | ⟨e, _⟩ | ⟨e, _, hm, _, _, h2⟩
  · rw [e]; exact h
  · rw [e]; exact h
  · rw [e]; exact h
  · rw [e]
    have := hm.1
    have := h.fn
    exact ⟨h.n1, h.n16, by show 0 ≤ s.f - m; omega, by show s.f - m ≤ s.n; omega, h.us⟩
theorem acq_ok {s : Sm} (h : Okw s) (t m : Int) : Okw (acqS s t m) := by
  unfold acqS
  by_cases e : tryE s t m = 12
  · rw [if_pos e]
    rcases try_cases s t m with ⟨e2, _⟩ | ⟨e2, _⟩ | ⟨_, _, hm, _, _⟩ | ⟨e2, _⟩
    · rw [e2] at e; cases e
    · rw [e2] at e; cases e
    · refine ⟨h.n1, h.n16, h.f0, h.fn, fun x hx => ?_⟩
      rcases List.mem_append.1 hx with q | q
      · exact h.us x q
      · simp at q; subst q; exact hm
    · rw [e2] at e; cases e
  · rw [if_neg e]; exact try_ok h t m
theorem rel_in {s : Sm} (h : Okw s) {m : Int} (hm : may s m) (h2 : m ≤ s.n - s.f) : Okw ⟨s.n, s.f + m, s.q⟩ :=
  ⟨h.n1, h.n16, by have := h.f0; have := hm.1; show 0 ≤ s.f + m; omega, by show s.f + m ≤ s.n; omega, h.us⟩
theorem rel_ok {s : Sm} (h : Okw s) (m : Int) : Okw (relS s m) := by
  unfold relS
  rcases rel_cases s m with ⟨e, _⟩ | ⟨e, _⟩ | ⟨e, hm, h2⟩
  · rw [e]; exact h
  · rw [e]; exact h
  · rw [e]; exact serve_ok (rel_in h hm h2)
theorem less_ok {s : Sm} (h : Okw s) (t : Int) : Okw (lessD s t) := ⟨h.n1, h.n16, h.f0, h.fn, fun x hx => h.us x (List.mem_of_mem_eraseIdx hx)⟩
theorem drop_ok {s : Sm} (h : Okw s) (t : Int) : Okw (dropS s t) := by
  unfold dropS
  split
  · exact serve_ok (less_ok h t)
  · exact h
theorem less_len (s : Sm) (t : Int) : (lessD s t).q.length ≤ s.q.length := List.length_eraseIdx_le _ _
theorem try_len (s : Sm) (t m : Int) : (tryS s t m).q.length ≤ s.q.length + 1 := by
  unfold tryS
  split
  · show s.q.length ≤ _; omega
  · omega
theorem acq_len (s : Sm) (t m : Int) : (acqS s t m).q.length ≤ s.q.length + 1 := by
  unfold acqS
  split
  · simp
  · exact try_len s t m
theorem rel_len {s : Sm} (h : Okw s) (m : Int) : (relS s m).q.length ≤ s.q.length + 1 ∧ (relO s m).length ≤ s.q.length := by
  unfold relS relO
  rcases rel_cases s m with ⟨e, _⟩ | ⟨e, _⟩ | ⟨e, hm, h2⟩
  · rw [e]; exact ⟨by show s.q.length ≤ _; omega, by show 0 ≤ _; omega⟩
  · rw [e]; exact ⟨by show s.q.length ≤ _; omega, by show 0 ≤ _; omega⟩
  · rw [e]
    have := serve_len _ (rel_in h hm h2)
    exact ⟨Nat.le_succ_of_le this.1, this.2⟩
theorem drop_len {s : Sm} (h : Okw s) (t : Int) : (dropS s t).q.length ≤ s.q.length + 1 ∧ (dropO s t).length ≤ s.q.length := by
  unfold dropS dropO
  have h2 := less_len s t
  have := serve_len _ (less_ok h t)
  split
  · exact ⟨by omega, by omega⟩
  · exact ⟨by omega, by show 0 ≤ _; omega⟩
theorem try_n (s : Sm) (t m : Int) : (tryS s t m).n = s.n := by unfold tryS; split <;> rfl
theorem acq_n (s : Sm) (t m : Int) : (acqS s t m).n = s.n := by
  unfold acqS
  split
  · rfl
  · exact try_n s t m
theorem rel_n (s : Sm) (m : Int) : (relS s m).n = s.n := by unfold relS; split <;> rfl
theorem drop_n (s : Sm) (t : Int) : (dropS s t).n = s.n := by unfold dropS; split <;> rfl

end Go.Proofs.Ytgldhlcdnijecaa
