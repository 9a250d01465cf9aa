/-
  Who reads, who writes and who waits, as plain data: the program's four parts, the document's one list, and what each call makes of them.
-/
import Derived.Lib.Slices
namespace Go.Proofs.Ytggfndokmdpaeaa

def gz (l : List Int) (k : Nat) : Int := l.getD k 0
def inZ (l : List Int) (t : Int) : Bool := l.any fun x => decide (x = t)
def rmZ (l : List Int) (t : Int) : List Int := l.filter fun x => !decide (x = t)
def idxZ (l : List Int) (t : Int) : Int := Go.Lib.idxOf l t

theorem inZ_true {l : List Int} {t : Int} : inZ l t = true ↔ t ∈ l := by simp [inZ]
theorem inZ_false {l : List Int} {t : Int} : inZ l t = false ↔ t ∉ l := by
  rw [← inZ_true]; cases inZ l t <;> simp
theorem mem_rm {l : List Int} {t x : Int} : x ∈ rmZ l t ↔ x ∈ l ∧ x ≠ t := by simp [rmZ]
theorem rm_none {l : List Int} {t : Int} (h : inZ l t = false) : rmZ l t = l := by
  unfold rmZ
  rw [List.filter_eq_self]
  intro x hx
  have := inZ_false.1 h
  simpa using fun e : x = t => this (e ▸ hx)
theorem rm_nodup {l : List Int} (h : l.Nodup) (t : Int) : (rmZ l t).Nodup := h.filter _
theorem rm_len (l : List Int) (t : Int) : (rmZ l t).length ≤ l.length := List.length_filter_le _ _
theorem in_rm (l : List Int) (t : Int) : inZ (rmZ l t) t = false := inZ_false.2 fun h => (mem_rm.1 h).2 rfl
theorem gz_mem {l : List Int} {k : Nat} (h : k < l.length) : gz l k ∈ l := by
  rw [gz, List.getD_eq_getElem?_getD, List.getElem?_eq_getElem h]
  exact List.getElem_mem h
theorem gz_zero (x : Int) (l : List Int) : gz (x :: l) 0 = x := rfl
theorem gz_succ (x : Int) (l : List Int) (k : Nat) : gz (x :: l) (k + 1) = gz l k := rfl

/-- Where a number is first in a row it is taken out of there. -/
theorem rm_erase : ∀ {l : List Int} {t : Int} {k : Nat}, l.Nodup → k < l.length → gz l k = t → rmZ l t = l.eraseIdx k
  | [], _, _, _, h, _ => by simp at h
  | x :: l, t, 0, hn, _, e => by
    have e' : x = t := by simpa [gz] using e
    have h : inZ l t = false := inZ_false.2 fun hm => (List.nodup_cons.1 hn).1 (e' ▸ hm)
    show (x :: l).filter _ = _
    rw [List.filter_cons_of_neg (by simp [e'])]
    exact rm_none h
  | x :: l, t, k + 1, hn, hk, e => by
    have hk' : k < l.length := by simpa using hk
    have e' : gz l k = t := by simpa [gz] using e
    have hx : x ≠ t := fun h => (List.nodup_cons.1 hn).1 (h ▸ e' ▸ gz_mem hk')
    show (x :: l).filter _ = _
    rw [List.filter_cons_of_pos (by simp [hx]), List.eraseIdx_cons_succ]
    exact congrArg (x :: ·) (rm_erase (List.nodup_cons.1 hn).2 hk' e')
/-- One that is in a row is first at some place. -/
theorem in_at {l : List Int} {t : Int} (h : inZ l t = true) : ∃ k, k < l.length ∧ gz l k = t ∧ ∀ m, m < k → gz l m ≠ t := by
  induction l with
  | nil => simp [inZ] at h
  | cons x l ih =>
    by_cases hx : x = t
    · exact ⟨0, by simp, by simpa [gz] using hx, fun m hm => by omega⟩
    · have h' : inZ l t = true := by
        rcases List.mem_cons.1 (inZ_true.1 h) with h1 | h1
        · exact absurd h1.symm hx
        · exact inZ_true.2 h1
      obtain ⟨k, h1, h2, h3⟩ := ih h'
      refine ⟨k + 1, by simpa using h1, by simpa [gz] using h2, fun m hm => ?_⟩
      match m with
      | 0 => simpa [gz] using hx
      | m + 1 => simpa [gz] using h3 m (by omega)
theorem out_at {l : List Int} {t : Int} (h : inZ l t = false) : ∀ m, m < l.length → gz l m ≠ t := fun _ hm e => inZ_false.1 h (e ▸ gz_mem hm)
theorem idx_out {l : List Int} {t : Int} (h : inZ l t = false) : idxZ l t = -1 := by
  have := Go.Lib.idxOf_miss l l.length t (fun j hj => out_at h j hj)
  rwa [List.take_of_length_le (Nat.le_refl _)] at this
theorem idx_at {l : List Int} {t : Int} {k : Nat} (h1 : k < l.length) (h2 : gz l k = t) (h3 : ∀ m, m < k → gz l m ≠ t) : idxZ l t = (k : Int) := by
  have := Go.Lib.idxOf_hit l l.length k t h1 (Nat.le_refl _) h2 h3
  rwa [List.take_of_length_le (Nat.le_refl _)] at this
theorem idx_in {l : List Int} {t : Int} (h : inZ l t = true) : ∃ k : Nat, k < l.length ∧ idxZ l t = (k : Int) ∧ gz l k = t := by
  obtain ⟨k, h1, h2, h3⟩ := in_at h
  exact ⟨k, h1, idx_at h1 h2 h3, h2⟩
theorem in_snoc (l : List Int) (x t : Int) : inZ (l ++ [x]) t = (inZ l t || decide (x = t)) := by simp [inZ]
theorem nodup_snoc {l : List Int} (h : l.Nodup) {t : Int} (hn : inZ l t = false) : (l ++ [t]).Nodup := by
  rw [List.nodup_append]
  refine ⟨h, by simp, fun a ha b hb e => ?_⟩
  simp at hb
  subst hb
  subst e
  exact inZ_false.1 hn ha

/-- Who writes (0: nobody), who reads, who waits to write, who waits to read. -/
structure St where
  w : Int
  rs : List Int
  tw : List Int
  tr : List Int
def St.nil : St := ⟨0, [], [], []⟩
def St.all (s : St) : List Int := (if s.w = 0 then [] else [s.w]) ++ s.rs ++ s.tw ++ s.tr
def St.len (s : St) : Nat := s.rs.length + s.tw.length + s.tr.length
/-- Each once, and each a task. -/
structure Okx (s : St) : Prop where
  nd : s.all.Nodup
  pos : ∀ x ∈ s.all, 1 ≤ x
  /-- Nobody waits who could have it. -/
  tr0 : s.w = 0 → s.tw = [] → s.tr = []
  tw0 : s.w = 0 → s.rs = [] → s.tw = []
  alone : s.w ≠ 0 → s.rs = []

def here (s : St) (t : Int) : Bool := decide (t = s.w) || (inZ s.rs t || (inZ s.tw t || inZ s.tr t))
def wrongE (s : St) (t : Int) : Int := if t < 1 then 1 else if here s t = true then 11 else 0
abbrev busyR (s : St) : Prop := s.w ≠ 0 ∨ s.tw ≠ []
abbrev busyW (s : St) : Prop := s.w ≠ 0 ∨ s.rs ≠ []
/-- E: what is answered where it is not had. -/
def readE (E : Int) (s : St) (t : Int) : Int := if wrongE s t ≠ 0 then wrongE s t else if busyR s then E else 0
def writeE (E : Int) (s : St) (t : Int) : Int := if wrongE s t ≠ 0 then wrongE s t else if busyW s then E else 0
def tryRS (s : St) (t : Int) : St := if wrongE s t ≠ 0 then s else if busyR s then s else { s with rs := s.rs ++ [t] }
def rlockS (s : St) (t : Int) : St := if wrongE s t ≠ 0 then s else if busyR s then { s with tr := s.tr ++ [t] } else { s with rs := s.rs ++ [t] }
def tryS (s : St) (t : Int) : St := if wrongE s t ≠ 0 then s else if busyW s then s else { s with w := t }
def lockS (s : St) (t : Int) : St := if wrongE s t ≠ 0 then s else if busyW s then { s with tw := s.tw ++ [t] } else { s with w := t }
def handO (s : St) : List Int := if s.w ≠ 0 then [] else if s.tw = [] then s.tr else if s.rs = [] then s.tw.take 1 else []
def handS (s : St) : St := if s.w ≠ 0 then s else if s.tw = [] then { s with rs := s.rs ++ s.tr, tr := [] } else if s.rs = [] then { s with w := gz s.tw 0, tw := s.tw.tail } else s
abbrev canR (s : St) (t : Int) : Prop := 1 ≤ t ∧ inZ s.rs t = true
abbrev canW (s : St) (t : Int) : Prop := 1 ≤ t ∧ t = s.w
def lessR (s : St) (t : Int) : St := { s with rs := rmZ s.rs t }
def lessW (s : St) : St := { s with w := 0 }
def runE (s : St) (t : Int) : Int := if t < 1 then 1 else if canR s t then 0 else 11
def runO (s : St) (t : Int) : List Int := if canR s t then handO (lessR s t) else []
def runS (s : St) (t : Int) : St := if canR s t then handS (lessR s t) else s
def unE (s : St) (t : Int) : Int := if t < 1 then 1 else if canW s t then 0 else 11
def unO (s : St) (t : Int) : List Int := if canW s t then handO (lessW s) else []
def unS (s : St) (t : Int) : St := if canW s t then handS (lessW s) else s
def dropB (s : St) (t : Int) : Bool := inZ s.tw t || inZ s.tr t
def lessD (s : St) (t : Int) : St := if inZ s.tw t = true then { s with tw := rmZ s.tw t } else { s with tr := rmZ s.tr t }
def dropO (s : St) (t : Int) : List Int := if dropB s t = true then handO (lessD s t) else []
def dropS (s : St) (t : Int) : St := if dropB s t = true then handS (lessD s t) else s

end Go.Proofs.Ytggfndokmdpaeaa
