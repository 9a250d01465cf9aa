/-
  Some words, a number and who writes, as plain data.
-/
import Derived.Lib.Slices
namespace Go.Proofs.Ythadcampbchihaa

def gz (l : List Int) (k : Nat) : Int := l.getD k 0
theorem gz_out {l : List Int} {k : Nat} (h : l.length ≤ k) : gz l k = 0 := by simp [gz, List.getD_eq_getElem?_getD, List.getElem?_eq_none h]
theorem gz_zeros (n k : Nat) : gz (List.replicate n (0 : Int)) k = 0 := by
  simp only [gz, List.getD_eq_getElem?_getD, List.getElem?_replicate]
  split <;> rfl
theorem gz_set {l : List Int} {j : Nat} (h : j < l.length) (v : Int) (k : Nat) : gz (l.set j v) k = if j = k then v else gz l k := by
  simp only [gz, List.getD_eq_getElem?_getD]
  by_cases e : j = k
  · subst e; simp [h]
  · simp [e]
theorem gz_take {l : List Int} {j k : Nat} (h : k < j) : gz (l.take j) k = gz l k := by simp [gz, List.getD_eq_getElem?_getD, h]
theorem take_succ {l : List Int} {k : Nat} (h : k < l.length) : l.take (k + 1) = l.take k ++ [gz l k] := by
  rw [List.take_add_one, List.getElem?_eq_getElem h, gz, List.getD_eq_getElem?_getD, List.getElem?_eq_getElem h]; rfl

/-- The words; how often writing has ended; who writes (0: nobody). -/
structure Ws where
  l : List Int
  e : Int
  wr : Int
def Ws.sq (s : Ws) : Int := if s.wr = 0 then 2 * s.e else 2 * s.e + 1
def Ws.bg (s : Ws) : Int := if s.wr = 0 then s.e else s.e + 1
def ws0 (n : Nat) : Ws := ⟨List.replicate n 0, 0, 0⟩
/-- How many words: from 1 to 4. -/
def cut4 (n : Int) : Nat := (min (max n 1) 4).toNat
theorem cut4_eq (n : Int) : ((cut4 n : Nat) : Int) = min (max n 1) 4 := by unfold cut4; omega
theorem cut4_ok (n : Int) : 1 ≤ cut4 n ∧ cut4 n ≤ 4 := by have := cut4_eq n; omega

structure Okw (s : Ws) : Prop where
  l1 : 1 ≤ s.l.length
  l4 : s.l.length ≤ 4
  e0 : 0 ≤ s.e
  e1 : s.e ≤ 524288
  w0 : 0 ≤ s.wr
  w1 : s.wr ≠ 0 → s.e < 524288
theorem Okw.start {n : Nat} (h : 1 ≤ n ∧ n ≤ 4) : Okw (ws0 n) := ⟨by simpa [ws0] using h.1, by simpa [ws0] using h.2, by simp [ws0], by simp [ws0], by simp [ws0], by simp [ws0]⟩

def begE (s : Ws) (t : Int) : Int := if t < 1 then 1 else if t = s.wr then 11 else if s.wr ≠ 0 then 12 else if s.e = 524288 then 13 else 0
def begS (s : Ws) (t : Int) : Ws := if begE s t = 0 then ⟨s.l, s.e, t⟩ else s
def endE (s : Ws) (t : Int) : Int := if t < 1 then 1 else if t = s.wr then 0 else 11
def endS (s : Ws) (t : Int) : Ws := if endE s t = 0 then ⟨s.l, s.e + 1, 0⟩ else s
def hasI (l : List Int) (i : Int) : Bool := decide (0 ≤ i ∧ i < l.length)
def putE (s : Ws) (t i : Int) : Int := if t < 1 then 1 else if hasI s.l i = false then 1 else if t = s.wr then 0 else 11
def putS (s : Ws) (t i v : Int) : Ws := if putE s t i = 0 then ⟨s.l.set i.toNat v, s.e, s.wr⟩ else s
def staN (s : Ws) : Int := if s.wr = 0 then 2 * s.e else 0
def staE (s : Ws) : Int := if s.wr = 0 then 0 else 17
def wrdN (l : List Int) (i : Int) : Int := if hasI l i = true then gz l i.toNat else 0
def wrdE (l : List Int) (i : Int) : Int := if hasI l i = true then 0 else 1
def samE (s : Ws) (q : Int) : Int := if s.wr = 0 ∧ q = 2 * s.e then 0 else 17

theorem beg_low {s : Ws} {t : Int} (h : t < 1) : begE s t = 1 ∧ begS s t = s := by
  have e : begE s t = 1 := if_pos h
  exact ⟨e, if_neg (by rw [e]; decide)⟩
theorem beg_mine {s : Ws} {t : Int} (h : ¬ t < 1) (h2 : t = s.wr) : begE s t = 11 ∧ begS s t = s := by
  have e : begE s t = 11 := (if_neg h).trans (if_pos h2)
  exact ⟨e, if_neg (by rw [e]; decide)⟩
theorem beg_busy {s : Ws} {t : Int} (h : ¬ t < 1) (h2 : ¬ t = s.wr) (h3 : s.wr ≠ 0) : begE s t = 12 ∧ begS s t = s := by
  have e : begE s t = 12 := (if_neg h).trans ((if_neg h2).trans (if_pos h3))
  exact ⟨e, if_neg (by rw [e]; decide)⟩
theorem beg_over {s : Ws} {t : Int} (h : ¬ t < 1) (h3 : s.wr = 0) (h4 : s.e = 524288) : begE s t = 13 ∧ begS s t = s := by
  have h2 : ¬ t = s.wr := by omega
  have e : begE s t = 13 := (if_neg h).trans ((if_neg h2).trans ((if_neg (by simp [h3])).trans (if_pos h4)))
  exact ⟨e, if_neg (by rw [e]; decide)⟩
theorem beg_ok {s : Ws} {t : Int} (h : ¬ t < 1) (h3 : s.wr = 0) (h4 : ¬ s.e = 524288) : begE s t = 0 ∧ begS s t = ⟨s.l, s.e, t⟩ := by
  have h2 : ¬ t = s.wr := by omega
  have e : begE s t = 0 := (if_neg h).trans ((if_neg h2).trans ((if_neg (by simp [h3])).trans (if_neg h4)))
  exact ⟨e, if_pos e⟩
theorem end_low {s : Ws} {t : Int} (h : t < 1) : endE s t = 1 ∧ endS s t = s := by
  have e : endE s t = 1 := if_pos h
  exact ⟨e, if_neg (by rw [e]; decide)⟩
theorem end_ok {s : Ws} {t : Int} (h : ¬ t < 1) (h2 : t = s.wr) : endE s t = 0 ∧ endS s t = ⟨s.l, s.e + 1, 0⟩ := by
  have e : endE s t = 0 := (if_neg h).trans (if_pos h2)
  exact ⟨e, if_pos e⟩
theorem end_not {s : Ws} {t : Int} (h : ¬ t < 1) (h2 : ¬ t = s.wr) : endE s t = 11 ∧ endS s t = s := by
  have e : endE s t = 11 := (if_neg h).trans (if_neg h2)
  exact ⟨e, if_neg (by rw [e]; decide)⟩
theorem put_low {s : Ws} {t i v : Int} (h : t < 1) : putE s t i = 1 ∧ putS s t i v = s := by
  have e : putE s t i = 1 := if_pos h
  exact ⟨e, if_neg (by rw [e]; decide)⟩
theorem put_out {s : Ws} {t i v : Int} (h : ¬ t < 1) (h2 : hasI s.l i = false) : putE s t i = 1 ∧ putS s t i v = s := by
  have e : putE s t i = 1 := (if_neg h).trans (if_pos h2)
  exact ⟨e, if_neg (by rw [e]; decide)⟩
theorem put_not {s : Ws} {t i v : Int} (h : ¬ t < 1) (h2 : hasI s.l i = true) (h3 : ¬ t = s.wr) : putE s t i = 11 ∧ putS s t i v = s := by
  have e : putE s t i = 11 := (if_neg h).trans ((if_neg (by simp [h2])).trans (if_neg h3))
  exact ⟨e, if_neg (by rw [e]; decide)⟩
theorem put_ok {s : Ws} {t i v : Int} (h : ¬ t < 1) (h2 : hasI s.l i = true) (h3 : t = s.wr) : putE s t i = 0 ∧ putS s t i v = ⟨s.l.set i.toNat v, s.e, s.wr⟩ := by
  have e : putE s t i = 0 := (if_neg h).trans ((if_neg (by simp [h2])).trans (if_pos h3))
  exact ⟨e, if_pos e⟩
theorem has_at {l : List Int} {i : Int} (h : hasI l i = true) : ∃ k : Nat, i = (k : Int) ∧ k < l.length := by
  have := of_decide_eq_true h
  exact ⟨i.toNat, by omega, by omega⟩
theorem has_nat {l : List Int} {k : Nat} (h : k < l.length) : hasI l (k : Int) = true := decide_eq_true (by omega)
theorem has_not {l : List Int} {i : Int} (h : hasI l i = false) : i < 0 ∨ (0 ≤ i ∧ ¬ i < (l.length : Int)) := by
  have := of_decide_eq_false h
  omega

theorem Okw.beg {s : Ws} (h : Okw s) (t : Int) : Okw (begS s t) := by
  by_cases h1 : t < 1
  · rw [(beg_low h1).2]; exact h
  by_cases h2 : s.wr = 0
  · by_cases h4 : s.e = 524288
    · rw [(beg_over h1 h2 h4).2]; exact h
    · rw [(beg_ok h1 h2 h4).2]
      have := h.e1
      exact ⟨h.l1, h.l4, h.e0, h.e1, by show 0 ≤ t; omega, fun _ => by show s.e < 524288; omega⟩
  · by_cases h3 : t = s.wr
    · rw [(beg_mine h1 h3).2]; exact h
    · rw [(beg_busy h1 h3 h2).2]; exact h
theorem Okw.fin {s : Ws} (h : Okw s) (t : Int) : Okw (endS s t) := by
  by_cases h1 : t < 1
  · rw [(end_low h1).2]; exact h
  by_cases h2 : t = s.wr
  · rw [(end_ok h1 h2).2]
    have h3 := h.w1 (by omega)
    have h4 := h.e0
    exact ⟨h.l1, h.l4, by show 0 ≤ s.e + 1; omega, by show s.e + 1 ≤ 524288; omega, by show (0 : Int) ≤ 0; omega, fun q => absurd rfl q⟩
  · rw [(end_not h1 h2).2]; exact h
theorem Okw.put {s : Ws} (h : Okw s) (t i v : Int) : Okw (putS s t i v) := by
  unfold putS
  split
  · exact ⟨by simpa using h.l1, by simpa using h.l4, h.e0, h.e1, h.w0, h.w1⟩
  · exact h
theorem beg_l (s : Ws) (t : Int) : (begS s t).l = s.l := by unfold begS; split <;> rfl
theorem end_l (s : Ws) (t : Int) : (endS s t).l = s.l := by unfold endS; split <;> rfl
theorem put_len (s : Ws) (t i v : Int) : (putS s t i v).l.length = s.l.length := by unfold putS; split <;> simp

end Go.Proofs.Ythadcampbchihaa
