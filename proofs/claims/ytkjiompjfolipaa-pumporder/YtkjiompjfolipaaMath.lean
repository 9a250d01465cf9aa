/-
  Values that were sent, and how many of them are kept, as plain data.
-/
import Derived.Lib.Slices
namespace Go.Proofs.Ytkjiompjfolipaa

def gz (l : List Int) (k : Nat) : Int := l.getD k 0
theorem gz_out {l : List Int} {k : Nat} (h : l.length ≤ k) : gz l k = 0 := by simp [gz, List.getD_eq_getElem?_getD, List.getElem?_eq_none h]
theorem gz_zeros (n k : Nat) : gz (List.replicate n (0 : Int)) k = 0 := by
  simp only [gz, List.getD_eq_getElem?_getD, List.getElem?_replicate]
  split <;> rfl
theorem gz_set {l : List Int} {j : Nat} (h : j < l.length) (v : Int) (k : Nat) : gz (l.set j v) k = if j = k then v else gz l k := by
  simp only [gz, List.getD_eq_getElem?_getD]
  by_cases e : j = k
  · subst e; simp [h]
  · simp [e]
theorem gz_old {l : List Int} {x : Int} {k : Nat} (h : k < l.length) : gz (l ++ [x]) k = gz l k := by simp [gz, List.getD_eq_getElem?_getD, List.getElem?_append_left h]
theorem gz_new (l : List Int) (x : Int) : gz (l ++ [x]) l.length = x := by simp [gz, List.getD_eq_getElem?_getD]

/-- How many are kept: from 1 to 8. -/
def cut8 (n : Int) : Nat := (min (max n 1) 8).toNat
theorem cut8_eq (n : Int) : ((cut8 n : Nat) : Int) = min (max n 1) 8 := by unfold cut8; omega
theorem cut8_ok (n : Int) : 1 ≤ cut8 n ∧ cut8 n ≤ 8 := by have := cut8_eq n; omega

/-- All that was sent; how many are kept. -/
structure Ps where
  l : List Int
  k : Nat
def ps0 (n : Nat) : Ps := ⟨[], n⟩
def Ps.snd (s : Ps) (v : Int) : Ps := ⟨s.l ++ [v], s.k⟩
def Okp (s : Ps) : Prop := 1 ≤ s.k ∧ s.k ≤ 8
theorem Okp.snd {s : Ps} (h : Okp s) (v : Int) : Okp (s.snd v) := h
theorem snd_len (s : Ps) (v : Int) : (s.snd v).l.length = s.l.length + 1 := by simp [Ps.snd]

/-- Which one a reader gets. -/
def rcvF (s : Ps) (x : Int) : Nat := max x.toNat (s.l.length - s.k)
def inP (s : Ps) (x : Int) : Bool := decide (0 ≤ x ∧ x < s.l.length)
def rcvV (s : Ps) (x : Int) : Int := if inP s x = true then gz s.l (rcvF s x) else 0
def rcvL (s : Ps) (x : Int) : Int := if inP s x = true then (rcvF s x : Int) - x else 0
def rcvA (s : Ps) (x : Int) : Int := if inP s x = true then (rcvF s x : Int) + 1 else if x = (s.l.length : Int) then x else 0
def rcvE (s : Ps) (x : Int) : Int := if inP s x = true then 0 else if x = (s.l.length : Int) then 18 else 1
theorem in_yes {s : Ps} {x : Int} (h : inP s x = true) : ∃ j : Nat, x = (j : Int) ∧ j < s.l.length ∧ rcvF s x = max j (s.l.length - s.k) := by
  have := of_decide_eq_true h
  refine ⟨x.toNat, by omega, by omega, ?_⟩
  unfold rcvF
  omega
theorem in_no {s : Ps} {x : Int} (h : inP s x = false) : x < 0 ∨ (0 ≤ x ∧ (s.l.length : Int) ≤ x) := by
  have := of_decide_eq_false h
  omega
theorem in_at {s : Ps} {j : Nat} (h : j < s.l.length) : inP s (j : Int) = true := decide_eq_true (by omega)
theorem rcv_yes {s : Ps} {x : Int} (h : inP s x = true) : rcvV s x = gz s.l (rcvF s x) ∧ rcvL s x = (rcvF s x : Int) - x ∧ rcvA s x = (rcvF s x : Int) + 1 ∧ rcvE s x = 0 := ⟨if_pos h, if_pos h, if_pos h, if_pos h⟩
theorem rcv_end {s : Ps} {x : Int} (h : x = (s.l.length : Int)) : rcvV s x = 0 ∧ rcvL s x = 0 ∧ rcvA s x = x ∧ rcvE s x = 18 := by
  have h0 : ¬ inP s x = true := by
    intro q
    have := of_decide_eq_true q
    omega
  exact ⟨if_neg h0, if_neg h0, (if_neg h0).trans (if_pos h), (if_neg h0).trans (if_pos h)⟩
theorem rcv_no {s : Ps} {x : Int} (h : x < 0 ∨ (s.l.length : Int) < x) : rcvV s x = 0 ∧ rcvL s x = 0 ∧ rcvA s x = 0 ∧ rcvE s x = 1 := by
  have h0 : ¬ inP s x = true := by
    intro q
    have := of_decide_eq_true q
    omega
  have h1 : ¬ x = (s.l.length : Int) := by omega
  exact ⟨if_neg h0, if_neg h0, (if_neg h0).trans (if_neg h1), (if_neg h0).trans (if_neg h1)⟩

/-- The last ones lie round and round in eight places. -/
def Fit (vs l : List Int) (k : Nat) : Prop := vs.length = 8 ∧ ∀ i, i < l.length → l.length ≤ i + k → gz vs (i % k) = gz l i
theorem Fit.start (k : Nat) : Fit (List.replicate 8 0) [] k := ⟨by simp, fun i h => by simp at h⟩
theorem Fit.snd {vs l : List Int} {k : Nat} (h : Fit vs l k) (h1 : 1 ≤ k) (h8 : k ≤ 8) (v : Int) : Fit (vs.set (l.length % k) v) (l ++ [v]) k := by
  obtain ⟨a, b⟩ := h
  have hlt : l.length % k < vs.length := by rw [a]; exact Nat.lt_of_lt_of_le (Nat.mod_lt _ (by omega)) h8
  refine ⟨by simpa using a, fun i hi hk => ?_⟩
  rw [List.length_append, List.length_singleton] at hi hk
  rw [gz_set hlt]
  by_cases e : i = l.length
  · subst e
    rw [if_pos rfl, gz_new]
  · have hi2 : i < l.length := by omega
    rw [gz_old hi2, if_neg ?_, b i hi2 (by omega)]
    intro q
    have := Nat.sub_mod_eq_zero_of_mod_eq q
    have := Nat.le_of_dvd (by omega) (Nat.dvd_of_mod_eq_zero this)
    omega

end Go.Proofs.Ytkjiompjfolipaa
