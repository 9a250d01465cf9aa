/-
  Plain facts on blanks ahead of a line and a remark behind it.
-/
import Derived.Test.YtnjhjjbdihbjbaaTwo
namespace Go.Proofs.Ytnjhjjbdihbjbaa
open Go.RowKit

theorem chop_blanks (l : List UInt8) : ∀ n : Nat, chop (List.replicate n 32 ++ l) = List.replicate n [32] ++ chop l
  | 0 => rfl
  | n + 1 => by
    rw [List.replicate_succ, List.cons_append, chop_low 32 (by decide), chop_blanks l n, List.replicate_succ, List.cons_append]
theorem run_blanks (cs : List (List UInt8)) : ∀ (n col : Nat), run ⟨[], none, 1, col, false⟩ (List.replicate n [32] ++ cs) = run ⟨[], none, 1, col + n, false⟩ cs
  | 0, _ => rfl
  | n + 1, col => by
    rw [List.replicate_succ, List.cons_append, run_blank, show ([] : List Wd) ++ (none : Option Wd).toList = [] from rfl, run_blanks cs n (col + 1), show col + 1 + n = col + (n + 1) by omega]

def shiftC (k : Nat) (x : Wd) : Wd := ⟨x.text, x.line, x.col + k⟩
def St.right (k : Nat) (st : St) : St := ⟨st.done.map (shiftC k), st.cur.map (shiftC k), st.line, st.col + k, st.rem⟩
theorem all_right (k : Nat) (st : St) : (st.right k).all = st.all.map (shiftC k) := by
  simp [St.all, St.right, toList_map]
theorem step_right (k : Nat) (st : St) (c : List UInt8) (h : c ≠ [10]) : step (st.right k) c = (step st c).right k := by
  have hn : nextC (st.col + k) c = nextC st.col c + k := by unfold nextC; rw [if_neg h, if_neg h]; omega
  cases hi : inN (remN st.rem c) c
  · rw [step_out (st := st) hi, step_out (st := st.right k) hi, all_right]
    show St.mk _ _ _ (nextC (st.col + k) c) _ = _
    rw [hn]; rfl
  · rw [step_in (st := st) hi, step_in (st := st.right k) hi]
    show St.mk _ _ _ (nextC (st.col + k) c) _ = _
    rw [hn]
    obtain ⟨D, cur, l, co, r⟩ := st
    cases cur <;> rfl
theorem run_right (k : Nat) : ∀ (cs : List (List UInt8)) (st : St), [10] ∉ cs → run (st.right k) cs = (run st cs).right k
  | [], _, _ => rfl
  | c :: cs, st, h => by
    rw [run_cons, run_cons, step_right k st c (fun e => h (by simp [e])), run_right k cs _ (fun hc => h (by simp [hc]))]

theorem words_blanks (s r : List UInt8) (n : Nat) (h1 : (10 : UInt8) ∉ s) (h2 : (10 : UInt8) ∉ r) : wordsOf (List.replicate n 32 ++ (s ++ 35 :: r)) = (wordsOf s).map (shiftC n) := by
  unfold wordsOf
  rw [chop_blanks, show start = ⟨[], none, 1, 1, false⟩ from rfl, run_blanks, chop_at 35 (by decide), run_append, run_cons, run_rem _ _ (fun e => h2 (mem_chop e)) (step_hash _).1, (step_hash _).2.1]
  rw [show (⟨[], none, 1, 1 + n, false⟩ : St) = St.right n ⟨[], none, 1, 1, false⟩ from rfl, run_right n _ _ (fun e => h1 (mem_chop e)), all_right]

theorem ok_blanks (s r : List UInt8) (n : Nat) : okAll (chop (List.replicate n 32 ++ (s ++ 35 :: r))) ↔ okAll (chop s) ∧ okAll (chop r) := by
  rw [chop_blanks, chop_at 35 (by decide), okAll_append, okAll_append, okAll_cons]
  constructor
  · intro h; exact ⟨h.2.1, h.2.2.2⟩
  · intro h
    refine ⟨fun c hc => ?_, h.1, rfl, h.2⟩
    rw [(List.mem_replicate.1 hc).2]; rfl

/-- What the answers come to. -/
theorem blanks_cases (s r : List UInt8) (n : Nat) (hn : n ≤ 255) (h1 : (10 : UInt8) ∉ s) (h2 : (10 : UInt8) ∉ r) (h : s.length + r.length ≤ 3000) :
    (∃ p q p' q', ansOf s = ⟨[], 2, p, q⟩ ∧ ansOf (List.replicate n 32 ++ (s ++ 35 :: r)) = ⟨[], 2, p', q'⟩) ∨
    (∃ WS p q p' q', ansOf s = ⟨WS, 0, 0, 0⟩ ∧ ansOf r = ⟨[], 2, p, q⟩ ∧ ansOf (List.replicate n 32 ++ (s ++ 35 :: r)) = ⟨[], 2, p', q'⟩) ∨
    (∃ WS WR, ansOf s = ⟨WS, 0, 0, 0⟩ ∧ ansOf r = ⟨WR, 0, 0, 0⟩ ∧ ansOf (List.replicate n 32 ++ (s ++ 35 :: r)) = ⟨WS.map (shiftC n), 0, 0, 0⟩ ∧ WS.length ≤ 3000 ∧ ∀ x ∈ WS, x.col ≤ 5000) := by
  have hz : (List.replicate n (32 : UInt8) ++ (s ++ 35 :: r)).length ≤ 4096 := by simp; omega
  by_cases hs : okAll (chop s)
  · by_cases hr : okAll (chop r)
    · refine Or.inr (Or.inr ⟨wordsOf s, wordsOf r, ans_ok (by omega) hs, ans_ok (by omega) hr, ?_, ?_, ?_⟩)
      · rw [ans_ok hz ((ok_blanks s r n).2 ⟨hs, hr⟩), words_blanks s r n h1 h2]
      · have := words_len s; omega
      · intro x hx
        have := (words_near s x hx).2
        omega
    · exact Or.inr (Or.inl ⟨_, _, _, _, _, ans_ok (by omega) hs, ans_bad (by omega) hr, ans_bad hz (fun hh => hr ((ok_blanks s r n).1 hh).2)⟩)
  · exact Or.inl ⟨_, _, _, _, ans_bad (by omega) hs, ans_bad hz (fun hh => hs ((ok_blanks s r n).1 hh).1)⟩

theorem map_take_next (WS : List Wd) (f : Wd → Wd) (k : Nat) (x : Wd) (h : WS[k]? = some x) : (WS.take (k + 1)).map f ++ WS.drop (k + 1) = (WS.take k).map f ++ f x :: WS.drop (k + 1) := by
  rw [List.take_add_one, h, List.map_append, List.append_assoc]; rfl
theorem map_take_at (WS : List Wd) (f : Wd → Wd) (k : Nat) (x : Wd) (h : WS[k]? = some x) : (WS.take k).map f ++ WS.drop k = (WS.take k).map f ++ x :: WS.drop (k + 1) := by
  congr 1
  obtain ⟨hk, e⟩ := List.getElem?_eq_some_iff.1 h
  rw [List.drop_eq_getElem_cons hk, e]
theorem cellsW_col (D R : List Wd) (x : Wd) (c : Nat) : (cellsW (D ++ x :: R)).set (D.length * 3 + 2) (.int .i64 c) = cellsW (D ++ ⟨x.text, x.line, c⟩ :: R) := by
  rw [cellsW_append, cellsW_append, List.set_append_right _ _ (by rw [cellsW_length]; omega), cellsW_length, Nat.add_sub_cancel_left]
  rfl

end Go.Proofs.Ytnjhjjbdihbjbaa
