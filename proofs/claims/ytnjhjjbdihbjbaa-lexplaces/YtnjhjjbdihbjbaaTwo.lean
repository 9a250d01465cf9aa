/-
  The walk of the law LexTwo: two texts, one in the lines behind the other.
-/
import Derived.Test.YtnjhjjbdihbjbaaAwake
namespace Go.Proofs.Ytnjhjjbdihbjbaa
open Go.RowKit

/-- How many lines end in it. -/
def nl (cs : List (List UInt8)) : Nat := cs.count [10]
theorem nl_cons (c : List UInt8) (cs : List (List UInt8)) : nl (c :: cs) = nl cs + (if c = [10] then 1 else 0) := by
  unfold nl
  rw [List.count_cons]
  simp
theorem nextL_eq (line : Nat) (c : List UInt8) : nextL line c = line + (if c = [10] then 1 else 0) := by unfold nextL; split <;> rfl

theorem run_lines : ∀ (cs : List (List UInt8)) (st : St), (run st cs).line = st.line + nl cs
  | [], _ => rfl
  | c :: cs, st => by
    rw [run_cons, run_lines cs, nl_cons]
    have : (step st c).line = nextL st.line c := by unfold step; split <;> rfl
    rw [this, nextL_eq]
    omega

theorem bad_past (ds : List (List UInt8)) : ∀ (cs : List (List UInt8)) (line col : Nat), okAll cs → bad (cs ++ [10] :: ds) line col = bad ds (line + nl cs + 1) 1
  | [], line, col, _ => by
    show (if okC [10] = true then bad ds (nextL line [10]) (nextC col [10]) else (line, col)) = _
    rfl
  | c :: cs, line, col, h => by
    rw [okAll_cons] at h
    rw [List.cons_append]
    show (if okC c = true then bad (cs ++ [10] :: ds) (nextL line c) (nextC col c) else (line, col)) = _
    rw [if_pos h.1, bad_past ds cs _ _ h.2, nl_cons, nextL_eq, show line + (if c = [10] then 1 else 0) + nl cs + 1 = line + (nl cs + if c = [10] then 1 else 0) + 1 by omega]
theorem bad_shift (k : Nat) : ∀ (cs : List (List UInt8)) (line col : Nat), ¬ okAll cs → bad cs (line + k) col = ((bad cs line col).1 + k, (bad cs line col).2)
  | [], _, _, h => by exfalso; apply h; intro c hc; cases hc
  | c :: cs, line, col, h => by
    show (if okC c = true then bad cs (nextL (line + k) c) (nextC col c) else (line + k, col)) = ((if okC c = true then bad cs (nextL line c) (nextC col c) else (line, col)).1 + k, (if okC c = true then bad cs (nextL line c) (nextC col c) else (line, col)).2)
    by_cases hc : okC c = true
    · rw [if_pos hc, if_pos hc, nextL_eq, nextL_eq, show line + k + (if c = [10] then 1 else 0) = line + (if c = [10] then 1 else 0) + k by omega]
      exact bad_shift k cs _ _ fun hh => h (okAll_cons.2 ⟨hc, hh⟩)
    · rw [if_neg hc, if_neg hc]

def shiftW (k : Nat) (x : Wd) : Wd := ⟨x.text, x.line + k, x.col⟩
def St.shift (k : Nat) (st : St) : St := ⟨st.done.map (shiftW k), st.cur.map (shiftW k), st.line + k, st.col, st.rem⟩
theorem toList_map (o : Option Wd) (f : Wd → Wd) : (o.map f).toList = o.toList.map f := by cases o <;> rfl
theorem all_shift (k : Nat) (st : St) : (st.shift k).all = st.all.map (shiftW k) := by
  simp [St.all, St.shift, toList_map]
theorem step_shift (k : Nat) (st : St) (c : List UInt8) : step (st.shift k) c = (step st c).shift k := by
  have hn : nextL (st.line + k) c = nextL st.line c + k := by rw [nextL_eq, nextL_eq]; omega
  cases hi : inN (remN st.rem c) c
  · rw [step_out (st := st) hi, step_out (st := st.shift k) hi, all_shift]
    show St.mk _ _ (nextL (st.line + k) c) _ _ = _
    rw [hn]; rfl
  · rw [step_in (st := st) hi, step_in (st := st.shift k) hi]
    show St.mk _ _ (nextL (st.line + k) c) _ _ = _
    rw [hn]
    obtain ⟨D, cur, l, co, r⟩ := st
    cases cur <;> rfl
theorem run_shift (k : Nat) : ∀ (cs : List (List UInt8)) (st : St), run (st.shift k) cs = (run st cs).shift k
  | [], _ => rfl
  | c :: cs, st => by rw [run_cons, run_cons, step_shift, run_shift k cs]
theorem count_chunk (c : List UInt8) (h0 : c ≠ []) (h1 : 1 < c.length → ∀ x ∈ c, 128 ≤ x.toNat) : c.count 10 = if c = [10] then 1 else 0 := by
  match c, h0, h1 with
  | [a], _, _ =>
    by_cases ha : a = 10
    · subst ha; rfl
    · have : ¬ [a] = [10] := fun e => ha (by injection e)
      rw [if_neg this]
      simp [ha]
  | a :: b :: t, _, h1 =>
    have hh := h1 (by simp)
    rw [if_neg (by simp), List.count_eq_zero]
    intro hm
    have := hh 10 hm
    exact absurd this (by decide)
theorem count_flat : ∀ (cs : List (List UInt8)), (∀ c ∈ cs, c ≠ [] ∧ (1 < c.length → ∀ x ∈ c, 128 ≤ x.toNat)) → cs.flatten.count 10 = nl cs
  | [], _ => rfl
  | c :: cs, h => by
    rw [List.flatten_cons, List.count_append, nl_cons, count_flat cs (fun c' hc' => h c' (by simp [hc'])), count_chunk c (h c (by simp)).1 (h c (by simp)).2]
    omega
theorem nl_chop (l : List UInt8) : nl (chop l) = l.count 10 := by
  rw [← count_flat (chop l) (fun c hc => ⟨(chop_each _ l (Nat.le_refl _) c hc).1, (chop_each _ l (Nat.le_refl _) c hc).2.2⟩), chop_join _ l (Nat.le_refl _)]

theorem words_two (a b : List UInt8) : wordsOf (a ++ 10 :: b) = wordsOf a ++ (wordsOf b).map (shiftW (1 + a.count 10)) := by
  unfold wordsOf
  rw [chop_at 10 (by decide), run_append, run_cons, step_end, run_lines, run_ahead_all, nl_chop]
  congr 1
  rw [← all_shift, ← run_shift]
  have : start.shift (1 + a.count 10) = ⟨[], none, start.line + a.count 10 + 1, 1, false⟩ := by
    simp [start, St.shift]
    omega
  rw [this]

theorem nextC_le (col : Nat) (c : List UInt8) : nextC col c ≤ col + 1 := by unfold nextC; split <;> omega
theorem nextL_le (line : Nat) (c : List UInt8) : nextL line c ≤ line + 1 := by unfold nextL; split <;> omega
theorem bad_le : ∀ (cs : List (List UInt8)) (line col M : Nat), line + cs.length ≤ M → (bad cs line col).1 ≤ M
  | [], _, _, _, _ => Nat.zero_le _
  | c :: cs, line, col, M, h => by
    simp only [List.length_cons] at h
    show (if okC c = true then bad cs (nextL line c) (nextC col c) else (line, col)).1 ≤ M
    have := nextL_le line c
    split
    · exact bad_le cs _ _ M (by omega)
    · show line ≤ M; omega
/-- No word's place is beyond the text's runes. -/
def Near (M : Nat) (ws : List Wd) : Prop := ∀ x ∈ ws, x.line ≤ M ∧ x.col ≤ M
theorem run_near (M : Nat) : ∀ (cs : List (List UInt8)) (st : St), st.line + cs.length ≤ M → st.col + cs.length ≤ M → Near M st.all → Near M (run st cs).all
  | [], _, _, _, h => h
  | c :: cs, st, h1, h2, h => by
    simp only [List.length_cons] at h1 h2
    have n1 := nextL_le st.line c
    have n2 := nextC_le st.col c
    rw [run_cons]
    cases hi : inN (remN st.rem c) c
    · rw [step_out hi]
      exact run_near M cs _ (by show nextL st.line c + _ ≤ M; omega) (by show nextC st.col c + _ ≤ M; omega) (by rw [all_none]; exact h)
    · rw [step_in hi]
      refine run_near M cs _ (by show nextL st.line c + _ ≤ M; omega) (by show nextC st.col c + _ ≤ M; omega) ?_
      intro x hx
      rcases List.mem_append.1 hx with hx | hx
      · exact h x (by simp [St.all, hx])
      · obtain rfl : x = more st.cur c st.line st.col := by simpa using hx
        cases hc : st.cur with
        | none => exact ⟨by show st.line ≤ M; omega, by show st.col ≤ M; omega⟩
        | some y => exact h y (by simp [St.all, hc])
theorem words_near (l : List UInt8) : Near (1 + l.length) (wordsOf l) := by
  have h2 := chop_len _ l (Nat.le_refl _)
  exact run_near _ (chop l) start (by show 1 + _ ≤ _; omega) (by show 1 + _ ≤ _; omega) (fun x hx => by cases hx)

/-- What the answers for two texts and for both of them come to. -/
theorem two_cases (a b : List UInt8) (h : a.length + b.length ≤ 4000) :
    (∃ p q p' q', ansOf a = ⟨[], 2, p, q⟩ ∧ ansOf (a ++ 10 :: b) = ⟨[], 2, p', q'⟩) ∨
    (∃ WA p q, ansOf a = ⟨WA, 0, 0, 0⟩ ∧ ansOf b = ⟨[], 2, p, q⟩ ∧ ansOf (a ++ 10 :: b) = ⟨[], 2, p + (1 + a.count 10), q⟩ ∧ p ≤ 5000) ∨
    (∃ WA WB, ansOf a = ⟨WA, 0, 0, 0⟩ ∧ ansOf b = ⟨WB, 0, 0, 0⟩ ∧ ansOf (a ++ 10 :: b) = ⟨WA ++ WB.map (shiftW (1 + a.count 10)), 0, 0, 0⟩ ∧ WA.length + WB.length ≤ 4000 ∧ ∀ x ∈ WB, x.line ≤ 5000) := by
  have hz : (a ++ 10 :: b).length ≤ 4096 := by simp; omega
  by_cases ha : okAll (chop a)
  · by_cases hb : okAll (chop b)
    · have hzk : okAll (chop (a ++ 10 :: b)) := by rw [chop_at 10 (by decide), okAll_append, okAll_cons]; exact ⟨ha, rfl, hb⟩
      refine Or.inr (Or.inr ⟨wordsOf a, wordsOf b, ans_ok (by omega) ha, ans_ok (by omega) hb, ?_, ?_, ?_⟩)
      · rw [ans_ok hz hzk, words_two]
      · have h1 := words_len a; have h2 := words_len b; omega
      · intro x hx
        have := (words_near b x hx).1
        omega
    · have hzk : ¬ okAll (chop (a ++ 10 :: b)) := by
        rw [chop_at 10 (by decide), okAll_append, okAll_cons]
        exact fun hh => hb hh.2.2
      refine Or.inr (Or.inl ⟨wordsOf a, _, _, ans_ok (by omega) ha, ans_bad (by omega) hb, ?_, ?_⟩)
      · rw [ans_bad hz hzk, chop_at 10 (by decide), bad_past _ _ _ _ ha, nl_chop, show 1 + a.count 10 + 1 = 1 + (1 + a.count 10) by omega, bad_shift _ _ _ _ hb]
      · have := chop_len _ b (Nat.le_refl _)
        exact bad_le _ 1 1 5000 (by omega)
  · have hzk : ¬ okAll (chop (a ++ 10 :: b)) := by
      rw [chop_at 10 (by decide), okAll_append]
      exact fun hh => ha hh.1
    exact Or.inl ⟨_, _, _, _, ans_bad (by omega) ha, ans_bad hz hzk⟩

end Go.Proofs.Ytnjhjjbdihbjbaa
