/-
  The words of a text as the document has them, rune by rune, and the place of the first thing that may not be.
-/
import Derived.Test.YtmhjoomkeidcaaaDoorL3Decode
namespace Go.Proofs.YtmhjoomkeidcaaaDoor.L3
open Go.RowKit

/-- A word with its place. -/
structure Wd where
  text : List UInt8
  line : Nat
  col : Nat

/-- How far the words of a text are known: those that ended, the one that goes on, the next rune's place, and whether it stands in a remark. -/
structure St where
  done : List Wd
  cur : Option Wd
  line : Nat
  col : Nat
  rem : Bool

def St.all (st : St) : List Wd := st.done ++ st.cur.toList

def nextL (line : Nat) (c : List UInt8) : Nat := if c = [10] then line + 1 else line
def nextC (col : Nat) (c : List UInt8) : Nat := if c = [10] then 1 else col + 1
/-- Does a rune stand in a remark, given whether the one ahead of it does? -/
def remN (rem : Bool) (c : List UInt8) : Bool := decide (c = [35]) || (rem && !decide (c = [10]))
/-- Does a rune stand in a word, given whether it stands in a remark? -/
def inN (rem : Bool) (c : List UInt8) : Bool := !rem && !decide (c = [32]) && !decide (c = [10])
/-- A word that begins with a rune, or goes on with it. -/
def more (cur : Option Wd) (c : List UInt8) (line col : Nat) : Wd := match cur with
  | none => ⟨c, line, col⟩
  | some x => ⟨x.text ++ c, x.line, x.col⟩

def step (st : St) (c : List UInt8) : St :=
  if inN (remN st.rem c) c then ⟨st.done, some (more st.cur c st.line st.col), nextL st.line c, nextC st.col c, remN st.rem c⟩
  else ⟨st.done ++ st.cur.toList, none, nextL st.line c, nextC st.col c, remN st.rem c⟩

def run (st : St) (cs : List (List UInt8)) : St := cs.foldl step st
theorem run_nil (st : St) : run st [] = st := rfl
theorem run_cons (st : St) (c : List UInt8) (cs : List (List UInt8)) : run st (c :: cs) = run (step st c) cs := rfl
theorem run_append (st : St) (cs ds : List (List UInt8)) : run st (cs ++ ds) = run (run st cs) ds := by simp [run]

/-- The place of the first thing that may not be; 0, 0: there is none. -/
def bad : List (List UInt8) → Nat → Nat → Nat × Nat
  | [], _, _ => (0, 0)
  | c :: cs, line, col => if okC c = true then bad cs (nextL line c) (nextC col c) else (line, col)

def start : St := ⟨[], none, 1, 1, false⟩
def wordsOf (l : List UInt8) : List Wd := (run start (chop l)).all

def okAll (cs : List (List UInt8)) : Prop := ∀ c ∈ cs, okC c = true

theorem nextL_pos {line : Nat} (c : List UInt8) (h : 1 ≤ line) : 1 ≤ nextL line c := by unfold nextL; split <;> omega
theorem nextC_pos (col : Nat) (c : List UInt8) : 1 ≤ nextC col c := by unfold nextC; split <;> omega

theorem bad_ok : ∀ (cs : List (List UInt8)) (line col : Nat), okAll cs → bad cs line col = (0, 0)
  | [], _, _, _ => rfl
  | c :: cs, line, col, h => by
    unfold bad
    rw [if_pos (h c (by simp))]
    exact bad_ok cs _ _ fun c' hc' => h c' (by simp [hc'])
theorem bad_not : ∀ (cs : List (List UInt8)) (line col : Nat), 1 ≤ line → 1 ≤ col → ¬ okAll cs → 1 ≤ (bad cs line col).1 ∧ 1 ≤ (bad cs line col).2
  | [], _, _, _, _, h => by exfalso; apply h; intro c hc; cases hc
  | c :: cs, line, col, hl, hc, h => by
    unfold bad
    split
    · rename_i hk
      refine bad_not cs _ _ (nextL_pos c hl) (nextC_pos col c) fun hh => h fun c' hc' => ?_
      rcases List.mem_cons.1 hc' with rfl | hc'
      · exact hk
      · exact hh c' hc'
    · exact ⟨hl, hc⟩
theorem bad_iff (cs : List (List UInt8)) (line col : Nat) (hl : 1 ≤ line) (hc : 1 ≤ col) : (bad cs line col).1 = 0 ↔ okAll cs := by
  constructor
  · intro h
    refine Classical.byContradiction fun hn => ?_
    have := (bad_not cs line col hl hc hn).1
    omega
  · intro h; rw [bad_ok cs line col h]

/-- What is ahead stays ahead. -/
theorem step_ahead (D d : List Wd) (cur : Option Wd) (line col : Nat) (rem : Bool) (c : List UInt8) :
    step ⟨D ++ d, cur, line, col, rem⟩ c = ⟨D ++ (step ⟨d, cur, line, col, rem⟩ c).done, (step ⟨d, cur, line, col, rem⟩ c).cur, (step ⟨d, cur, line, col, rem⟩ c).line, (step ⟨d, cur, line, col, rem⟩ c).col, (step ⟨d, cur, line, col, rem⟩ c).rem⟩ := by
  unfold step
  simp only
  split <;> simp
theorem run_ahead (D : List Wd) : ∀ (cs : List (List UInt8)) (d : List Wd) (cur : Option Wd) (line col : Nat) (rem : Bool),
    run ⟨D ++ d, cur, line, col, rem⟩ cs = ⟨D ++ (run ⟨d, cur, line, col, rem⟩ cs).done, (run ⟨d, cur, line, col, rem⟩ cs).cur, (run ⟨d, cur, line, col, rem⟩ cs).line, (run ⟨d, cur, line, col, rem⟩ cs).col, (run ⟨d, cur, line, col, rem⟩ cs).rem⟩
  | [], _, _, _, _, _ => rfl
  | c :: cs, d, cur, line, col, rem => by
    rw [run_cons, run_cons, step_ahead]
    exact run_ahead D cs _ _ _ _ _
theorem run_ahead_all (D : List Wd) (cs : List (List UInt8)) (line col : Nat) (rem : Bool) : (run ⟨D, none, line, col, rem⟩ cs).all = D ++ (run ⟨[], none, line, col, rem⟩ cs).all := by
  have := run_ahead D cs [] none line col rem
  rw [List.append_nil] at this
  rw [this]
  simp [St.all]

theorem step_end (st : St) : step st [10] = ⟨st.all, none, st.line + 1, 1, false⟩ := by
  have h1 : remN st.rem [10] = false := by simp [remN]
  have h2 : inN false [10] = false := by simp [inN]
  unfold step
  rw [h1, h2]
  simp [nextL, nextC, St.all]

/-- Without a line's end the line stays. -/
theorem run_line : ∀ (cs : List (List UInt8)) (st : St), [10] ∉ cs → (run st cs).line = st.line
  | [], _, _ => rfl
  | c :: cs, st, h => by
    rw [run_cons, run_line cs _ (fun hc => h (by simp [hc]))]
    have hc : c ≠ [10] := fun e => h (by simp [e])
    have : nextL st.line c = st.line := by unfold nextL; rw [if_neg hc]
    unfold step
    split <;> exact this
/-- In a remark no word begins or goes on. -/
theorem run_rem : ∀ (cs : List (List UInt8)) (st : St), [10] ∉ cs → st.rem = true → (run st cs).all = st.all
  | [], _, _, _ => rfl
  | c :: cs, st, h, hr => by
    have hc : c ≠ [10] := fun e => h (by simp [e])
    have h1 : remN st.rem c = true := by unfold remN; rw [hr]; simp [hc]
    have hs : step st c = ⟨st.done ++ st.cur.toList, none, nextL st.line c, nextC st.col c, true⟩ := by
      unfold step; rw [h1]; rfl
    rw [run_cons, run_rem cs _ (fun hc => h (by simp [hc])) (by rw [hs]), hs]
    simp [St.all]
theorem step_hash (st : St) : (step st [35]).rem = true ∧ (step st [35]).all = st.all ∧ (step st [35]).line = st.line := by
  have h1 : remN st.rem [35] = true := by simp [remN]
  have hs : step st [35] = ⟨st.done ++ st.cur.toList, none, nextL st.line [35], nextC st.col [35], true⟩ := by
    unfold step; rw [h1]; rfl
  rw [hs]
  refine ⟨rfl, by simp [St.all], by simp [nextL]⟩

theorem mem_chop {x : UInt8} {l : List UInt8} (h : [x] ∈ chop l) : x ∈ l := by
  have h1 : x ∈ (chop l).flatten := List.mem_flatten.2 ⟨_, h, by simp⟩
  rwa [chop_join _ l (Nat.le_refl _)] at h1

/-- A text up to a byte. -/
def cut (x : UInt8) (l : List UInt8) : List UInt8 := l.takeWhile fun y => decide (y ≠ x)
theorem cut_not (x : UInt8) (l : List UInt8) : x ∉ cut x l := by
  unfold cut
  induction l with
  | nil => simp
  | cons y l ih =>
    by_cases hy : y = x
    · rw [List.takeWhile_cons_of_neg (by simpa using hy)]; simp
    · rw [List.takeWhile_cons_of_pos (by simpa using hy)]
      intro h
      rcases List.mem_cons.1 h with e | e
      · exact hy e.symm
      · exact ih e
theorem cut_all (x : UInt8) (l : List UInt8) (h : x ∉ l) : cut x l = l := by
  unfold cut
  induction l with
  | nil => rfl
  | cons y l ih =>
    have hy : y ≠ x := fun e => h (by simp [e])
    rw [List.takeWhile_cons_of_pos (by simpa using hy), ih (fun hh => h (by simp [hh]))]
theorem cut_at (x : UInt8) (l u : List UInt8) (h : x ∉ l) : cut x (l ++ x :: u) = l := by
  unfold cut
  induction l with
  | nil => simp
  | cons y l ih =>
    have hy : y ≠ x := fun e => h (by simp [e])
    rw [List.cons_append, List.takeWhile_cons_of_pos (by simpa using hy), ih (fun hh => h (by simp [hh]))]
theorem cut_part (x : UInt8) (l : List UInt8) (h : x ∈ l) : ∃ u, l = cut x l ++ x :: u := by
  induction l with
  | nil => cases h
  | cons y l ih =>
    by_cases hy : y = x
    · subst hy; exact ⟨l, by simp [cut]⟩
    · have hx : x ∈ l := by
        rcases List.mem_cons.1 h with e | e
        · exact (hy e.symm).elim
        · exact e
      obtain ⟨u, hu⟩ := ih hx
      refine ⟨u, ?_⟩
      have e : cut x (y :: l) = y :: cut x l := by unfold cut; rw [List.takeWhile_cons_of_pos (by simpa using hy)]
      rw [e, List.cons_append, ← hu]

/-- The words of one line. -/
def oneOf (l : List UInt8) (line : Nat) : List Wd := (run ⟨[], none, line, 1, false⟩ (chop (cut 35 l))).all

theorem run_one (l : List UInt8) (h : (10 : UInt8) ∉ l) (D : List Wd) (line : Nat) : (run ⟨D, none, line, 1, false⟩ (chop l)).all = D ++ oneOf l line := by
  rw [run_ahead_all]
  congr 1
  unfold oneOf
  by_cases hh : (35 : UInt8) ∈ l
  · obtain ⟨u, hu⟩ := cut_part 35 l hh
    generalize cut 35 l = p at hu ⊢
    subst hu
    have hn : [10] ∉ chop u := fun e => h (by simp [mem_chop e])
    rw [chop_at 35 (by decide) p u, run_append, run_cons, run_rem _ _ hn (step_hash _).1, (step_hash _).2.1]
  · rw [cut_all 35 l hh]

theorem run_more (l u : List UInt8) (h : (10 : UInt8) ∉ l) (D : List Wd) (line : Nat) : run ⟨D, none, line, 1, false⟩ (chop (l ++ 10 :: u)) = run ⟨D ++ oneOf l line, none, line + 1, 1, false⟩ (chop u) := by
  rw [chop_at 10 (by decide) l u, run_append, run_cons, step_end, run_one l h, run_line _ _ (fun e => h (mem_chop e))]

theorem chop_low (x : UInt8) (hx : x.toNat < 128) (u : List UInt8) : chop (x :: u) = [x] :: chop u := by
  have := chop_at x hx [] u
  rwa [chop_nil] at this

theorem okAll_append {cs ds : List (List UInt8)} : okAll (cs ++ ds) ↔ okAll cs ∧ okAll ds := by
  unfold okAll
  constructor
  · intro h; exact ⟨fun c hc => h c (by simp [hc]), fun c hc => h c (by simp [hc])⟩
  · rintro ⟨h1, h2⟩ c hc
    rcases List.mem_append.1 hc with hc | hc
    · exact h1 c hc
    · exact h2 c hc
theorem okAll_cons {c : List UInt8} {ds : List (List UInt8)} : okAll (c :: ds) ↔ okC c = true ∧ okAll ds := by
  unfold okAll
  simp

/-- A word as the machine holds it. -/
def cellsW (ws : List Wd) : List Value := ws.flatMap fun x => [Value.string ⟨x.text.toArray⟩, .int .i64 x.line, .int .i64 x.col]
theorem cellsW_length (ws : List Wd) : (cellsW ws).length = ws.length * 3 := by
  induction ws with
  | nil => rfl
  | cons x ws ih => simp [cellsW] at ih ⊢; omega
theorem cellsW_append (a b : List Wd) : cellsW (a ++ b) = cellsW a ++ cellsW b := by simp [cellsW]
theorem cellsW_at (ws : List Wd) (i : Nat) (x : Wd) (h : ws[i]? = some x) : (cellsW ws)[i * 3]? = some (.string ⟨x.text.toArray⟩) ∧ (cellsW ws)[i * 3 + 1]? = some (.int .i64 x.line) ∧ (cellsW ws)[i * 3 + 2]? = some (.int .i64 x.col) := by
  induction ws generalizing i with
  | nil => simp at h
  | cons y ws ih =>
    have e : cellsW (y :: ws) = .string ⟨y.text.toArray⟩ :: .int .i64 y.line :: .int .i64 y.col :: cellsW ws := rfl
    rw [e]
    cases i with
    | zero => simp at h; subst h; exact ⟨rfl, rfl, rfl⟩
    | succ i =>
      simp at h
      have := ih i h
      rw [show (i + 1) * 3 = i * 3 + 1 + 1 + 1 by omega]
      exact this

end Go.Proofs.YtmhjoomkeidcaaaDoor.L3
