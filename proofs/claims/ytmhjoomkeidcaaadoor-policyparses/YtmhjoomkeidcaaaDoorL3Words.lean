/-
  What lex.Words comes to: the words of any text, or what is wrong, and where.
-/
import Derived.Test.YtmhjoomkeidcaaaDoorL3Split
namespace Go.Proofs.YtmhjoomkeidcaaaDoor.L3
open Go.RowKit

/-- The answer for a text: its words, what is wrong, and where. -/
structure Ans where
  list : List Wd
  e : Nat
  line : Nat
  col : Nat

def ansOf (l : List UInt8) : Ans :=
  if 4096 < l.length then ⟨[], 13, 0, 0⟩
  else if (bad (chop l) 1 1).1 = 0 then ⟨wordsOf l, 0, 0, 0⟩
  else ⟨[], 2, (bad (chop l) 1 1).1, (bad (chop l) 1 1).2⟩

theorem ans_over {l : List UInt8} (h : 4096 < l.length) : ansOf l = ⟨[], 13, 0, 0⟩ := if_pos h
theorem ans_ok {l : List UInt8} (h : l.length ≤ 4096) (hk : okAll (chop l)) : ansOf l = ⟨wordsOf l, 0, 0, 0⟩ := by
  unfold ansOf
  rw [if_neg (by omega), if_pos ((bad_iff (chop l) 1 1 (by omega) (by omega)).2 hk)]
theorem ans_bad {l : List UInt8} (h : l.length ≤ 4096) (hk : ¬ okAll (chop l)) : ansOf l = ⟨[], 2, (bad (chop l) 1 1).1, (bad (chop l) 1 1).2⟩ := by
  unfold ansOf
  rw [if_neg (by omega), if_neg (fun e => hk ((bad_iff (chop l) 1 1 (by omega) (by omega)).1 e))]

/-- What Words and the document's own answer return. -/
def Said (w : World) (A : Ans) (e : Ending) (w' : World) : Prop :=
  ∃ v, e = .returned (.tuple #[v, .int .i64 (A.e : Nat), .int .i64 (A.line : Nat), .int .i64 (A.col : Nat)]) ∧ Own w' w.heap.size v A.list ∧ Below w.heap.size w w'

set_option maxHeartbeats 1000000 in
theorem words_over (s : ByteArray) (h : (s.size : Int) > 4096) (w : World) : Calls Tryd.prog 31 #[.string s] w (Said w ⟨[], 13, 0, 0⟩) := by
  go_enter Tryd.func31, Tryd.ntmps31
  go_wp2
  exact bodyPost_ret (v := .tuple #[.slice none 0 0, .int .i64 13, .int .i64 0, .int .i64 0]) (by simp [results, Tryd.results31, go_sem]) rfl ⟨_, rfl, Own.nil _ _, Below.refl _ _⟩

set_option maxHeartbeats 1000000 in
theorem words_bad (s : ByteArray) (h : ¬ (s.size : Int) > 4096) (p q : Nat) (hb : bad (chop s.data.toList) 1 1 = (p, q)) (hp : (p : Int) > 0) (w : World) : Calls Tryd.prog 31 #[.string s] w (Said w ⟨[], 2, p, q⟩) := by
  have H := fun w => wrong_any s (by omega) w
  rw [hb] at H
  go_enter Tryd.func31, Tryd.ntmps31
  go_wp2_with fail
  refine (H _).mono ?_
  rintro e w1 ⟨rfl, hB⟩
  go_wp2
  exact bodyPost_ret (v := .tuple #[.slice none 0 0, .int .i64 2, .int .i64 p, .int .i64 q]) (by simp [results, Tryd.results31, go_sem]) rfl ⟨_, rfl, Own.nil _ _, hB⟩

set_option maxHeartbeats 1000000 in
theorem words_ok (s : ByteArray) (h : ¬ (s.size : Int) > 4096) (hok : okAll (chop s.data.toList)) (w : World) : Calls Tryd.prog 31 #[.string s] w (Said w ⟨wordsOf s.data.toList, 0, 0, 0⟩) := by
  have H := fun w => wrong_any s (by omega) w
  have H2 := fun w => split_any s (by omega) hok w
  rw [bad_ok _ _ _ hok] at H
  clear hok
  go_enter Tryd.func31, Tryd.ntmps31
  go_wp2_with fail
  refine (H _).mono ?_
  rintro e w1 ⟨rfl, hB⟩
  go_wp2_with fail
  refine (H2 _).mono ?_
  rintro e w2 ⟨v, rfl, hO, hB2⟩
  go_wp2
  exact bodyPost_ret (v := .tuple #[v, .int .i64 0, .int .i64 0, .int .i64 0]) (by simp [results, Tryd.results31, go_sem]) rfl ⟨_, rfl, hO.mono hB.size, below_next hB hB2⟩

theorem words_any (s : ByteArray) (w : World) : Calls Tryd.prog 31 #[.string s] w (Said w (ansOf s.data.toList)) := by
  by_cases h : (s.size : Int) > 4096
  · rw [ans_over (by rw [size_list]; omega)]; exact words_over s h w
  · have hl : s.data.toList.length ≤ 4096 := by rw [size_list]; omega
    by_cases hk : okAll (chop s.data.toList)
    · rw [ans_ok hl hk]; exact words_ok s h hk w
    · rw [ans_bad hl hk]
      have := bad_not (chop s.data.toList) 1 1 (by omega) (by omega) hk
      exact words_bad s h _ _ rfl (by omega) w

end Go.Proofs.YtmhjoomkeidcaaaDoor.L3
