/-
  The fixed fact, and the walk of the law LexWords.
-/
import Derived.Test.YtnjhjjbdihbjbaaAlike
namespace Go.Proofs.Ytnjhjjbdihbjbaa
open Go.RowKit

theorem chop_text1 : chop [97, 32, 32, 98, 99, 35, 100, 10, 32, 101] = [[97], [32], [32], [98], [99], [35], [100], [10], [32], [101]] := by
  repeat rw [chop_low _ (by decide)]
  rw [chop_nil]
theorem chop_text2 : chop [97, 98, 10, 32, 99, 9, 100] = [[97], [98], [10], [32], [99], [9], [100]] := by
  repeat rw [chop_low _ (by decide)]
  rw [chop_nil]

def words1 : List Wd := [⟨[97], 1, 1⟩, ⟨[98, 99], 1, 4⟩, ⟨[101], 2, 2⟩]
theorem ans_text1 : ansOf [97, 32, 32, 98, 99, 35, 100, 10, 32, 101] = ⟨words1, 0, 0, 0⟩ := by
  unfold ansOf wordsOf
  rw [chop_text1]
  rfl
theorem ans_text2 : ansOf [97, 98, 10, 32, 99, 9, 100] = ⟨[], 2, 2, 3⟩ := by
  unfold ansOf wordsOf
  rw [chop_text2]
  rfl

/-- The list of the fixed fact, as it is laid. -/
theorem lit_row (w : World) (b : Nat) (hb : w.heap.size = b) : Row (w.alloc (.cells #[.string ⟨#[97]⟩, .int .i64 1, .int .i64 1, .string ⟨#[98, 99]⟩, .int .i64 1, .int .i64 4, .string ⟨#[101]⟩, .int .i64 2, .int .i64 2] 32)) (some ⟨b, 0, none⟩) words1 := by
  subst hb
  refine Or.inr ⟨_, rfl, by simp, fun i x hx => ?_⟩
  have hh := alloc_at w (.cells #[.string ⟨#[97]⟩, .int .i64 1, .int .i64 1, .string ⟨#[98, 99]⟩, .int .i64 1, .int .i64 4, .string ⟨#[101]⟩, .int .i64 2, .int .i64 2] 32)
  rw [Lib.cell_of_heap hh, Lib.cell_of_heap hh, Lib.cell_of_heap hh]
  match i, hx with
  | 0, hx => injection hx with hx; subst hx; exact ⟨rfl, rfl, rfl⟩
  | 1, hx => injection hx with hx; subst hx; exact ⟨rfl, rfl, rfl⟩
  | 2, hx => injection hx with hx; subst hx; exact ⟨rfl, rfl, rfl⟩
  | (i + 3), hx => simp [words1] at hx

set_option maxHeartbeats 1000000 in
theorem awake_any (w : World) : Calls Try.prog 9 #[] w fun e w' => e = .returned (.bool true) ∧ Below w.heap.size w w' := by
  have H1 := fun w => words_any ⟨#[97, 32, 32, 98, 99, 35, 100, 10, 32, 101]⟩ w
  have H2 := fun w => words_any ⟨#[97, 98, 10, 32, 99, 9, 100]⟩ w
  rw [ans_text1] at H1
  rw [ans_text2] at H2
  go_enter Try.func9, Try.ntmps9
  go_wp2_with fail
  refine (H1 _).mono ?_
  rintro e w1 ⟨v1, rfl, hO1, hB1⟩
  obtain ⟨a1, c1, rfl, _, hR1⟩ := hO1.row
  go_wp2_with fail
  refine (H2 _).mono ?_
  rintro e w2 ⟨v2, rfl, hO2, hB2⟩
  have HR : Hid (Row w2 a1 words1) := hR1.below hB2
  have hB3 := below_next hB1 hB2
  clear hO1 hO2 hR1 hB1 hB2
  go_wp2_with fail
  refine (alike_same _ _ _ _ words1 _ (by decide) (HR.out.below (below1 _ _)) (lit_row _ _ rfl)).mono ?_
  rintro e w3 ⟨rfl, hB4⟩
  have hB5 := below_next (below_next hB3 (below1 _ _)) hB4
  go_wp2
  go_ret
  exact ⟨rfl, hB5⟩

set_option maxHeartbeats 1000000 in
theorem words_walk (s : ByteArray) (w : World) : Calls Try.prog 3 #[.string s] w fun e w' => e = .returned (.bool true) ∧ Below w.heap.size w w' := by
  have H1 := fun w => words_any s w
  have H2 := fun w => ref_any s w
  have hl : (ansOf s.data.toList).list.length ≤ 5000 := by
    by_cases h : 4096 < s.data.toList.length
    · rw [ans_over h]; exact Nat.zero_le _
    · by_cases hk : okAll (chop s.data.toList)
      · rw [ans_ok (by omega) hk]
        have := words_len s.data.toList
        show (wordsOf s.data.toList).length ≤ 5000
        omega
      · rw [ans_bad (by omega) hk]; exact Nat.zero_le _
  generalize ansOf s.data.toList = A at *
  obtain ⟨L, E, P, Q⟩ := A
  have hl2 : L.length ≤ 5000 := hl
  have t1 : ((E : Int) == E) = true := by simp
  have t2 : ((P : Int) == P) = true := by simp
  have t3 : ((Q : Int) == Q) = true := by simp
  go_enter Try.func3, Try.ntmps3
  go_wp2_with fail
  refine (H1 _).mono ?_
  rintro e w1 ⟨v1, rfl, hO1, hB1⟩
  obtain ⟨a1, c1, rfl, _, hR1⟩ := hO1.row
  go_wp2_with fail
  refine (H2 _).mono ?_
  rintro e w2 ⟨v2, rfl, hO2, hB2⟩
  obtain ⟨a2, c2, rfl, _, hR2⟩ := hO2.row
  have HR : Hid (Row w2 a1 L ∧ Row w2 a2 L) := ⟨hR1.below hB2, hR2⟩
  have hB3 := below_next hB1 hB2
  clear hO1 hO2 hR1 hR2 hB1 hB2 hl
  go_wp2_with fail
  refine (awake_any _).mono ?_
  rintro e w3 ⟨rfl, hB4⟩
  have hB5 := below_next hB3 hB4
  go_wp2_with fail
  refine (alike_same _ _ _ _ L _ hl2 (HR.out.1.below hB4) (HR.out.2.below hB4)).mono ?_
  rintro e w4 ⟨rfl, hB6⟩
  have hB7 := below_next hB5 hB6
  go_wp2
  go_ret
  exact ⟨rfl, hB7⟩

end Go.Proofs.Ytnjhjjbdihbjbaa
