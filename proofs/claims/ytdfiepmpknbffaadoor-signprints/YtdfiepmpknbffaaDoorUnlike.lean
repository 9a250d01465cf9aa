/-
  SignUnlike, the law's walk: labels that may be have the same text just if they are one.
-/
import Derived.Test.YtdfiepmpknbffaaDoorAwake
namespace Go.Proofs.YtdfiepmpknbffaaDoor
open Go.RowKit

set_option maxHeartbeats 1000000 in
theorem unlike_bad1 (al ac bl bc : Int) (ha : goodB al ac = false) (w : World) (t : ByteArray) (f : Int) (hP : ∀ w, Calls Tryd.prog 12 #[.agg #[.int .i64 bl, .int .i64 bc]] w fun e w' => e = .returned (.tuple #[.string t, .int .i64 f]) ∧ Below w.heap.size w w') :
    Calls Tryd.prog 6 #[.agg #[.int .i64 al, .int .i64 ac], .agg #[.int .i64 bl, .int .i64 bc]] w fun e w' => e = .returned (.bool true) ∧ Below w.heap.size w w' := by
  go_enter Tryd.func6, Tryd.ntmps6
  go_wp2_with fail
  refine (print_no _ _ ha _).mono ?_
  rintro e w1 ⟨rfl, hB⟩
  obtain ⟨hc, hf⟩ := bcell hB
  go_wp2_with fail
  refine (hP _).mono ?_
  rintro e w2 ⟨rfl, hb⟩
  replace hB := below_next hB hb
  clear hb hc hf
  go_wp2_with fail
  refine (awake_any _).mono ?_
  rintro e w3 ⟨rfl, hb⟩
  go_wp2
  go_ret
  exact ⟨rfl, (below2 _ _ _).trans ((below_next hB hb).mono (by simp; omega))⟩

set_option maxHeartbeats 1000000 in
theorem unlike_bad2 (al ac : Nat) (bl bc : Int) (h1 : al ≤ 7) (h2 : ac < 65536) (hb : goodB bl bc = false) (w : World) :
    Calls Tryd.prog 6 #[.agg #[.int .i64 al, .int .i64 ac], .agg #[.int .i64 bl, .int .i64 bc]] w fun e w' => e = .returned (.bool true) ∧ Below w.heap.size w w' := by
  obtain ⟨t, ht⟩ : ∃ t, t = textB al ac := ⟨_, rfl⟩
  have hP := fun w => print_yes al ac h1 h2 w
  rw [← ht] at hP
  clear ht
  go_enter Tryd.func6, Tryd.ntmps6
  go_wp2_with fail
  refine (hP _).mono ?_
  rintro e w1 ⟨rfl, hB⟩
  obtain ⟨hc, hf⟩ := bcell hB
  go_wp2_with fail
  refine (print_no _ _ hb _).mono ?_
  rintro e w2 ⟨rfl, hb⟩
  replace hB := below_next hB hb
  clear hb hc hf
  go_wp2_with fail
  refine (awake_any _).mono ?_
  rintro e w3 ⟨rfl, hb⟩
  go_wp2
  go_ret
  exact ⟨rfl, (below2 _ _ _).trans ((below_next hB hb).mono (by simp; omega))⟩

set_option maxHeartbeats 1000000 in
theorem unlike_same (al ac : Nat) (h1 : al ≤ 7) (h2 : ac < 65536) (w : World) :
    Calls Tryd.prog 6 #[.agg #[.int .i64 al, .int .i64 ac], .agg #[.int .i64 al, .int .i64 ac]] w fun e w' => e = .returned (.bool true) ∧ Below w.heap.size w w' := by
  obtain ⟨t, ht⟩ : ∃ t, t = textB al ac := ⟨_, rfl⟩
  have hP := fun w => print_yes al ac h1 h2 w
  rw [← ht] at hP
  clear ht
  go_enter Tryd.func6, Tryd.ntmps6
  go_wp2_with fail
  refine (hP _).mono ?_
  rintro e w1 ⟨rfl, hB⟩
  obtain ⟨hc, hf⟩ := bcell hB
  go_wp2_with fail
  refine (hP _).mono ?_
  rintro e w2 ⟨rfl, hb⟩
  replace hB := below_next hB hb
  clear hb hc hf
  go_wp2_with fail
  refine (awake_any _).mono ?_
  rintro e w3 ⟨rfl, hb⟩
  replace hB := below_next hB hb
  clear hb
  obtain ⟨hc, hf⟩ := bcell hB
  go_wp2
  go_ret
  exact ⟨rfl, (below2 _ _ _).trans (hB.mono (by simp; omega))⟩

set_option maxHeartbeats 1000000 in
theorem unlike_other (al ac bl bc : Nat) (h1 : al ≤ 7) (h2 : ac < 65536) (h3 : bl ≤ 7) (h4 : bc < 65536) (hne : ¬ (al = bl ∧ ac = bc)) (w : World) :
    Calls Tryd.prog 6 #[.agg #[.int .i64 al, .int .i64 ac], .agg #[.int .i64 bl, .int .i64 bc]] w fun e w' => e = .returned (.bool true) ∧ Below w.heap.size w w' := by
  have ht := list_ne (fun e => hne (textB_inj al ac bl bc h1 h2 h3 h4 e))
  have hP := fun w => print_yes al ac h1 h2 w
  have hQ := fun w => print_yes bl bc h3 h4 w
  generalize textB al ac = s at ht hP
  generalize textB bl bc = t at ht hQ
  have hd : ((al : Int) == bl) = false ∨ ((al : Int) == bl) = true ∧ ((ac : Int) == bc) = false := by
    by_cases e1 : al = bl
    · exact Or.inr ⟨by simp [e1], by simp; exact fun e2 => hne ⟨e1, by omega⟩⟩
    · exact Or.inl (by simp; omega)
  clear hne
  rcases hd with hd | ⟨hd, hd'⟩
  all_goals
    go_enter Tryd.func6, Tryd.ntmps6
    go_wp2_with fail
    refine (hP _).mono ?_
    rintro e w1 ⟨rfl, hB⟩
    obtain ⟨hc, hf⟩ := bcell hB
    go_wp2_with fail
    refine (hQ _).mono ?_
    rintro e w2 ⟨rfl, hb⟩
    replace hB := below_next hB hb
    clear hb hc hf
    go_wp2_with fail
    refine (awake_any _).mono ?_
    rintro e w3 ⟨rfl, hb⟩
    replace hB := below_next hB hb
    clear hb
    obtain ⟨hc, hf⟩ := bcell hB
    go_wp2
    go_ret
    exact ⟨rfl, (below2 _ _ _).trans (hB.mono (by simp; omega))⟩

theorem good_nats {l c : Int} (h : goodB l c = true) : ∃ a b : Nat, l = a ∧ c = b ∧ a ≤ 7 ∧ b < 65536 := by
  have := of_decide_eq_true h
  exact ⟨l.toNat, c.toNat, by omega, by omega, by omega, by omega⟩

theorem unlike_walk (al ac bl bc : Int) (w : World) :
    Calls Tryd.prog 6 #[.agg #[.int .i64 al, .int .i64 ac], .agg #[.int .i64 bl, .int .i64 bc]] w fun e w' => e = .returned (.bool true) ∧ Below w.heap.size w w' := by
  cases hb : goodB bl bc with
  | false =>
    cases ha : goodB al ac with
    | false => exact unlike_bad1 al ac bl bc ha w _ _ (print_no _ _ hb)
    | true =>
      obtain ⟨a, b, rfl, rfl, h1, h2⟩ := good_nats ha
      exact unlike_bad2 a b bl bc h1 h2 hb w
  | true =>
    obtain ⟨c, d, rfl, rfl, h3, h4⟩ := good_nats hb
    cases ha : goodB al ac with
    | false => exact unlike_bad1 al ac _ _ ha w _ _ (print_yes c d h3 h4)
    | true =>
      obtain ⟨a, b, rfl, rfl, h1, h2⟩ := good_nats ha
      by_cases e : a = c ∧ b = d
      · obtain ⟨rfl, rfl⟩ := e
        exact unlike_same a b h1 h2 w
      · exact unlike_other a b c d h1 h2 h3 h4 e w

end Go.Proofs.YtdfiepmpknbffaaDoor
