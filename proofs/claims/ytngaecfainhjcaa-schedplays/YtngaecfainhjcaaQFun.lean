/-
  What the document's Pick and Block of tasks come to.
-/
import Derived.Test.YtngaecfainhjcaaQMem
import Derived.Test.YtngaecfainhjcaaSWaitsM
namespace Go.Proofs.Ytngaecfainhjcaa
open Go.RowKit A

theorem rpick_any (Q R base : Nat) (v1 v2 v3 u : Value) (r : Rf) (s : Sc) (n : Int) (hn : -9223372036854775808 ≤ n ∧ n ≤ 9223372036854775807) (w : World) (hQ : AtQ w Q R base v1 v2 v3 u r s.run) :
    Calls Try.prog 23 #[.pointer (some ⟨Q, 0, none⟩), .int .i64 n] w fun e w' => e = .returned (.tuple #[.int .i64 (pickH s n), .bool (pickB s n)]) ∧ w' = w := by
  obtain ⟨_, c1, _⟩ := hQ.cells
  obtain ⟨av, ac, rfl⟩ := owns_slice hQ.ro
  by_cases h : 0 ≤ n ∧ n < s.run.length
  · have e1 : pickH s n = ((gs_ s.run n.toNat : Nat) : Int) := if_pos h
    have e2 : pickB s n = true := by unfold pickB; exact decide_eq_true h
    rw [e1, e2]
    obtain ⟨k, hk⟩ : ∃ k : Nat, n = (k : Int) := ⟨n.toNat, by omega⟩
    have hkl : k < s.run.length := by omega
    obtain ⟨g, c, hv, _, _, hcell, _⟩ := row_open hQ.ro (by omega)
    simp only [Value.slice.injEq, true_and] at hv
    obtain ⟨rfl, rfl⟩ := hv
    obtain ⟨q0, _⟩ := hcell k hkl
    rw [hk, Int.toNat_natCast]
    have b1 : (k : Int) < (s.run.length : Int) := by omega
    have b2 : ¬ (s.run.length : Int) ≤ (k : Int) := by omega
    have b3 : ¬ (k : Int) < 0 := by omega
    clear hcell hQ hn h e1 e2 hk
    generalize gs_ s.run k = X at *
    go_enter Try.func23, Try.ntmps23
    go_wp2
    go_ret2
    exact ⟨rfl, rfl⟩
  · have e1 : pickH s n = 0 := if_neg h
    have e2 : pickB s n = false := by unfold pickB; exact decide_eq_false h
    rw [e1, e2]
    clear hQ e1 e2
    by_cases h0 : n < 0
    · clear h
      go_enter Try.func23, Try.ntmps23
      go_wp2
      go_ret2
      exact ⟨rfl, rfl⟩
    · have h1 : (s.run.length : Int) ≤ n := by omega
      clear h
      go_enter Try.func23, Try.ntmps23
      go_wp2
      go_ret2
      exact ⟨rfl, rfl⟩

theorem rm_lt {l : List Nat} {t : Int} (h : inB l t = true) : (rmOf l t).length < l.length := by
  obtain ⟨n, hn, e⟩ := inB_true.1 h
  have h1 := rm_len l t
  rcases Nat.lt_or_ge (rmOf l t).length l.length with h2 | h2
  · exact h2
  · have e2 : rmOf l t = l := (List.filter_sublist (l := l)).eq_of_length (by show (rmOf l t).length = l.length; omega)
    have h3 : n ∈ rmOf l t := by rw [e2]; exact hn
    exact absurd e (mem_rm.1 h3).2

set_option maxHeartbeats 2000000 in
theorem rblock_any (Q R base : Nat) (v1 v2 v3 u : Value) (r : Rf) (l : List Nat) (hl : l.length ≤ 100) (t : Int) (w : World) (hbs : base ≤ w.heap.size) (hQ : AtQ w Q R base v1 v2 v3 u r l) :
    Calls Try.prog 19 #[.pointer (some ⟨Q, 0, none⟩), .int .i64 t] w fun e w' => e = .returned (.bool (inB l t)) ∧ NowQ Q R base v1 v2 v3 u r (rmOf l t) w w' := by
  obtain ⟨i3, hi, hz0, hz1, hz2⟩ := info_parts info3
  obtain ⟨av, ac, rfl⟩ := owns_slice hQ.ro
  have HQ := hide hQ
  have hQl := hQ.ltQ
  clear hQ
  go_enter Try.func19, Try.ntmps19
  go_wp2
  go_loopw [5, 6] (fun v i wr => ∃ k : Nat, k ≤ l.length ∧ i = .int .i64 k ∧ wr.ownsRow w.heap.size 3 1 v (rmOf (l.take k) t).length (cI (rmOf (l.take k) t)) ∧ Below w.heap.size w wr) (fun _ i _ => l.length - (intOf i).toNat)
  case atStart => exact ⟨0, Nat.zero_le _, rfl, World.ownsRow_lit w #[] 0 (Nat.le_refl _) (by unfold maxLen; omega) rfl, (Below.refl _ _).alloc (Nat.le_refl _) _⟩
  case round =>
    obtain ⟨k, hk, rfl, hw, hnx⟩ := hrel
    have hz := hnx.size
    obtain ⟨_, c1, cf⟩ := (HQ.out.below hnx).cells
    have cf1 := cf 1
    clear cf
    by_cases hlt : k < l.length
    · obtain ⟨g, c, hv, _, hgl, hcell, _⟩ := row_open (HQ.out.below hnx).ro (by omega)
      simp only [Value.slice.injEq, true_and] at hv
      obtain ⟨rfl, rfl⟩ := hv
      obtain ⟨e1, _⟩ := hcell k hlt
      clear hcell
      have hi1 : (k : Int) < (l.length : Int) := by omega
      have hi0 : (0 : Int) ≤ (k : Int) := by omega
      have hlen : (rmOf (l.take k) t).length ≤ 100 := by have := rm_len (l.take k) t; rw [List.length_take] at this; omega
      have e := rm_take l t k hlt
      generalize gs_ l k = X at *
      by_cases hX : (X : Int) = t
      · have hX' : ((X : Int) != t) = false := by simp [hX]
        rw [if_pos hX, List.append_nil] at e
        have HW : Hid (wr.ownsRow w.heap.size 3 1 u5 (rmOf (l.take (k + 1)) t).length (cI (rmOf (l.take (k + 1)) t))) := by rw [e]; exact hw
        clear hw e hX
        go_wp2
        go_roundw
        case rel => exact ⟨k + 1, by omega, by go_num, HW.out, hnx⟩
        case measure => simp [intOf]; omega
      · have hX' : ((X : Int) != t) = true := by simpa using hX
        rw [if_neg hX] at e
        have HE := hide e
        clear e hX
        generalize rmOf (l.take k) t = D at *
        go_wp2_with (at_builtin; refine wpList_append_own_at _ rfl _ _ 30 rfl w.heap.size 3 i3 (.int .i64 0) 1 8 Try.underlying30 hi hz0 hz1 hz2 rfl (by decide) _ _ _ rfl (hw.alloc _) ⟨wr.heap.size, 0, none⟩ 1 1 [.int .i64 (X : Int)] rfl rfl (newsI (by simp [go_sem])) (onesI _) (by unfold maxLen; omega) (by omega) (by simp; omega) ?_)
        intro v' w5 hown hgrow _ _
        have hnx3 := below_owns hnx hz hw (Nat.le_refl _) hgrow
        have HO : Hid (w5.ownsRow w.heap.size 3 1 v' (rmOf (l.take (k + 1)) t).length (cI (rmOf (l.take (k + 1)) t))) := by
          rw [HE.out, cI_snoc, List.length_append]; exact hown
        clear hown hgrow hw
        go_wp2
        go_roundw
        case rel => exact ⟨k + 1, by omega, by go_num, HO.out, hnx3⟩
        case measure => simp [intOf]; omega
    · have e : l.take k = l := List.take_of_length_le (by omega)
      rw [e] at hw
      obtain ⟨aw, cw, hwv⟩ := owns_slice hw
      subst hwv
      have HN := hide (HQ.out.setRun hnx (owns_base hw hbs) (fun j hj => (hw.lt j hj).1))
      have hlen := rm_len l t
      have HB : Hid (decide ((rmOf l t).length < l.length) = inB l t) := by
        show decide _ = _
        cases hb : inB l t
        · rw [rm_none hb]; simp
        · have := rm_lt hb; exact decide_eq_true this
      clear hw e
      generalize hD : rmOf l t = D at *
      have HD := hide hD
      clear hD
      go_wp2
      go_ret
      refine ⟨?_, ?_⟩
      · show Ending.returned (Value.bool (decide (D.length < l.length))) = _
        rw [HB.out]
      · rw [HD.out]
        exact HN.out

end Go.Proofs.Ytngaecfainhjcaa
