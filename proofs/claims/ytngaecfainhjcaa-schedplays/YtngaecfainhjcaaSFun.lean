/-
  What each call of the program's tasks comes to.
-/
import Derived.Test.YtngaecfainhjcaaSRow
import Derived.Deep.DeepCutAuto
namespace Go.Proofs.Ytngaecfainhjcaa
open Go.RowKit A

theorem find_any (S B P base : Nat) (v : Value) (s : Sc) (hl : s.run.length ≤ 1000) (t : Int) (w : World) (hS : AtS w S B P base v s) :
    Calls Try.prog 36 #[.pointer (some ⟨S, 0, none⟩), .int .i64 t] w fun e w' => e = .returned (.int .i64 (idxR s.run t)) ∧ w' = w := by
  obtain ⟨_, c1, _⟩ := hS.cells
  have H1 := index_row hS.r hl t
  have HI := hide H1
  clear H1 hS
  generalize idxR s.run t = x at *
  go_enter Try.func36, Try.ntmps36
  go_wp2_with fail
  refine HI.out.mono ?_
  rintro e w2 ⟨rfl, hw2⟩
  subst hw2
  go_wp2
  go_ret
  exact ⟨rfl, rfl⟩

theorem place_sany (S B P base K : Nat) (v : Value) (s : Sc) (t : Int) (ht : t ≤ 9223372036854775807) (hK : K ≤ 1000000) (hf : Fit K s.a) (w : World) (hS : AtS w S B P base v s) :
    Calls Try.prog 27 #[.pointer (some ⟨S, 0, none⟩), .int .i64 t] w fun e w' => e = .returned (.int .i64 (placeOf s.a t)) ∧ w' = w := by
  obtain ⟨c0, _, _⟩ := hS.cells
  have HI := hide (place_any B P K s.a t ht hK w hf hS.a)
  clear hS hf
  generalize placeOf s.a t = x at *
  go_enter Try.func27, Try.ntmps27
  go_wp2_with fail
  refine HI.out.mono ?_
  rintro e w2 ⟨rfl, hw2⟩
  subst hw2
  go_wp2
  go_ret
  exact ⟨rfl, rfl⟩

theorem pick_any (S B P base : Nat) (v : Value) (s : Sc) (hl : s.run.length ≤ 1000) (n : Int) (hn : -9223372036854775808 ≤ n ∧ n ≤ 9223372036854775807) (w : World) (hS : AtS w S B P base v s) :
    Calls Try.prog 22 #[.pointer (some ⟨S, 0, none⟩), .int .i64 n] w fun e w' => e = .returned (.tuple #[.int .i64 (pickH s n), .bool (pickB s n)]) ∧ w' = w := by
  obtain ⟨_, c1, _⟩ := hS.cells
  obtain ⟨av, ac, rfl⟩ := owns_slice hS.r
  by_cases h : 0 ≤ n ∧ n < s.run.length
  · have e1 : pickH s n = ((gs_ s.run n.toNat : Nat) : Int) := if_pos h
    have e2 : pickB s n = true := by unfold pickB; exact decide_eq_true h
    rw [e1, e2]
    obtain ⟨k, hk⟩ : ∃ k : Nat, n = (k : Int) := ⟨n.toNat, by omega⟩
    have hkl : k < s.run.length := by omega
    obtain ⟨g, c, hv, _, _, hcell, _⟩ := row_open hS.r (by omega)
    simp only [Value.slice.injEq, true_and] at hv
    obtain ⟨rfl, rfl⟩ := hv
    obtain ⟨q0, _⟩ := hcell k hkl
    rw [hk, Int.toNat_natCast]
    have b1 : (k : Int) < (s.run.length : Int) := by omega
    have b2 : ¬ (s.run.length : Int) ≤ (k : Int) := by omega
    have b3 : ¬ (k : Int) < 0 := by omega
    clear hcell hS hn h e1 e2 hk
    generalize gs_ s.run k = X at *
    go_enter Try.func22, Try.ntmps22
    go_wp2
    go_ret2
    exact ⟨rfl, rfl⟩
  · have e1 : pickH s n = 0 := if_neg h
    have e2 : pickB s n = false := by unfold pickB; exact decide_eq_false h
    rw [e1, e2]
    clear hS e1 e2
    by_cases h0 : n < 0
    · clear h
      go_enter Try.func22, Try.ntmps22
      go_wp2
      go_ret2
      exact ⟨rfl, rfl⟩
    · have h1 : (s.run.length : Int) ≤ n := by omega
      clear h
      go_enter Try.func22, Try.ntmps22
      go_wp2
      go_ret2
      exact ⟨rfl, rfl⟩

theorem run_any (S B P base : Nat) (v : Value) (s : Sc) (hl : s.run.length ≤ 1000) (w : World) (hS : AtS w S B P base v s) :
    Calls Try.prog 25 #[.pointer (some ⟨S, 0, none⟩)] w fun e w' => Owned s.run w e w' := by
  obtain ⟨_, c1, _⟩ := hS.cells
  have HI := hide (clone_row hS.r hl)
  clear hS
  go_enter Try.func25, Try.ntmps25
  go_wp2_with fail
  refine HI.out.mono ?_
  rintro e w2 ⟨u, rfl, h1, h2⟩
  go_wp2
  go_ret
  exact ⟨u, rfl, h1, h2⟩

theorem tasks_any (S B P base K : Nat) (v : Value) (s : Sc) (hK : K ≤ 1000000) (hf : Fit K s.a) (w : World) (hS : AtS w S B P base v s) :
    Calls Try.prog 26 #[.pointer (some ⟨S, 0, none⟩)] w fun e w' => Owned (liveTo s.a s.a.n) w e w' := by
  obtain ⟨c0, _, _⟩ := hS.cells
  have HI := hide (live_any B P K s.a hK w hf hS.a)
  clear hS hf
  go_enter Try.func26, Try.ntmps26
  go_wp2_with fail
  refine HI.out.mono ?_
  rintro e w2 ⟨u, rfl, h1, h2⟩
  go_wp2
  go_ret
  exact ⟨u, rfl, h1, h2⟩

end Go.Proofs.Ytngaecfainhjcaa
