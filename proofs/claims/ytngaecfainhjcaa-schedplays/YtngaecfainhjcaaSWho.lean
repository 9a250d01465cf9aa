/-
  The task of an act: some number.
-/
import Derived.Test.YtngaecfainhjcaaSTurnsM
namespace Go.Proofs.Ytngaecfainhjcaa
open Go.RowKit A

theorem u8_div {x : Int} (hx : 0 ≤ x ∧ x ≤ 255) : ∃ q r : Nat, (x.tdiv 4 = (q : Int) ∧ x.tmod 4 = (r : Int)) ∧ IntKind.u8.wrap (q : Int) = (q : Int) ∧ IntKind.u8.wrap (r : Int) = (r : Int) ∧ wrap64 (q : Int) = (q : Int) := by
  refine ⟨(x / 4).toNat, (x % 4).toNat, ⟨by rw [Int.tdiv_eq_ediv_of_nonneg hx.1]; omega, by rw [Int.tmod_eq_emod_of_nonneg hx.1]; omega⟩, ?_, ?_, ?_⟩
  · have h : (((x / 4).toNat : Nat) : Int) = x / 4 := by omega
    rw [h]; simp [IntKind.wrap, IntKind.bits, IntKind.signed]; omega
  · have h : (((x % 4).toNat : Nat) : Int) = x % 4 := by omega
    rw [h]; simp [IntKind.wrap, IntKind.bits, IntKind.signed]; omega
  · unfold wrap64; omega

set_option maxHeartbeats 2000000 in
theorem who_any (d h nn : Int) (hh : -9223372036854775808 ≤ h ∧ h ≤ 9223372036854775807) (hnn : 0 ≤ nn ∧ nn ≤ 255) (base : Nat) (r : Value) (L : List Nat) (hL : ∀ j, j < L.length → ((gs_ L j : Nat) : Int) ≤ 9223372036854775807) (w : World) (hO : w.ownsRow base 3 1 r L.length (cI L)) :
    Calls Try.prog 10 #[.agg #[.int .u8 d, .int .i64 h, .int .u8 nn], r] w fun e w' => (∃ t : Int, e = .returned (.int .i64 t) ∧ (-9223372036854775808 ≤ t ∧ t ≤ 9223372036854775807)) ∧ Below w.heap.size w w' := by
  obtain ⟨q, r4, ⟨e1, e2⟩, e3, e4, e5⟩ := u8_div hnn
  obtain ⟨ar, cr, hrv⟩ := owns_slice hO
  subst hrv
  have HB : Hid (Below w.heap.size w (w.alloc (.cells #[.int .u8 d, .int .i64 h, .int .u8 nn] 28))) := (Below.refl _ _).alloc (Nat.le_refl _) _
  have HH := hide hh
  by_cases h0 : 0 < L.length
  · obtain ⟨g, c, hv, _, hgl, hcell, _⟩ := row_open hO h0
    simp only [Value.slice.injEq, true_and] at hv
    obtain ⟨rfl, rfl⟩ := hv
    obtain ⟨j, hj, hjl⟩ := tmod_len (n := (q : Int)) (by omega) h0
    obtain ⟨q0, _⟩ := hcell j hjl
    have q1 : (w.alloc (.cells #[.int .u8 d, .int .i64 h, .int .u8 nn] 28)).cell? ⟨g, j, none⟩ = some (.int .i64 ((gs_ L j : Nat) : Int)) := (HB.out.cell (p := ⟨g, j, none⟩) hgl).trans q0
    have hgne : ((L.length : Int) == 0) = false := beq_eq_false_iff_ne.2 (by omega)
    have b1 : (j : Int) < (L.length : Int) := by omega
    have b0 : (0 : Int) ≤ (j : Int) := by omega
    have hg0 : (0 : Int) < (L.length : Int) := by omega
    have HX : Hid (-9223372036854775808 ≤ ((gs_ L j : Nat) : Int) ∧ ((gs_ L j : Nat) : Int) ≤ 9223372036854775807) := ⟨by omega, hL j hjl⟩
    by_cases h4 : 0 < r4
    · have h4' : (0 : Int) < (r4 : Int) := by omega
      clear hcell hL hO hh hnn h0 h4 q0
      generalize gs_ L j = X at *
      go_enter Try.func10, Try.ntmps10
      go_wp2
      go_ret
      exact ⟨⟨_, rfl, HX.out⟩, HB.out⟩
    · have h4' : ¬ (0 : Int) < (r4 : Int) := by omega
      clear hcell hL hO hh hnn h0 h4 q0 q1
      go_enter Try.func10, Try.ntmps10
      go_wp2
      go_ret
      exact ⟨⟨_, rfl, HH.out⟩, HB.out⟩
  · have hg0 : ¬ (0 : Int) < (L.length : Int) := by omega
    clear hL hO hh hnn h0
    by_cases h4 : 0 < r4
    · have h4' : (0 : Int) < (r4 : Int) := by omega
      clear h4
      go_enter Try.func10, Try.ntmps10
      go_wp2
      go_ret
      exact ⟨⟨_, rfl, HH.out⟩, HB.out⟩
    · have h4' : ¬ (0 : Int) < (r4 : Int) := by omega
      clear h4
      go_enter Try.func10, Try.ntmps10
      go_wp2
      go_ret
      exact ⟨⟨_, rfl, HH.out⟩, HB.out⟩

end Go.Proofs.Ytngaecfainhjcaa
