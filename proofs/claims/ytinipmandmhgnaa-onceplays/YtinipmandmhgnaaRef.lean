/-
  What the document's at, Doer and Waits come to.
-/
import Derived.Test.YtinipmandmhgnaaApp
import Derived.Deep.DeepCutAuto
namespace Go.Proofs.Ytinipmandmhgnaa
open Go.RowKit

theorem idx_none (l : List Int) (t : Int) (k : Nat) (hk : l.length ≤ k) (h : ∀ j, j < k → gz l j ≠ t) : idxZ l t = -1 := by
  refine idx_out (inZ_false.2 fun hm => ?_)
  obtain ⟨j, h1, h2, _⟩ := in_at (inZ_true.2 hm)
  exact h j (by omega) h2

set_option maxHeartbeats 1000000 in
theorem at_any (R base : Nat) (u : Value) (l : List Int) (o : Bool) (hl : l.length ≤ 1000) (t : Int) (w : World) (hR : AtR w R base u l o) :
    Calls Try.prog 23 #[.pointer (some ⟨R, 0, none⟩), .int .i64 t] w fun e w' => e = .returned (.int .i64 (idxZ l t)) ∧ w' = w := by
  obtain ⟨c0, _⟩ := hR.cells
  obtain ⟨av, ac, rfl⟩ := owns_slice hR.row
  have HO := hide hR.row
  clear hR
  go_enter Try.func23, Try.ntmps23
  go_wp2
  go_loop [5] (fun i => ∃ k : Nat, k ≤ l.length ∧ i = .int .i64 k ∧ Hid (∀ j, j < k → gz l j ≠ t)) (fun i => l.length - (intOf i).toNat)
  case atStart => exact ⟨0, Nat.zero_le _, rfl, fun j hj => absurd hj (by omega)⟩
  case round =>
    obtain ⟨k, hk, rfl, HH⟩ := hrel
    by_cases hlt : k < l.length
    · obtain ⟨g, c, hv, _, hgl, hcell, _⟩ := row_open HO.out (by omega)
      simp only [Value.slice.injEq, true_and] at hv
      obtain ⟨rfl, rfl⟩ := hv
      obtain ⟨e1, _⟩ := hcell k hlt
      have i1 : (k : Int) < (l.length : Int) := by omega
      have i0 : (0 : Int) ≤ (k : Int) := by omega
      clear hcell
      by_cases hx : gz l k = t
      · have HX := hide (idx_at hlt hx HH.out)
        have hx' : (gz l k == t) = true := by simpa using hx
        clear hx
        generalize gz l k = X at *
        go_wp2
        go_ret
        refine ⟨?_, rfl⟩
        exact ret_int HX.out.symm
      · have HH2 : Hid (∀ j, j < k + 1 → gz l j ≠ t) := fun j hj => by
          by_cases e : j = k
          · subst e; exact hx
          · exact HH.out j (by omega)
        have hx' : (gz l k == t) = false := by simpa using hx
        clear hx
        generalize gz l k = X at *
        go_wp2
        go_round
        case rel => exact ⟨k + 1, by omega, by go_num, HH2⟩
        case measure => simp [intOf]; omega
    · have HX := hide (idx_none l t k (by omega) HH.out)
      go_wp2
      go_ret
      refine ⟨?_, rfl⟩
      exact ret_int HX.out.symm

set_option maxHeartbeats 400000 in
theorem refDoer_any (R base : Nat) (u : Value) (l : List Int) (o : Bool) (w : World) (hR : AtR w R base u l o) :
    Calls Try.prog 16 #[.pointer (some ⟨R, 0, none⟩)] w fun e w' => e = .returned (.int .i64 (hold l)) ∧ w' = w := by
  obtain ⟨c0, _⟩ := hR.cells
  obtain ⟨av, ac, rfl⟩ := owns_slice hR.row
  by_cases hn : l = []
  · subst hn
    rw [hold_nil]
    clear hR
    simp only [List.length_nil] at c0
    go_enter Try.func16, Try.ntmps16
    go_wp2
    go_ret
    exact ⟨rfl, rfl⟩
  · have hp := List.length_pos_iff.2 hn
    obtain ⟨g, c, hv, _, hgl, hcell, _⟩ := row_open hR.row hp
    simp only [Value.slice.injEq, true_and] at hv
    obtain ⟨rfl, rfl⟩ := hv
    obtain ⟨e1, _⟩ := hcell 0 hp
    have e2 : w.cell? ⟨g, 0, none⟩ = some (.int .i64 (hold l)) := e1
    have i1 : (0 : Int) < (l.length : Int) := by omega
    have i2 : ((l.length : Int) == 0) = false := by simp; omega
    clear hcell hR e1 hn
    generalize hold l = H at *
    generalize l.length = L at *
    go_enter Try.func16, Try.ntmps16
    go_wp2
    go_ret
    exact ⟨rfl, rfl⟩

set_option maxHeartbeats 400000 in
theorem refWaits_any (R base : Nat) (u : Value) (l : List Int) (o : Bool) (w : World) (hR : AtR w R base u l o) :
    Calls Try.prog 19 #[.pointer (some ⟨R, 0, none⟩)] w fun e w' => (∃ a c, e = .returned (.slice a l.tail.length c) ∧ RowZ w a l.tail) ∧ w' = w := by
  obtain ⟨c0, _⟩ := hR.cells
  obtain ⟨av, ac, rfl⟩ := owns_slice hR.row
  by_cases hn : l = []
  · subst hn
    clear hR
    simp only [List.length_nil] at c0
    go_enter Try.func19, Try.ntmps19
    go_wp2
    go_ret
    exact ⟨⟨_, _, rfl, fun h => absurd rfl h⟩, rfl⟩
  · have hp := List.length_pos_iff.2 hn
    obtain ⟨g, c, hv, _, hgl, hcell, hc⟩ := row_open hR.row hp
    simp only [Value.slice.injEq, true_and] at hv
    obtain ⟨rfl, rfl⟩ := hv
    have hmx := (row_cap hR.row).2
    unfold maxLen at hmx
    have HZ : Hid (∀ k, k < l.tail.length → w.cell? ⟨g, 1 + k, none⟩ = some (.int .i64 (gz l.tail k))) := fun k hk => by
      rw [List.length_tail] at hk
      rw [gz_tail, Nat.add_comm]
      exact (hcell (k + 1) (by omega)).1
    have HT : Hid (l.tail.length = l.length - 1) := List.length_tail
    have i1 : (1 : Int) ≤ (l.length : Int) := by omega
    have i2 : ((l.length : Int) == 0) = false := by simp; omega
    have hc' : (l.length : Int) ≤ (ac : Int) := by omega
    clear hcell hR hn
    generalize hL : l.length = L at *
    have HL := hide hL
    clear hL
    by_cases hac : ac = 1
    · subst hac
      obtain rfl : L = 1 := by omega
      go_enter Try.func19, Try.ntmps19
      go_wp2
      go_ret
      refine ⟨⟨some ⟨g, 0, none⟩, 0, ?_, fun h => absurd (List.length_eq_zero_iff.1 HT.out) h⟩, rfl⟩
      rw [HT.out]
      rfl
    · go_enter Try.func19, Try.ntmps19
      go_wp2
      go_ret
      refine ⟨⟨some ⟨g, 1, none⟩, ac - 1, ?_, fun _ => ⟨g, 1, rfl, hgl, HZ.out⟩⟩, rfl⟩
      rw [HT.out]
      rfl

end Go.Proofs.Ytinipmandmhgnaa
