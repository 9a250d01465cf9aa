/-
  What the document's New and at come to.
-/
import Derived.Test.YtgldhlcdnijecaaApp
namespace Go.Proofs.Ytgldhlcdnijecaa
open Go.RowKit

set_option maxHeartbeats 400000 in
theorem rnew_any (n : Int) (w : World) : Calls Try.prog 9 #[.int .i64 n] w fun e w' => e = .returned (.pointer (some ⟨w.heap.size, 0, none⟩)) ∧ AtR w' w.heap.size w.heap.size ⟨.slice none 0 0, .slice none 0 0⟩ (newS n) ∧ Below w.heap.size w w' := by
  have fin : ∀ N : Int, sizeOk n = N → AtR (w.alloc (.cells #[.int .i64 N, .int .i64 0, .slice none 0 0, .slice none 0 0] 33)) w.heap.size w.heap.size ⟨.slice none 0 0, .slice none 0 0⟩ (newS n) := by
    intro N hN
    refine ⟨?_, World.ownsRow_nil _ _ _ _, World.ownsRow_nil _ _ _ _⟩
    have e : (newS n).n - (newS n).f = 0 := Int.sub_self _
    rw [e]
    show _ = some (Obj.cells #[.int .i64 (sizeOk n), _, _, _] _ _)
    rw [hN]
    exact heap_alloc_new _ _
  by_cases h1 : n < 1
  · have HF := hide (fin 1 (by unfold sizeOk; omega))
    go_enter Try.func9, Try.ntmps9
    go_wp2
    go_ret
    exact ⟨rfl, HF.out, (Below.refl _ _).alloc (Nat.le_refl _) _⟩
  · by_cases h2 : 16 < n
    · have HF := hide (fin 16 (by unfold sizeOk; omega))
      go_enter Try.func9, Try.ntmps9
      go_wp2
      go_ret
      exact ⟨rfl, HF.out, (Below.refl _ _).alloc (Nat.le_refl _) _⟩
    · have HF := hide (fin n (by unfold sizeOk; omega))
      go_enter Try.func9, Try.ntmps9
      go_wp2
      go_ret
      exact ⟨rfl, HF.out, (Below.refl _ _).alloc (Nat.le_refl _) _⟩

set_option maxHeartbeats 1000000 in
theorem at_any (R base : Nat) (u : Vs) (s : Sm) (hl : s.q.length ≤ 1000) (t : Int) (w : World) (hR : AtR w R base u s) :
    Calls Try.prog 27 #[.pointer (some ⟨R, 0, none⟩), .int .i64 t] w fun e w' => e = .returned (.int .i64 (idxZ (ts s.q) t)) ∧ w' = w := by
  obtain ⟨_, _, c0, _⟩ := hR.cells
  obtain ⟨av, ac, hv⟩ := owns_slice hR.ra
  rw [hv] at c0
  have hra := hR.q.ra
  rw [hv] at hra
  have hL := ts_len s.q
  clear hR
  obtain ⟨l, hq⟩ : ∃ l, ts s.q = l := ⟨_, rfl⟩
  rw [hq] at hra hL ⊢
  rw [← hL] at c0 hl hra
  have HO := hide hra
  clear hq hv hra hL
  go_enter Try.func27, Try.ntmps27
  go_wp2
  go_loop [5] (fun i => ∃ k : Nat, k ≤ l.length ∧ i = .int .i64 k ∧ Hid (∀ j, j < k → gz l j ≠ t)) (fun i => l.length - (intOf i).toNat)
  case atStart => exact ⟨0, Nat.zero_le _, rfl, fun j hj => absurd hj (by omega)⟩
  case round =>
    obtain ⟨k, hk, rfl, HH⟩ := hrel
    by_cases hlt : k < l.length
    · obtain ⟨g, c, hv, _, hgl, hcell, _⟩ := row_open HO.out (by omega)
      simp only [Value.slice.injEq, true_and] at hv
      obtain ⟨rfl, rfl⟩ := hv
      obtain ⟨e1, _⟩ := hcell k hlt
      have i1 : (k : Int) < (l.length : Int) := by omega
      have i0 : (0 : Int) ≤ (k : Int) := by omega
      clear hcell
      by_cases hx : gz l k = t
      · have HX := hide (idx_at hlt hx HH.out)
        have hx' : (gz l k == t) = true := by simpa using hx
        clear hx
        generalize gz l k = X at *
        go_wp2
        go_ret
        refine ⟨?_, rfl⟩
        exact ret_int HX.out.symm
      · have HH2 : Hid (∀ j, j < k + 1 → gz l j ≠ t) := fun j hj => by
          by_cases e : j = k
          · subst e; exact hx
          · exact HH.out j (by omega)
        have hx' : (gz l k == t) = false := by simpa using hx
        clear hx
        generalize gz l k = X at *
        go_wp2
        go_round
        case rel => exact ⟨k + 1, by omega, by go_num, HH2⟩
        case measure => simp [intOf]; omega
    · have HX : Hid (idxZ l t = -1) := hide (idx_out (inZ_false.2 fun hm => by
        obtain ⟨j, h1, h2, _⟩ := in_at (inZ_true.2 hm)
        exact HH.out j (by omega) h2))
      go_wp2
      go_ret
      refine ⟨?_, rfl⟩
      exact ret_int HX.out.symm

end Go.Proofs.Ytgldhlcdnijecaa
