/-
  What fifo's New comes to: so many queues, all empty.
-/
import Derived.Test.YtonahaembfbgbaaTurns
import Derived.Laws.OwnMore
import Derived.OwnWalk
namespace Go.Proofs.Ytonahaembfbgbaa
open Go.RowKit

theorem info50 : (Try.prog.info? 50).map (fun i => (i.zero, i.size, i.bytes)) = some (some (.agg #[.int .i64 0, .int .i64 0, .int .i64 0]), 3, 24) := by kernel_rfl
theorem info3 : (Try.prog.info? 3).map (fun i => (i.zero, i.size, i.bytes)) = some (some (.int .i64 0), 1, 8) := by kernel_rfl

def newOf (nq ni : Nat) : Qs := ⟨nq, ni, fun _ => [], fun _ => -1⟩
theorem newOf_ok {nq ni : Nat} (h1 : nq ≤ 32) (h2 : ni ≤ 32) : Ok (newOf nq ni) :=
  ⟨h1, h2, fun k x _ => ⟨fun h => by simp [newOf] at h, fun h => by have := h.2; simp [newOf] at this⟩, fun _ _ => .inl rfl, fun _ _ => by simp [newOf]⟩

/-- The places, those of the first k items and of the first j queues laid. -/
def newF (ni k j : Nat) : Nat → Plc := fun i => if i < ni then ⟨if i < k then -1 else 0, 0, 0⟩ else if i < ni + j then ⟨0, i, i⟩ else ⟨0, 0, 0⟩
theorem newF_item {ni k : Nat} (hk : k < ni) : newF ni (k + 1) 0 = upd (newF ni k 0) k { newF ni k 0 k with q := -1 } := by
  funext i
  simp only [upd, newF]
  by_cases e : i = k
  · subst e; simp [hk]
  · rw [if_neg e]
    by_cases h : i < ni
    · rw [if_pos h, if_pos h]
      by_cases h2 : i < k
      · rw [if_pos h2, if_pos (by omega)]
      · rw [if_neg h2, if_neg (by omega)]
    · rw [if_neg h, if_neg h]
theorem newF_queue (ni j : Nat) : newF ni ni (j + 1) = upd (newF ni ni j) (ni + j) ⟨0, ni + j, ni + j⟩ := by
  funext i
  simp only [upd, newF]
  by_cases e : i = ni + j
  · subst e; simp [show ¬ ni + j < ni by omega]
  · rw [if_neg e]
    by_cases h : i < ni
    · simp [h]
    · rw [if_neg h, if_neg h]
      by_cases h2 : i < ni + j
      · rw [if_pos h2, if_pos (by omega)]
      · rw [if_neg h2, if_neg (by omega)]
theorem newF_rep (nq ni : Nat) : Rep (newOf nq ni) (newF ni ni nq) := by
  refine ⟨fun k hk => ?_, fun i hi => ?_⟩
  · have hk' : k < nq := hk
    show Links _ [ni + k, ni + k]
    refine ⟨⟨?_, ?_⟩, trivial⟩ <;> simp [newF, hk', show ¬ ni + k < ni by omega]
  · have hi' : i < ni := hi
    simp [newF, newOf, hi']

theorem made_cells (n i : Nat) (hi : i < n) : (madeCells #[Value.int .i64 0, .int .i64 0, .int .i64 0] (n * 3))[i * 3]? = some (.int .i64 0) ∧ (madeCells #[Value.int .i64 0, .int .i64 0, .int .i64 0] (n * 3))[i * 3 + 1]? = some (.int .i64 0) ∧ (madeCells #[Value.int .i64 0, .int .i64 0, .int .i64 0] (n * 3))[i * 3 + 2]? = some (.int .i64 0) := by
  have a0 : i * 3 < n * 3 := by omega
  have a1 : i * 3 + 1 < n * 3 := by omega
  have a2 : i * 3 + 2 < n * 3 := by omega
  have b0 : i * 3 % 3 = 0 := by omega
  have b1 : (i * 3 + 1) % 3 = 1 := by omega
  have b2 : (i * 3 + 2) % 3 = 2 := by omega
  refine ⟨?_, ?_, ?_⟩ <;> simp [madeCells, a0, a1, a2, b0, b1, b2]

set_option maxHeartbeats 2000000 in
theorem new_body (queues items : Int) (nq ni n : Nat) (h1 : heldN queues = nq) (h2 : heldN items = ni) (hn : n = ni + nq) (w : World) :
    Calls Try.prog 8 #[.int .i64 queues, .int .i64 items] w fun e w' => e = .returned (.pointer (some ⟨w.heap.size + 1, 0, none⟩)) ∧ AtF w' (w.heap.size + 1) w.heap.size n ni (newF ni ni nq) ∧ Below w.heap.size w w' := by
  have b1 := heldN_le queues
  have b2 := heldN_le items
  have hb1 := fun W => bounded_any queues W
  have hb2 := fun W => bounded_any items W
  rw [h1] at b1 hb1
  rw [h2] at b2 hb2
  obtain ⟨i0, hi, hz0, hz1, hz2⟩ := info_parts info50
  have hmk : ∀ W : World, (Instr.makeSlice 46 (.int .i64 (n : Int)) (.int .i64 (n : Int))).run Try.prog W = .ok (.slice (some ⟨W.heap.size, 0, none⟩) n n) (W.alloc (.cells (madeCells #[Value.int .i64 0, .int .i64 0, .int .i64 0] (n * 3)) 50)) := fun W => by
    have h := run_make (P := Try.prog) W 46 50 i0 _ Try.underlying46 hi hz0 .i64 .i64 n n (by omega) (by omega) (by rw [hz2]; omega) (by omega)
    simp only [Int.toNat_natCast, hz1] at h
    exact h
  obtain ⟨cs, hcs⟩ : ∃ cs, cs = madeCells #[Value.int .i64 0, .int .i64 0, .int .i64 0] (n * 3) := ⟨_, rfl⟩
  have HC : Hid (cs = madeCells #[Value.int .i64 0, .int .i64 0, .int .i64 0] (n * 3)) := hcs
  rw [← hcs] at hmk
  have HN : Hid (n = ni + nq) := hn
  have hadd : IntKind.i64.wrap ((ni : Int) + (nq : Int)) = (n : Int) := by rw [wrapB (by omega)]; omega
  have hadd' : wrap64 ((ni : Int) + (nq : Int)) = (n : Int) := by rw [IntWalk.wrap64_in _ (by omega)]; omega
  clear hcs hi hz0 hz1 hz2 h1 h2 hn
  go_enter Try.func8, Try.ntmps8
  go_wp2_with (go_at_call 22; first | (with_reducible refine (hb1 _).mono ?_; rintro e w1 ⟨rfl, hw1⟩; have hw1' := hw1.symm; clear hw1; subst hw1') | (with_reducible refine (hb2 _).mono ?_; rintro e w2 ⟨rfl, hw2⟩; have hw2' := hw2.symm; clear hw2; subst hw2'))
  go_loopw [21] (fun i wr => ∃ k : Nat, k ≤ ni ∧ i = .int .i64 k ∧ AtF wr (w.heap.size + 1) w.heap.size n ni (newF ni k 0) ∧ Below w.heap.size w wr) (fun i _ => ni - (intOf i).toNat)
  case atStart =>
    refine ⟨0, Nat.zero_le _, rfl, ⟨?_, cs, ?_, ?_, ?_⟩, ((Below.refl _ _).alloc (Nat.le_refl _) _).alloc (by simp) _⟩
    · rw [show w.heap.size + 1 = (w.alloc (Obj.cells cs 50)).heap.size by simp]
      exact heap_alloc_new _ _
    · rw [Lib.alloc_old _ _ _ (by simp)]; exact heap_alloc_new _ _
    · rw [HC.out, size_madeCells]
    · intro i hi
      rw [HC.out]
      have := made_cells n i hi
      by_cases h : i < ni <;> simpa [newF, h] using this
  case round =>
    obtain ⟨k, hk, rfl, hA, hnx⟩ := hrel
    obtain ⟨c0, c1⟩ := hA.cells
    have HA : Hid (AtF wr (w.heap.size + 1) w.heap.size n ni (newF ni k 0)) := hA
    have hz := hnx.size
    have hN := HN.out
    clear c1 hmk hb1 hb2
    by_cases hlt : k < ni
    · have q0 := hA.row.frozen (k * 3)
      have p0 := (hA.row.cells (k := k) (by omega)).1
      have hkn : k < n := by omega
      clear hA hN
      go_wp2
      go_roundw
      case rel =>
        refine ⟨k + 1, by omega, by go_num, ?_, hnx.setCell (Nat.le_refl _) _⟩
        rw [newF_item hlt]
        exact HA.out.setQ hkn (-1)
      case measure => simp [intOf]; omega
    · obtain rfl : k = ni := by omega
      clear hA hN
      go_wp2
      go_loopw [33] (fun i w3 => ∃ j : Nat, j ≤ nq ∧ i = .int .i64 j ∧ AtF w3 (w.heap.size + 1) w.heap.size n k (newF k k j) ∧ Below w.heap.size w w3) (fun i _ => nq - (intOf i).toNat)
      case atStart => exact ⟨0, Nat.zero_le _, rfl, HA.out, hnx⟩
      case round =>
        clear c0
        obtain ⟨j, hj, rfl, hA, hnx3⟩ := hrel
        obtain ⟨c0, c1⟩ := hA.cells
        have hE := fun W h => end_any (w.heap.size + 1) w.heap.size n k (newF k k j) j (by omega) (by omega) W h
        have HA3 : Hid (AtF wr (w.heap.size + 1) w.heap.size n k (newF k k j)) := hA
        have hN := HN.out
        by_cases hlt : j < nq
        · have hkn : k + j < n := by omega
          obtain ⟨e, he⟩ : ∃ e, e = k + j := ⟨_, rfl⟩
          rw [← he] at hE hkn
          have HE : Hid (e = k + j) := he
          have q0 := hA.row.frozen (e * 3)
          have q1 := hA.row.frozen (e * 3 + 1)
          have q2 := hA.row.frozen (e * 3 + 2)
          obtain ⟨p0, p1, p2⟩ := hA.row.cells hkn
          clear hA hN he
          go_wp2_with (go_at_call 23; refine (hE _ HA3.out).mono ?_; rintro e w4 ⟨rfl, hw4⟩; have hw4' := hw4.symm; clear hw4; subst hw4')
          go_roundw
          case rel =>
            refine ⟨j + 1, by omega, by go_num, ?_, ((hnx3.setCell (Nat.le_refl _) _).setCell (Nat.le_refl _) _).setCell (Nat.le_refl _) _⟩
            rw [newF_queue, ← HE.out]
            exact HA3.out.setAll hkn ⟨0, e, e⟩
          case measure => simp [intOf]; omega
        · obtain rfl : j = nq := by omega
          clear hA hN
          go_wp2
          go_ret
          exact ⟨rfl, HA3.out, hnx3⟩

theorem new_any (queues items : Int) (w : World) :
    Calls Try.prog 8 #[.int .i64 queues, .int .i64 items] w fun e w' => e = .returned (.pointer (some ⟨w.heap.size + 1, 0, none⟩)) ∧ AtQ w' (w.heap.size + 1) w.heap.size (newOf (heldN queues) (heldN items)) ∧ Below w.heap.size w w' :=
  (new_body queues items _ _ _ rfl rfl rfl w).mono fun _ _ h => ⟨h.1, ⟨_, newF_rep _ _, h.2.1⟩, h.2.2⟩

end Go.Proofs.Ytonahaembfbgbaa
