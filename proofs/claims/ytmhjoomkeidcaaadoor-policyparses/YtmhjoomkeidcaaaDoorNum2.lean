/-
  What policy.number and the document's own answer for a number come to.
-/
import Derived.Test.YtmhjoomkeidcaaaDoorNum
namespace Go.Proofs.YtmhjoomkeidcaaaDoor
open Go.RowKit

set_option maxHeartbeats 1000000 in
theorem number_loop (s : ByteArray) (h : 1 ≤ s.size ∧ s.size ≤ 4) (hk : 0 < s.size) (hn : ¬ (s.size : Int) > 1 ∨ (s.size : Int) > 1 ∧ (((s[0]'hk).toNat : Int) == 48) = false) (w : World) :
    Calls Tryd.prog 87 #[.string s] w fun e w' => e = .returned (numV (digs s.data.toList 0)) ∧ Below w.heap.size w w' := by
  have h1 : ¬ (s.size : Int) < 1 := by omega
  have h2 : ¬ (s.size : Int) > 4 := by omega
  obtain ⟨D, hD⟩ : ∃ D, D = digs s.data.toList 0 := ⟨_, rfl⟩
  rw [← hD]
  rcases hn with h3 | ⟨h3, h4⟩
  all_goals
    go_enter Tryd.func87, Tryd.ntmps87
    go_wp2
    go_loopw [4] (fun i wr => ∃ (pos n : Nat), pos ≤ s.size ∧ n < 10 ^ pos ∧ i = .int .i64 n ∧ wr.heap[w.heap.size]? = some (.stringIter s pos) ∧ Below w.heap.size w wr ∧ digs (s.data.toList.drop pos) n = D) (fun _ wr => s.size - wr.iterPos w.heap.size)
    case atStart => exact ⟨0, 0, by omega, by simp, rfl, World.iter_heap _ _ _, L2.below1 _ _, by rw [hD]; rfl⟩
    case round =>
      clear hD
      obtain ⟨pos, n, hps, hn, rfl, hit, hbw, hdg⟩ := hrel
      have hsz : w.heap.size < wr.heap.size := (Array.getElem?_eq_some_iff.1 hit).1
      by_cases hp : pos < s.size
      · have hst := digs_step s pos n hp
        have hwd := L2.width_pos s pos hp
        have hn9 := pow_small hn (by omega)
        have HP : Hid (∀ d : Nat, d ≤ 9 → 10 * n + d < 10 ^ (pos + 1)) := fun d hd => pow_next hn hd
        rw [hdg] at hst
        clear hn hdg
        rcases hst with ⟨d, hd, hdec, hs⟩ | ⟨hr, hs⟩
        · have hnx : ∀ ty, (Instr.next (.pointer (some ⟨w.heap.size, 0, none⟩)) true ty).run Tryd.prog wr = .ok (.tuple #[.bool true, .int .i64 pos, .int .i32 ((48 + d : Nat) : Int)]) (wr.iterAt w.heap.size s (pos + 1)) := fun ty => by
            have := Lib.run_next_any_at (P := Tryd.prog) wr w.heap.size s pos ty hit hp
            rw [hdec] at this
            exact this
          obtain ⟨r, hr⟩ : ∃ r : Nat, r = 48 + d := ⟨_, rfl⟩
          rw [← hr] at hnx
          have hit2 := Lib.iterAt_heap wr w.heap.size s pos (pos + 1) hit
          have hbw2 := Lib.below_iterAt hbw (k := w.heap.size) (Nat.le_refl _) s (pos + 1)
          have HIT : Hid (wr.heap[w.heap.size]? = some (.stringIter s pos)) := hit
          have HS : Hid (D = digs (s.data.toList.drop (pos + 1)) (10 * n + d)) := hs
          have r1 : ¬ (r : Int) < 48 := by omega
          have r2 : ¬ (r : Int) > 57 := by omega
          have HR : Hid (r = 48 + d) := hr
          have hrb : r ≤ 57 := by omega
          clear hit hs hdec hwd hr
          go_wp2_with fail
          go_roundw
          case rel => exact ⟨pos + 1, 10 * n + d, by omega, HP.out d hd, by have := HR.out; go_num, hit2, hbw2, HS.out.symm⟩
          case measure =>
            simp only [World.iterPos, hit2, HIT.out]
            omega
        · obtain ⟨r, hre⟩ : ∃ r, r = (Utf8.decode s pos).1 := ⟨_, rfl⟩
          obtain ⟨np, hnp⟩ : ∃ np, np = pos + (Utf8.decode s pos).2 := ⟨_, rfl⟩
          have hnx : ∀ ty, (Instr.next (.pointer (some ⟨w.heap.size, 0, none⟩)) true ty).run Tryd.prog wr = .ok (.tuple #[.bool true, .int .i64 pos, .int .i32 r]) (wr.iterAt w.heap.size s np) := fun ty => by
            rw [hre, hnp]; exact Lib.run_next_any_at wr w.heap.size s pos ty hit hp
          rw [← hre] at hr
          have hbw2 := Lib.below_iterAt hbw (k := w.heap.size) (Nat.le_refl _) s np
          clear hre hnp hwd hit
          subst hs
          rcases hr with hr | hr
          · have r1 : (r : Int) < 48 := by omega
            go_wp2
            go_ret2
            exact ⟨rfl, hbw2⟩
          · have r1 : ¬ (r : Int) < 48 := by omega
            have r2 : (r : Int) > 57 := by omega
            go_wp2
            go_ret2
            exact ⟨rfl, hbw2⟩
      · have hnx : ∀ ty, (Instr.next (.pointer (some ⟨w.heap.size, 0, none⟩)) true ty).run Tryd.prog wr = _ := fun ty => Lib.run_next_end_at wr w.heap.size s pos ty hit hp
        have he : D = some n := by
          rw [← hdg, List.drop_of_length_le (by rw [Array.length_toList]; exact Nat.not_lt.1 hp)]; rfl
        subst he
        clear hdg
        go_wp2
        go_ret2
        exact ⟨rfl, hbw⟩

theorem head_zero (s : ByteArray) (hk : 0 < s.size) : (s[0]'hk).toNat = 48 ↔ s.data.toList.head? = some 48 := by
  obtain ⟨b, h1, h2⟩ := L3.byte_at hk
  rw [List.drop_zero] at h1
  rw [h2, h1]
  simp only [List.head?_cons, Option.some.injEq]
  constructor
  · intro h; exact UInt8.toNat_inj.1 h
  · rintro rfl; rfl

theorem number_any (s : ByteArray) (w : World) :
    Calls Tryd.prog 87 #[.string s] w fun e w' => e = .returned (numV (numOf s)) ∧ Below w.heap.size w w' := by
  have hl := L3.size_list s
  by_cases h : 1 ≤ s.size ∧ s.size ≤ 4
  · by_cases h0 : 1 < s.size ∧ s.data.toList.head? = some 48
    · rw [show numOf s = none by unfold numOf formB; rw [decide_eq_false (by rw [hl]; exact fun hh => hh.2.2 h0)]; rfl]
      exact number_nought s ⟨h0.1, h.2⟩ (by omega) ((head_zero s (by omega)).2 h0.2) w
    · rw [show numOf s = digs s.data.toList 0 by unfold numOf formB; rw [decide_eq_true (by rw [hl]; exact ⟨h.1, h.2, h0⟩)]; rfl]
      refine number_loop s h (by omega) ?_ w
      by_cases h1 : 1 < s.size
      · refine Or.inr ⟨by omega, ?_⟩
        rw [beq_eq_false_iff_ne]
        intro e
        exact h0 ⟨h1, (head_zero s (by omega)).1 (by omega)⟩
      · exact Or.inl (by omega)
  · rw [show numOf s = none by unfold numOf formB; rw [decide_eq_false (by rw [hl]; exact fun hh => h ⟨hh.1, hh.2.1⟩)]; rfl]
    exact number_long s h w

end Go.Proofs.YtmhjoomkeidcaaaDoor
