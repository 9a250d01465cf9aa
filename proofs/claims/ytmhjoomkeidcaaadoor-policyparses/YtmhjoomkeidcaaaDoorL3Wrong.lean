/-
  What lex.wrong comes to: the place of the first thing that may not be.
-/
import Derived.Test.YtmhjoomkeidcaaaDoorL3Base
namespace Go.Proofs.YtmhjoomkeidcaaaDoor.L3
open Go.RowKit

/-- What the machine reads at a place, and what stands there. -/
theorem rune_facts (s : ByteArray) (p : Nat) (a : UInt8) (t : List UInt8) (h : s.data.toList.drop p = a :: t) :
    ∃ r, Utf8.decode s p = (r, far (a :: t)) ∧ okC ((a :: t).take (far (a :: t))) = !(bannedB r || brokenB (a :: t) r) ∧
      (okC ((a :: t).take (far (a :: t))) = true → rlen r = far (a :: t) ∧ r ≤ 1114111 ∧ (r < 55296 ∨ 57344 ≤ r) ∧ ∀ x : UInt8, x.toNat < 128 → (r = x.toNat ↔ (a :: t).take (far (a :: t)) = [x])) := by
  have htw := take_wide (a :: t) (by simp)
  have hfp := far_pos (a :: t)
  have hfl := far_le a t
  obtain ⟨n, hn⟩ : ∃ n, far (a :: t) = n + 1 := ⟨far (a :: t) - 1, by omega⟩
  have hc : (a :: t).take (far (a :: t)) = a :: t.take n := by rw [hn, List.take_succ_cons]
  have hok : okC ((a :: t).take (far (a :: t))) = (decide (wide (a :: t) ≠ 0) && !(decide (a.toNat < 32) && decide (a.toNat ≠ 10) || decide (a.toNat = 127))) := by
    rw [← htw, hc]; rfl
  rcases decode_rune s p a t h with ⟨h0, hd, h3⟩ | ⟨r, hd, hw, hl, h1, h3, hm, hs⟩
  · have hf : far (a :: t) = 1 := by unfold far; omega
    have hfalse : okC ((a :: t).take (far (a :: t))) = false := by rw [hok, h0]; rfl
    refine ⟨65533, by rw [hd, hf], ?_, fun e => by rw [hfalse] at e; cases e⟩
    rw [hfalse]
    have : preB (a :: t) = false := decide_eq_false h3
    simp [brokenB, this]
  · have hf : far (a :: t) = wide (a :: t) := by unfold far; omega
    refine ⟨r, by rw [hd, hf], ?_, fun _ => ⟨by rw [hl, hf], hm, hs, fun x hx => ?_⟩⟩
    · have hbr : brokenB (a :: t) r = false := by
        unfold brokenB
        by_cases e : r = 65533
        · have : preB (a :: t) = true := decide_eq_true (h3 e)
          simp [this]
        · simp [e]
      rw [hok, hbr, Bool.or_false, decide_eq_true hw, Bool.true_and]
      congr 1
      by_cases hw1 : wide (a :: t) = 1
      · rw [h1 hw1]; rfl
      · have ha := wide_head a t (by omega)
        have hr : 127 < r := by
          unfold rlen at hl
          split at hl
          · omega
          · omega
        have e1 : bannedB r = false := by simp [bannedB]; omega
        rw [e1]
        simp; omega
    · rw [hc]
      by_cases hw1 : wide (a :: t) = 1
      · have hn0 : n = 0 := by omega
        rw [h1 hw1, hn0, List.take_zero]
        constructor
        · intro e; rw [UInt8.toNat_inj.1 e]
        · intro e; injection e with e _; rw [e]
      · have hr : 127 < r := by
          unfold rlen at hl
          split at hl
          · omega
          · omega
        constructor
        · intro e; omega
        · intro e
          injection e with _ e2
          have := congrArg List.length e2
          rw [List.length_take, List.length_nil] at this
          omega

set_option maxHeartbeats 1000000 in
theorem wrong_any (s : ByteArray) (hz : s.size ≤ 4096) (w : World) :
    Calls Tryd.prog 54 #[.string s] w fun e w' => e = .returned (.tuple #[.int .i64 ((bad (chop s.data.toList) 1 1).1 : Nat), .int .i64 ((bad (chop s.data.toList) 1 1).2 : Nat)]) ∧ Below w.heap.size w w' := by
  obtain ⟨X, hX⟩ : ∃ X, bad (chop s.data.toList) 1 1 = X := ⟨_, rfl⟩
  rw [hX]
  go_enter Tryd.func54, Tryd.ntmps54
  go_wp2
  go_loopw [2, 3] (fun lv cv wr => ∃ (pos line col : Nat), lv = .int .i64 line ∧ cv = .int .i64 col ∧ wr.heap[w.heap.size]? = some (.stringIter s pos) ∧ Below w.heap.size w wr ∧ bad (chop (s.data.toList.drop pos)) line col = X ∧ line ≤ pos + 1 ∧ col ≤ pos + 1) (fun _ _ wr => s.size - wr.iterPos w.heap.size)
  case atStart =>
    have e1 := World.iter_heap w s 0
    exact ⟨0, 1, 1, rfl, rfl, e1, below1 _ _, by rw [List.drop_zero]; exact hX, by omega, by omega⟩
  case round =>
    obtain ⟨pos, line, col, rfl, rfl, hit, hB, hbad, hl1, hc1⟩ := hrel
    have hsz : w.heap.size < wr.heap.size := (Array.getElem?_eq_some_iff.1 hit).1
    by_cases hp : pos < s.size
    · have hdc := drop_cons hp
      obtain ⟨a, ha⟩ : ∃ a, a = s.get! pos := ⟨_, rfl⟩
      obtain ⟨t, ht⟩ : ∃ t, t = s.data.toList.drop (pos + 1) := ⟨_, rfl⟩
      rw [← ha, ← ht] at hdc
      clear ha ht
      obtain ⟨r, hdec, hok, hgood⟩ := rune_facts s pos a t hdc
      obtain ⟨np, hnp⟩ : ∃ np, np = pos + far (a :: t) := ⟨_, rfl⟩
      have hnx : ∀ ty, (Instr.next (.pointer (some ⟨w.heap.size, 0, none⟩)) true ty).run Tryd.prog wr = .ok (.tuple #[.bool true, .int .i64 pos, .int .i32 r]) (wr.iterAt w.heap.size s np) := fun ty => by
        have := Lib.run_next_any_at (P := Tryd.prog) wr w.heap.size s pos ty hit hp
        rw [hdec] at this
        rw [hnp]; exact this
      have hfp := far_pos (a :: t)
      have hit2 := Lib.iterAt_heap wr w.heap.size s pos np hit
      have hB2 : Below w.heap.size w (wr.iterAt w.heap.size s np) := Lib.below_iterAt hB (by omega) _ _
      have hlt : pos < np := by omega
      have hdn : s.data.toList.drop np = (a :: t).drop (far (a :: t)) := by rw [hnp, ← List.drop_drop, hdc]
      rw [hdc, chop_cons _ (by simp), ← hdn] at hbad
      obtain ⟨c, hc⟩ : ∃ c, c = (a :: t).take (far (a :: t)) := ⟨_, rfl⟩
      rw [← hc] at hok hgood hbad
      have hex : brokenB (s.extract pos s.size).data.toList r = brokenB (a :: t) r := by rw [extract_rest, hdc]
      have HIT : Hid (wr.heap[w.heap.size]? = some (.stringIter s pos)) := hit
      have HIT2 : Hid ((wr.iterAt w.heap.size s np).heap[w.heap.size]? = some (.stringIter s np)) := hit2
      have HG : Hid (okC c = true → (r = 10 ↔ c = [10])) := fun h => (hgood h).2.2.2 10 (by decide)
      clear hdec hgood hdn hnp hfp hc hit hit2
      cases hb1 : bannedB r
      · cases hb2 : brokenB (a :: t) r
        · rw [hb1, hb2] at hok
          replace hok : okC c = true := hok
          have hbad2 : bad (chop (s.data.toList.drop np)) (nextL line c) (nextC col c) = X := by
            rw [← hbad]
            simp only [bad, if_pos hok]
          have HB : Hid (bad (chop (s.data.toList.drop np)) (nextL line c) (nextC col c) = X) := hbad2
          have hnl : nextL line c ≤ np + 1 := by unfold nextL; split <;> omega
          have hnc : nextC col c ≤ np + 1 := by unfold nextC; split <;> omega
          have hcc := HG.out hok
          clear hbad hbad2
          go_wp2_with fail
          refine (banned_any _ _).mono ?_
          rintro e w1 ⟨rfl, rfl⟩
          rw [hb1]
          go_wp2_with fail
          refine (broken_any _ _ _).mono ?_
          rintro e w1 ⟨rfl, rfl⟩
          rw [hex, hb2]
          go_wp2_with fail
          refine (behind_any r line col c hcc (by omega) (by omega) _).mono ?_
          rintro e w1 ⟨rfl, rfl⟩
          go_wp2_with fail
          go_roundw
          case rel => exact ⟨np, _, _, rfl, rfl, HIT2.out, hB2, HB.out, hnl, hnc⟩
          case measure =>
            simp only [World.iterPos, HIT2.out, HIT.out]
            omega
        · rw [hb1, hb2] at hok
          replace hok : okC c = false := hok
          have hX2 : X = (line, col) := by
            rw [← hbad]
            simp only [bad, hok, Bool.false_eq_true, if_false]
          clear hbad
          subst hX2
          go_wp2_with fail
          refine (banned_any _ _).mono ?_
          rintro e w1 ⟨rfl, rfl⟩
          rw [hb1]
          go_wp2_with fail
          refine (broken_any _ _ _).mono ?_
          rintro e w1 ⟨rfl, rfl⟩
          rw [hex, hb2]
          go_wp2
          go_ret2
          exact ⟨rfl, hB2⟩
      · rw [hb1] at hok
        replace hok : okC c = false := hok
        have hX2 : X = (line, col) := by
          rw [← hbad]
          simp only [bad, hok, Bool.false_eq_true, if_false]
        clear hbad
        subst hX2
        go_wp2_with fail
        refine (banned_any _ _).mono ?_
        rintro e w1 ⟨rfl, rfl⟩
        rw [hb1]
        go_wp2
        go_ret2
        exact ⟨rfl, hB2⟩
    · have hnx : ∀ ty, (Instr.next (.pointer (some ⟨w.heap.size, 0, none⟩)) true ty).run Tryd.prog wr = _ := fun ty => Lib.run_next_end_at wr w.heap.size s pos ty hit hp
      have hX2 : X = (0, 0) := by
        rw [← hbad, List.drop_of_length_le (by rw [size_list]; omega), chop_nil]; rfl
      clear hbad
      subst hX2
      go_wp2
      go_ret2
      exact ⟨rfl, hB⟩

end Go.Proofs.YtmhjoomkeidcaaaDoor.L3
