/-
  What the document's own answer for reading a text comes to, where the text's ends are a label's.
-/
import Derived.Test.YtdfiepmpknbffaaDoorRefRead
namespace Go.Proofs.YtdfiepmpknbffaaDoor
open Go.RowKit

/-- Where the reading stands: its answer's place, the label so far. -/
def ReadAt (w : World) (lv cats : Int) (wr : World) : Prop :=
  wr.heap[w.heap.size]? = some (.cells #[.int .i64 0, .int .i64 0] 23 (0, 0)) ∧ wr.heap[w.heap.size + 1]? = some (.cells #[.int .i64 lv, .int .i64 cats] 23 (0, 0)) ∧ Below w.heap.size w wr

theorem ReadAt.set1 {w wr : World} {lv cats : Int} (h : ReadAt w lv cats wr) (v : Int) : ReadAt w lv v (wr.setCell ⟨w.heap.size + 1, 1, none⟩ (.int .i64 v)) := by
  obtain ⟨h0, h1, hb⟩ := h
  refine ⟨(Below.heap_setCell _ _ _ _ (by simp only; omega)).trans h0, ?_, hb.setCell (by simp only; omega) _⟩
  rw [Lib.heap_setCell_same h1]
  rfl
theorem ReadAt.drewN {w wr : World} {lv cats : Int} (h : ReadAt w lv cats wr) (n : Nat) : ReadAt w lv cats (wr.drewN n) :=
  ⟨h.1, h.2.1, drewN_below h.2.2 n⟩

theorem wrap_nat2 (t : Nat) (h : t < 131072) : wrap64 (t : Int) = t := by unfold wrap64; omega
theorem sum_lt16 (c p : Nat) (hc : c < 65536) (hp : p < 65536) : c + p < 131072 := by omega
theorem wrap_sum (c n : Nat) (hc : c < 65536) (hn : 2 ^ n < 65536) : wrap64 ((c : Int) + 2 ^ n) = ((c + 2 ^ n : Nat) : Int) := by
  have e : ((c : Int) + 2 ^ n) = ((c + 2 ^ n : Nat) : Int) := by simp
  rw [e, wrap_nat2 _ (sum_lt16 _ _ hc hn)]
theorem sum_pow (c p : Nat) (h : c < p) : c + p < p * 2 := by omega

theorem pairs_step (a b : UInt8) (r : List UInt8) (m cats n : Nat) (hg : greekB a.toNat b.toNat = n) (h1 : m ≤ n) (h2 : n ≤ 15) : pairs (a :: b :: r) m cats = pairs r (n + 1) (cats + 2 ^ n) := by
  simp only [pairs, hg, Int.toNat_natCast]
  rw [if_neg (by omega)]
theorem pairs_stop (a b : UInt8) (r : List UInt8) (m cats : Nat) (h : greekB a.toNat b.toNat < m ∨ 15 < greekB a.toNat b.toNat) : pairs (a :: b :: r) m cats = none := by
  simp only [pairs]
  rw [if_pos h]
theorem pairs_end (s : ByteArray) (k m cats : Nat) (h : ¬ k + 1 < s.size) : pairs (s.data.toList.drop k) m cats = some cats := by
  by_cases hk : k < s.size
  · rw [drop_cons hk, List.drop_of_length_le (by rw [Array.length_toList]; exact Nat.not_lt.1 h)]
    rfl
  · rw [List.drop_of_length_le (by rw [Array.length_toList]; exact Nat.not_lt.1 hk)]
    rfl

set_option maxHeartbeats 2000000 in
theorem refRead_good (s : ByteArray) (h : refOK s = true) (w : World) :
    Calls Tryd.prog 10 #[.string s] w fun e w' => e = .returned (.tuple #[.agg #[.int .i64 (labL (refRead s)), .int .i64 (labC (refRead s))], .int .i64 (labE (refRead s))]) ∧ Below w.heap.size w w' := by
  obtain ⟨h3, h35, h48, h55, h123, h125, hodd⟩ := of_decide_eq_true h
  have hR : refRead s = (pairs (s.data.toList.drop 2) 0 0).map fun c => ((s.get! 0).toNat - 48, c) := by unfold refRead; rw [h]; rfl
  have hk0 : 0 < s.size := by omega
  have hk1 : 1 < s.size := by omega
  have hkl : s.size - 1 < s.size := by omega
  obtain ⟨a, ha⟩ : ∃ a : Nat, a = (s.get! 0).toNat - 48 := ⟨_, rfl⟩
  have ea : (s[0]'hk0).toNat = a + 48 := by rw [get_bang, ha]; omega
  have ha7 : a ≤ 7 := by omega
  have eb : (s[1]'hk1).toNat = 123 := by rw [get_bang]; exact h123
  have ez : (s[s.size - 1]'hkl).toNat = 125 := by rw [get_bang]; exact h125
  have ho : ((s.size : Int) % 2 == 0) = false := by simp; omega
  have d1 : decide ((s.size : Int) < 3) = false := decide_eq_false (by omega)
  have d2 : decide (35 < (s.size : Int)) = false := decide_eq_false (by omega)
  have d3 : decide ((a : Int) + 48 < 48) = false := decide_eq_false (by omega)
  have d4 : decide (55 < (a : Int) + 48) = false := decide_eq_false (by omega)
  rw [← ha] at hR
  have HR : Hid (refRead s = (pairs (s.data.toList.drop 2) 0 0).map fun c => (a, c)) := hR
  clear hR ha h h48 h55 h123 h125 hodd
  go_enter Tryd.func10, Tryd.ntmps10
  go_wp2
  go_loopw [5, 6] (fun v i wr => ∃ (m k cats : Nat), m ≤ 16 ∧ cats < 2 ^ m ∧ 2 ≤ k ∧ k ≤ s.size ∧ v = .int .i64 ((m : Int) - 1) ∧ i = .int .i64 k ∧ ReadAt w a cats wr ∧ pairs (s.data.toList.drop k) m cats = pairs (s.data.toList.drop 2) 0 0) (fun _ i _ => s.size - (intOf i).toNat)
  case atStart =>
    refine ⟨0, 2, 0, by omega, by omega, by omega, by omega, rfl, rfl, ⟨?_, ?_, below2 _ _ _⟩, rfl⟩
    · exact (Lib.alloc_old _ _ _ (by simp)).trans (alloc_at _ _)
    · have := alloc_at (w.alloc (.cells #[.int .i64 0, .int .i64 0] 23)) (.cells #[.int .i64 a, .int .i64 0] 23)
      simpa using this
  case round =>
    obtain ⟨m, k, cats, hm, hcm, hk2, hks, rfl, rfl, hA, hp⟩ := hrel
    obtain ⟨c0, c1, f0, f1⟩ := two_cells hA.2.1
    clear d1 d2 d3 d4 ea eb ez ho hk0 hk1 hkl h3
    by_cases hk : k + 1 < s.size
    · have hk0 : k < s.size := by omega
      obtain ⟨x, hx⟩ : ∃ x : Nat, x = (s.get! k).toNat := ⟨_, rfl⟩
      obtain ⟨y, hy⟩ : ∃ y : Nat, y = (s.get! (k + 1)).toNat := ⟨_, rfl⟩
      have ex : (s[k]'hk0).toNat = x := by rw [get_bang, hx]
      have ey : (s[k + 1]'hk).toNat = y := by rw [get_bang, hy]
      have hy8 : y < 256 := by rw [hy]; exact (s.get! (k + 1)).toNat_lt
      have hw1 : IntKind.i64.wrap ((k : Int) + 1) = k + 1 := by rw [IntKind.wrap_i64]; omega
      rw [drop_cons hk0, drop_cons hk] at hp
      by_cases hin : (m : Int) ≤ greekB x y ∧ greekB x y ≤ 15
      · obtain ⟨n, hn⟩ : ∃ n : Nat, greekB x y = n := ⟨(greekB x y).toNat, by omega⟩
        rw [hn] at hin
        have hmn : m ≤ n := by omega
        have hn15 : n ≤ 15 := by omega
        have hG : ∀ w, Calls Tryd.prog 19 #[.int .u8 x, .int .u8 y] w fun e w' => e = .returned (.int .i64 n) ∧ w' = w := fun w => by rw [← hn]; exact greek_any x y hy8 w
        rw [pairs_step _ _ _ m cats n (by rw [← hx, ← hy]; exact hn) hmn hn15] at hp
        have HP : Hid (pairs (s.data.toList.drop (k + 2)) (n + 1) (cats + 2 ^ n) = pairs (s.data.toList.drop 2) 0 0) := hp
        have hpw : 2 ^ n < 65536 := Nat.pow_lt_pow_right (a := 2) (m := n) (n := 16) (by omega) (by omega)
        have hcn : cats < 2 ^ n := Nat.lt_of_lt_of_le hcm (Nat.pow_le_pow_right (by omega) hmn)
        have HS : Hid (cats + 2 ^ n < 2 ^ (n + 1) ∧ wrap64 ((cats : Int) + 2 ^ n) = ((cats + 2 ^ n : Nat) : Int)) := ⟨by rw [Nat.pow_succ]; exact sum_pow _ _ hcn, wrap_sum cats n (Nat.lt_trans hcn hpw) hpw⟩
        have hwp := wrap_pow n (Nat.lt_succ_of_le hn15)
        have g1 : decide ((n : Int) ≤ (m : Int) - 1) = false := decide_eq_false (by omega)
        have g2 : decide (15 < (n : Int)) = false := decide_eq_false (by omega)
        clear hp hx hy hn hin hcm hpw hcn
        go_wp2_with fail
        go_quiet ((go_at_call 19; exact Calls.quiet_of_same (hG _)))
        go_wp2_with fail
        go_roundw
        case rel =>
          refine ⟨n + 1, k + 2, cats + 2 ^ n, Nat.succ_le_succ hn15, HS.out.1, Nat.le_trans hk2 (Nat.le_add_right _ _), hk, by go_num, by go_num, ?_, HP.out⟩
          rw [HS.out.2]
          exact (hA.drewN _).set1 _
        case measure => simp [intOf]; omega
      · have hst : greekB x y < m ∨ 15 < greekB x y := by omega
        obtain ⟨g, hg⟩ : ∃ g : Int, g = greekB x y := ⟨_, rfl⟩
        have hG : ∀ w, Calls Tryd.prog 19 #[.int .u8 x, .int .u8 y] w fun e w' => e = .returned (.int .i64 g) ∧ w' = w := fun w => by rw [hg]; exact greek_any x y hy8 w
        rw [pairs_stop _ _ _ m cats (by rw [← hx, ← hy]; exact hst)] at hp
        have hnone : refRead s = none := by rw [HR.out, ← hp]; rfl
        have hcase : decide (g ≤ (m : Int) - 1) = true ∨ (decide (g ≤ (m : Int) - 1) = false ∧ decide (15 < g) = true) := by simp; omega
        have hL : labL (refRead s) = 0 := by rw [hnone]; rfl
        have hC : labC (refRead s) = 0 := by rw [hnone]; rfl
        have hE : labE (refRead s) = 3 := by rw [hnone]; rfl
        obtain ⟨e0, e1, i0, i1⟩ := two_cells hA.1
        have q0 := fun n => (two_set (hA.drewN n).1 (.int .i64 0) (.int .i64 0)).1
        have q1 := fun n => (two_set (hA.drewN n).1 (.int .i64 0) (.int .i64 0)).2
        have hbw := hA.2.2
        clear hp hx hy hst hg hin hnone hA c0 c1 f0 f1
        rcases hcase with g1 | ⟨g1, g2⟩
        all_goals
          go_wp2_with fail
          go_quiet ((go_at_call 19; exact Calls.quiet_of_same (hG _)))
          go_wp2
          exact bodyPost_ret (v := .tuple #[.agg #[.int .i64 0, .int .i64 0], .int .i64 3]) (by simp [results, Tryd.results10, go_sem, q0, q1]) rfl ⟨by rw [hL, hC, hE], ((drewN_below hbw _).setCell (by simp) _).setCell (by simp) _⟩
    · have hsome : refRead s = some (a, cats) := by rw [HR.out, ← hp, pairs_end s k m cats hk]; rfl
      have hL : labL (refRead s) = a := by rw [hsome]; rfl
      have hC : labC (refRead s) = cats := by rw [hsome]; rfl
      have hE : labE (refRead s) = 0 := by rw [hsome]; rfl
      obtain ⟨e0, e1, i0, i1⟩ := two_cells hA.1
      obtain ⟨q0, q1⟩ := two_set hA.1 (.int .i64 a) (.int .i64 cats)
      have hbw := hA.2.2
      clear hp hsome hA
      go_wp2
      exact bodyPost_ret (v := .tuple #[.agg #[.int .i64 a, .int .i64 cats], .int .i64 0]) (by simp [results, Tryd.results10, go_sem, q0, q1]) rfl ⟨by rw [hL, hC, hE], (hbw.setCell (by simp) _).setCell (by simp) _⟩

end Go.Proofs.YtdfiepmpknbffaaDoor
