/-
  What the document's Stop comes to.
-/
import Derived.Test.YtnciefdhgokffaaRef
namespace Go.Proofs.Ytnciefdhgokffaa
open Go.RowKit

def keepR (id : Int) (l : List (Nat × Nat)) : List (Nat × Nat) := l.filter fun p => decide ((p.1 : Int) ≠ id)
theorem keep_len (id : Int) (l : List (Nat × Nat)) : (keepR id l).length ≤ l.length := List.length_filter_le _ _
theorem take_snoc {l : List (Nat × Nat)} {k : Nat} (hk : k < l.length) : l.take (k + 1) = l.take k ++ [gp l k] := by
  rw [List.take_add_one, List.getElem?_eq_getElem hk, Option.toList_some]
  congr 2
  unfold gp
  rw [List.getD_eq_getElem?_getD, List.getElem?_eq_getElem hk]; rfl
theorem keep_yes {id : Int} {l : List (Nat × Nat)} {k : Nat} (hk : k < l.length) (h : ((gp l k).1 : Int) ≠ id) : keepR id (l.take (k + 1)) = keepR id (l.take k) ++ [gp l k] := by
  rw [take_snoc hk, keepR, List.filter_append]
  simp only [List.filter, decide_eq_true h]; rfl
theorem keep_no {id : Int} {l : List (Nat × Nat)} {k : Nat} (hk : k < l.length) (h : ((gp l k).1 : Int) = id) : keepR id (l.take (k + 1)) = keepR id (l.take k) := by
  rw [take_snoc hk, keepR, List.filter_append]
  have : decide (((gp l k).1 : Int) ≠ id) = false := decide_eq_false (fun n => n h)
  simp only [List.filter, this]
  exact List.append_nil _

set_option maxHeartbeats 2000000 in
theorem refStop_any (R : Nat) (M : Int) (v : Value) (l : List (Nat × Nat)) (id : Int) (hl : l.length ≤ 100) (w : World) (hR : AtR w R M v l) :
    Calls Try.prog 14 #[.pointer (some ⟨R, 0, none⟩), .int .i64 id] w fun e w' => e = .returned (.bool (decide ((keepR id l).length < l.length))) ∧ NowR R M (keepR id l) w w' := by
  obtain ⟨i0, hi, hz0, hz1, hz2⟩ := info_parts info41
  obtain ⟨a, c, rfl⟩ := hR.slice
  have HR := hide hR
  have hRl := hR.lt
  clear hR
  go_enter Try.func14, Try.ntmps14
  go_wp2
  go_loopw [5, 6] (fun u i wr => ∃ k : Nat, i = .int .i64 (k : Int) ∧ k ≤ l.length ∧ wr.ownsRow w.heap.size 41 2 u (keepR id (l.take k)).length (cO (keepR id (l.take k))) ∧ Below w.heap.size w wr ∧ Hid (u ≠ .slice none 0 0)) (fun _ i _ => l.length - (intOf i).toNat)
  case atStart => exact ⟨0, rfl, Nat.zero_le _, World.ownsRow_lit w #[] 0 (Nat.le_refl _) (by unfold maxLen; omega) rfl, (Below.refl _ _).alloc (Nat.le_refl _) _, hide (fun h => by cases h)⟩
  case round =>
    obtain ⟨k, rfl, hk, hw, hnx, HNN⟩ := hrel
    have hz := hnx.size
    have hRr := HR.out.below hnx
    obtain ⟨_, r1, r2⟩ := hRr.cells
    by_cases hlt : k < l.length
    · obtain ⟨g, c', hv, hgl, _, hc⟩ := hRr.open (by omega)
      simp only [Value.slice.injEq, true_and] at hv
      obtain ⟨rfl, rfl⟩ := hv
      obtain ⟨q1, q2⟩ := hc k hlt
      have b1 : (k : Int) < (l.length : Int) := by omega
      have hlen := keep_len id (l.take k)
      have hlt2 : (l.take k).length ≤ 100 := by rw [List.length_take]; omega
      clear hc hRr r2
      by_cases e : ((gp l k).1 : Int) = id
      · have HW : Hid (wr.ownsRow w.heap.size 41 2 u5 (keepR id (l.take (k + 1))).length (cO (keepR id (l.take (k + 1))))) := by rw [keep_no hlt e]; exact hw
        have e1 : (((gp l k).1 : Int) != id) = false := by simp [e]
        clear e hw
        generalize ((gp l k).1 : Int) = X at *
        generalize ((gp l k).2 : Int) = Y at *
        go_wp2
        go_roundw
        case rel => exact ⟨k + 1, by go_num, by omega, HW.out, hnx, HNN⟩
        case measure => simp [intOf]; omega
      · have HE := hide (keep_yes hlt e)
        have e1 : (((gp l k).1 : Int) != id) = true := by simp [e]
        clear e
        obtain ⟨X, hX⟩ : ∃ X : Int, X = ((gp l k).1 : Int) := ⟨_, rfl⟩
        obtain ⟨Y, hY⟩ : ∃ Y : Int, Y = ((gp l k).2 : Int) := ⟨_, rfl⟩
        have HX := hide hX
        have HY := hide hY
        rw [← hX] at q1 e1
        rw [← hY] at q2
        clear hX hY
        go_wp2_with (at_builtin; refine wpList_append_own _ rfl _ _ 37 rfl w.heap.size 41 i0 (.agg #[.int .i64 0, .int .i64 0]) 2 16 Try.underlying37 hi hz0 hz1 hz2 rfl (by decide) _ _ _ rfl (hw.alloc _) ⟨wr.heap.size, 0, none⟩ 1 1 [.int .i64 X, .int .i64 Y] rfl rfl ?c1 ?c2 ?c3 ?c4 ?c5 ?_)
        case c1 =>
          intro j u hj
          match j, hj with
          | 0, hj => simp at hj; subst hj; simp [Addr.add, go_sem]
          | 1, hj => simp at hj; subst hj; simp [Addr.add, go_sem]
        case c2 => intro u hu; simp at hu; rcases hu with rfl | rfl <;> rfl
        case c3 => unfold maxLen; omega
        case c4 => omega
        case c5 => simp; omega
        intro v' w3 hown' hgrow hiff
        have HNN3 : Hid (v' ≠ .slice none 0 0) := hide hiff
        have hnx3 := below_owns hnx hz hw (Nat.le_refl _) hgrow
        have HO : Hid (w3.ownsRow w.heap.size 41 2 v' (keepR id (l.take (k + 1))).length (cO (keepR id (l.take (k + 1))))) := by
          rw [HE.out, cO_snoc, List.length_append, ← HX.out, ← HY.out]; exact hown'
        clear hown' hgrow hw
        go_wp2
        go_roundw
        case rel => exact ⟨k + 1, by go_num, by omega, HO.out, hnx3, HNN3⟩
        case measure => simp [intOf]; omega
    · have hkl : k = l.length := by omega
      rw [hkl, List.take_length] at hw
      obtain ⟨a5, c5, rfl⟩ := owns_slice hw
      have HN := hide (NowR.of_store HR.out hnx (owns_up hw (Nat.zero_le _)) HNN.out)
      clear hkl hw hRr
      go_wp2
      go_ret
      exact ⟨by simp, HN.out⟩

end Go.Proofs.Ytnciefdhgokffaa
