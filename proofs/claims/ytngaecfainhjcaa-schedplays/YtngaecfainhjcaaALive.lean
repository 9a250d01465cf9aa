/-
  What arena's Live comes to.
-/
import Derived.Test.YtngaecfainhjcaaANew
namespace Go.Proofs.Ytngaecfainhjcaa.A
open Go.RowKit

/-- What is answered: a row of its own. -/
def Owned (l : List Nat) (w : World) (e : Ending) (w' : World) : Prop :=
  ∃ v, e = .returned v ∧ w'.ownsRow w.heap.size 3 1 v l.length (cI l) ∧ Below w.heap.size w w'

theorem below_owns {W a b : World} {n : Nat} {o : Obj} {base e size m : Nat} {v : Value} {xs : List Value} (h : Below n W a) (hn : n ≤ a.heap.size) (hown : a.ownsRow base e size v m xs) (hb : n ≤ base) (hg : (a.alloc o).grownBy b v.ownBlock) : Below n W b :=
  (h.alloc hn o).grown hg (by simp; omega) (fun j hj => Nat.le_trans hb (hown.lt j hj).1)

set_option maxHeartbeats 2000000 in
theorem live_any (B P K : Nat) (s : Ar) (hK : K ≤ 1000000) (w : World) (hf : Fit K s) (hA : AtA w B P s) :
    Calls Try.prog 39 #[.pointer (some ⟨B, 0, none⟩)] w fun e w' => Owned (liveTo s s.n) w e w' := by
  obtain ⟨i0, hi, hz0, hz1, hz2⟩ := info_parts info3
  obtain ⟨c0, c1, _⟩ := hA.cells
  have h16 := hf.n16
  have HA : Hid (AtA w B P s) := hA
  have HF : Hid (Fit K s) := hf
  clear hA hf
  go_enter Try.func39, Try.ntmps39
  go_wp2
  go_loopw [3, 13] (fun v i wr => ∃ k : Nat, k ≤ s.n ∧ i = .int .i64 k ∧ wr.ownsRow w.heap.size 3 1 v (liveTo s k).length (cI (liveTo s k)) ∧ Below w.heap.size w wr) (fun _ i _ => s.n - (intOf i).toNat)
  case atStart => exact ⟨0, Nat.zero_le _, rfl, World.ownsRow_nil _ _ _ _, Below.refl _ _⟩
  case round =>
    obtain ⟨k, hk, rfl, hw, hnx⟩ := hrel
    have hz := hnx.size
    clear c0 c1
    by_cases hlt : k < s.n
    · obtain ⟨p0, p1, p2⟩ := (HA.out.below hnx).row.cells hlt
      have hPl := HA.out.ltP
      have hb := HF.out.backs _ hlt
      have hlen := liveTo_len s k
      have hH := fun W => handle_any k (s.f k).backs (by omega) (by omega) W
      cases ht : (s.f k).taken
      · have e : liveTo s (k + 1) = liveTo s k := by simp [liveTo, ht]
        rw [ht] at p1
        have HW : Hid (wr.ownsRow w.heap.size 3 1 u3 (liveTo s (k + 1)).length (cI (liveTo s (k + 1)))) := by rw [e]; exact hw
        clear hw e
        go_wp2
        go_roundw
        case rel =>
          exact ⟨k + 1, by omega, by go_num, HW.out.alloc _, hnx.alloc hz _⟩
        case measure => simp [intOf]; omega
      · have e : liveTo s (k + 1) = liveTo s k ++ [hd k (s.f k).backs] := by simp [liveTo, ht]
        rw [ht] at p1
        have HE : Hid (liveTo s (k + 1) = liveTo s k ++ [hd k (s.f k).backs]) := e
        clear e
        generalize hd k (s.f k).backs = H at *
        go_wp2_with (first
          | (go_at_call 41; refine (hH _).mono ?_; rintro e w2 ⟨rfl, hw2⟩; subst hw2)
          | (at_builtin; refine wpList_append_own _ rfl _ _ 30 rfl w.heap.size 3 i0 (.int .i64 0) 1 8 Try.underlying30 hi hz0 hz1 hz2 rfl (by decide) _ _ _ rfl ((hw.alloc _).alloc _) ⟨wr.heap.size + 1, 0, none⟩ 1 1 [.int .i64 (H : Int)] rfl rfl ?c1 ?c2 ?c3 ?c4 ?c5 ?_)
          | fail)
        case c1 =>
          intro j u hj
          match j, hj with
          | 0, hj => simp at hj; subst hj; simp [Addr.add, go_sem]
        case c2 => intro u hu; simp at hu; subst hu; rfl
        case c3 => unfold maxLen; omega
        case c4 => omega
        case c5 => simp; omega
        intro v' w3 hown' hgrow _
        have hnx3 := below_owns (hnx.alloc hz _) (by simp; omega) (hw.alloc _) (Nat.le_refl _) hgrow
        have HO : Hid (w3.ownsRow w.heap.size 3 1 v' (liveTo s (k + 1)).length (cI (liveTo s (k + 1)))) := by
          rw [HE.out, cI_snoc, List.length_append]; exact hown'
        clear hown' hgrow hw
        go_wp2
        go_roundw
        case rel => exact ⟨k + 1, by omega, by go_num, HO.out, hnx3⟩
        case measure => simp [intOf]; omega
    · go_wp2
      go_ret
      obtain rfl : k = s.n := by omega
      exact ⟨_, rfl, hw, hnx⟩

end Go.Proofs.Ytngaecfainhjcaa.A
