/-
  What the law BufferSame asks comes out true at any number and any two lists.
-/
import Derived.Test.YtiookbmffdmdeaaMem
import Derived.Deep.DeepCutAuto
import Derived.Deep.CutBlock
namespace Go.Proofs.Ytiookbmffdmdeaa
open Go.RowKit

set_option maxHeartbeats 4000000 in
theorem same_walk (m : Int) (a1 : Option Addr) (l1 c1 : Nat) (a2 : Option Addr) (l2 c2 : Nat) (h1 : l1 ≤ c1) (g1 : c1 ≤ maxLen) (h2 : l2 ≤ c2) (g2 : c2 ≤ maxLen) (w : World) (hact1 : Acts w a1 l1) (hact2 : Acts w a2 l2) :
    Calls Try.prog 4 #[.int .i64 m, .slice a1 l1 c1, .slice a2 l2 c2] w fun e w' => e = .returned (.bool true) ∧ Below w.heap.size w w' := by
  have hl1 : l1 ≤ maxLen := Nat.le_trans h1 g1
  have hl2 : l2 ≤ maxLen := Nat.le_trans h2 g2
  unfold maxLen at hl1 hl2
  clear h1 g1 h2 g2
  obtain ⟨n, hn⟩ : ∃ n, heldN m = n := ⟨_, rfl⟩
  have hn8 : n ≤ 8 := hn ▸ heldN_le m
  have hcase0 : m < 1 ∨ 8 < m ∨ m = (n : Int) := by unfold heldN at hn; omega
  have hcase := hide hcase0
  clear hcase0
  have NN : Hid (∀ W : World, Calls Try.prog 7 #[.int .i64 m] W fun e w' => e = .returned (.pointer (some ⟨W.heap.size, 0, none⟩)) ∧ AtB w' W.heap.size n [] ∧ Below W.heap.size W w') := fun W => hn ▸ new_any m W
  have PX : Hid (∀ X Y W lx ly x y, Ok n lx → Two W X Y n lx ly → Calls Try.prog 9 #[.pointer (some ⟨X, 0, none⟩), .agg #[.int .i64 x, .int .i64 y]] W fun e w' => ∃ b lx', e = .returned (.bool b) ∧ Ok n lx' ∧ Two w' X Y n lx' ly ∧ Turn X W w') := fun X Y W lx ly x y hO h =>
    (put_any X n lx ⟨x, y⟩ hO W h.x).mono fun e w' k => ⟨_, _, k.1, hO.put _, h.setX k.2, k.2.2⟩
  have PY : Hid (∀ X Y W lx ly x y, Ok n ly → Two W X Y n lx ly → Calls Try.prog 9 #[.pointer (some ⟨Y, 0, none⟩), .agg #[.int .i64 x, .int .i64 y]] W fun e w' => ∃ b ly', e = .returned (.bool b) ∧ Ok n ly' ∧ Two w' X Y n lx ly' ∧ Turn Y W w') := fun X Y W lx ly x y hO h =>
    (put_any Y n ly ⟨x, y⟩ hO W h.y).mono fun e w' k => ⟨_, _, k.1, hO.put _, h.setY k.2, k.2.2⟩
  have DX : Hid (∀ X Y W lx ly, Ok n lx → Two W X Y n lx ly → Calls Try.prog 13 #[.pointer (some ⟨X, 0, none⟩)] W fun e w' => e = .returned (.slice (some ⟨W.heap.size, 0, none⟩) n n) ∧ Two w' X Y n [] ly ∧ Turn X W w') := fun X Y W lx ly hO h =>
    (deliver_any X n lx hO W h.x).mono fun e w' k => ⟨k.1, h.setX k.2.2, k.2.2.2⟩
  have DY : Hid (∀ X Y W lx ly, Ok n ly → Two W X Y n lx ly → Calls Try.prog 13 #[.pointer (some ⟨Y, 0, none⟩)] W fun e w' => e = .returned (.slice (some ⟨W.heap.size, 0, none⟩) n n) ∧ Two w' X Y n lx [] ∧ Turn Y W w') := fun X Y W lx ly hO h =>
    (deliver_any Y n ly hO W h.y).mono fun e w' k => ⟨k.1, h.setY k.2.2, k.2.2.2⟩
  have OK0 : Hid (Ok n []) := Ok.nil hn8
  have HA1 := hide hact1
  have HA2 := hide hact2
  clear hn hact1 hact2
  go_enter Try.func4, Try.ntmps4
  go_wp2_with fail
  refine (NN.out _).mono ?_
  rintro e w2 ⟨rfl, hX, hb⟩
  obtain ⟨X, hXe⟩ : ∃ X, X = w.heap.size := ⟨_, rfl⟩
  rw [← hXe] at hX ⊢
  have hXl : w.heap.size ≤ X := by omega
  have HX := hide hX
  clear hX hXe
  go_wp2_with fail
  refine (NN.out _).mono ?_
  rintro e w3 ⟨rfl, hY, hb3⟩
  have hXlt := HX.out.lt
  obtain ⟨Y, hYe⟩ : ∃ Y, Y = w2.heap.size := ⟨_, rfl⟩
  have hz2 := hb.size
  rw [← hYe] at hY ⊢
  have hYl : w.heap.size ≤ Y := by omega
  have HT : Hid (Two w3 X Y n [] []) := ⟨HX.out.below hb3, hY, by omega⟩
  replace hb := below_next hb hb3
  clear hY HX hb3 hXlt hz2 hYe NN
  go_upto_block 0 with fail
  go_cut [] (fun w' => ∃ lx, Hid (Ok n lx) ∧ Hid (Two w' X Y n lx []) ∧ Below w.heap.size w w')
  case first =>
    go_wp2_with fail
    go_loopw [9] (fun i wr => ∃ k lx, i = .int .i64 ((k : Nat) : Int) ∧ k ≤ 30 ∧ k ≤ l1 ∧ Hid (Ok n lx) ∧ Hid (Two wr X Y n lx []) ∧ Below w.heap.size w wr) (fun i _ => 30 - (intOf i).toNat)
    case atStart => exact ⟨0, [], rfl, by omega, by omega, OK0, HT, hb⟩
    case round =>
      clear HT hb
      obtain ⟨k, lx, rfl, hk30, hkl, HO, HT, hb⟩ := hrel
      by_cases h1 : k < l1
      · have h1' : (k : Int) < (l1 : Int) := by omega
        by_cases h2 : k < 30
        · have h2' : (k : Int) < 30 := by omega
          have h0' : (0 : Int) ≤ (k : Int) := by omega
          obtain ⟨b2, off2, x, y, rfl, hlt2, p0, p1⟩ := (HA1.out.below hb) k h1
          have HP := hide (PX.out X Y wr lx [] x y HO.out HT.out)
          go_wp2_with (go_at_call 9; refine HP.out.mono ?_; rintro e w4 ⟨b, lx', rfl, hO, hT, ht⟩)
          have HO' := hide hO
          have HT' := hide hT
          replace hb := turn_next hb ht hXl
          clear hO hT ht HP
          go_wp2_with fail
          go_roundw
          case rel => exact ⟨k + 1, lx', by go_num, by omega, by omega, HO', HT', hb⟩
          case measure => simp [intOf]; omega
        · have h2' : ¬ (k : Int) < 30 := by omega
          go_wp2_with fail
          go_meet
          exact ⟨lx, HO, HT, hb⟩
      · have h1' : ¬ (k : Int) < (l1 : Int) := by omega
        go_wp2_with fail
        go_meet
        exact ⟨lx, HO, HT, hb⟩
  case rest =>
    clear HT hb
    obtain ⟨lx, HOX, HT, hb⟩ := hcut
    go_upto_block 2 with fail
    go_cut [] (fun w' => ∃ ly, Hid (Ok n ly) ∧ Hid (Two w' X Y n lx ly) ∧ Below w.heap.size w w')
    case first =>
      go_wp2_with fail
      go_loopw [10] (fun i wr => ∃ k ly, i = .int .i64 ((k : Nat) : Int) ∧ k ≤ 30 ∧ k ≤ l2 ∧ Hid (Ok n ly) ∧ Hid (Two wr X Y n lx ly) ∧ Below w.heap.size w wr) (fun i _ => 30 - (intOf i).toNat)
      case atStart => exact ⟨0, [], rfl, by omega, by omega, OK0, HT, hb⟩
      case round =>
        clear HT hb
        obtain ⟨k, ly, rfl, hk30, hkl, HO, HT, hb⟩ := hrel
        by_cases h1 : k < l2
        · have h1' : (k : Int) < (l2 : Int) := by omega
          by_cases h2 : k < 30
          · have h2' : (k : Int) < 30 := by omega
            have h0' : (0 : Int) ≤ (k : Int) := by omega
            obtain ⟨b2, off2, x, y, rfl, hlt2, p0, p1⟩ := (HA2.out.below hb) k h1
            have HP := hide (PY.out X Y wr lx ly x y HO.out HT.out)
            go_wp2_with (go_at_call 9; refine HP.out.mono ?_; rintro e w4 ⟨b, ly', rfl, hO, hT, ht⟩)
            have HO' := hide hO
            have HT' := hide hT
            replace hb := turn_next hb ht hYl
            clear hO hT ht HP
            go_wp2_with fail
            go_roundw
            case rel => exact ⟨k + 1, ly', by go_num, by omega, by omega, HO', HT', hb⟩
            case measure => simp [intOf]; omega
          · have h2' : ¬ (k : Int) < 30 := by omega
            go_wp2_with fail
            go_meet
            exact ⟨ly, HO, HT, hb⟩
        · have h1' : ¬ (k : Int) < (l2 : Int) := by omega
          go_wp2_with fail
          go_meet
          exact ⟨ly, HO, HT, hb⟩
    case rest =>
      clear HT hb
      obtain ⟨ly, HOY, HT, hb⟩ := hcut
      go_wp2_with fail
      refine (DX.out X Y _ lx ly HOX.out HT.out).mono ?_
      rintro e w5 ⟨rfl, hT, ht⟩
      replace hb := turn_next hb ht hXl
      replace HT := hide hT
      clear hT ht HOX
      go_wp2_with fail
      refine (awake_any _).mono ?_
      rintro e w6 ⟨rfl, hb6⟩
      replace hb := below_next hb hb6
      replace HT := hide (HT.out.below hb6)
      clear hb6
      go_wp2_with fail
      refine (DY.out X Y _ [] ly HOY.out HT.out).mono ?_
      rintro e w7 ⟨rfl, hT, ht⟩
      replace hb := turn_next hb ht hYl
      replace HT := hide hT
      clear hT ht HOY
      go_wp2_with fail
      refine (DX.out X Y _ [] [] OK0.out HT.out).mono ?_
      rintro e w8 ⟨rfl, hT, ht⟩
      replace hb := turn_next hb ht hXl
      clear hT ht HT PX PY DX DY HA1 HA2
      have hn0 : (n : Int) ≤ 8 := by omega
      rcases hcase.out with h | h | h
      · go_wp2
        go_ret
        exact ⟨rfl, hb⟩
      · have h' : ¬ m < 1 := by omega
        go_wp2
        go_ret
        exact ⟨rfl, hb⟩
      · subst h
        by_cases h' : (n : Int) < 1
        · go_wp2
          go_ret
          exact ⟨rfl, hb⟩
        · have h2 : ¬ (8 : Int) < (n : Int) := by omega
          have h3 : ((n : Int) == n) = true := by simp
          go_wp2
          go_ret
          exact ⟨rfl, hb⟩

end Go.Proofs.Ytiookbmffdmdeaa
