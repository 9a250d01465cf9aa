/-
  What the law FifoMiddle asks comes out true at any two bytes.
-/
import Derived.Test.YtonahaembfbgbaaMem
import Derived.Deep.DeepCutAuto
namespace Go.Proofs.Ytonahaembfbgbaa
open Go.RowKit

/-- One queue with the first i items in it, in their order. -/
def mS (i : Nat) : Qs := ⟨1, 32, fun k => if k = 0 then List.range i else [], fun x => if x < i then 0 else -1⟩
theorem m_new : newOf 1 32 = mS 0 := by
  unfold newOf mS
  congr 1
  · funext k; simp
theorem m_fits {i : Nat} (h : i < 32) : fits (mS i) 0 (i : Int) := ⟨⟨by omega, by show (0 : Int) < 1; omega⟩, ⟨by omega, by show (i : Int) < 32; omega⟩, by simp [mS]⟩
theorem m_push {i : Nat} (h : i < 32) : pushB (mS i) 0 (i : Int) = true ∧ pushOf (mS i) 0 (i : Int) = mS (i + 1) := by
  refine ⟨if_pos (m_fits h), ?_⟩
  rw [show pushOf (mS i) 0 (i : Int) = pushAt (mS i) 0 i from if_pos (m_fits h)]
  unfold pushAt mS
  congr 1
  · funext k
    by_cases e : k = 0
    · subst e; simp [setL, List.range_succ]
    · simp [setL, e]
  · funext x
    by_cases e : x = i
    · subst e; simp [setW]
    · simp only [setW, if_neg e]
      by_cases h : x < i
      · rw [if_pos h, if_pos (by omega)]
      · rw [if_neg h, if_neg (by omega)]
theorem m_ok : ∀ i, i ≤ 32 → Ok (mS i)
  | 0, _ => m_new ▸ newOf_ok (by omega) (by omega)
  | i + 1, h => by
    rw [← (m_push (show i < 32 by omega)).2]
    exact pushOf_ok (m_ok i (by omega)) _ _

def mR (k x : Nat) : Qs := rmAt (mS k) 0 x
theorem m_rm {k x : Nat} (hk : k ≤ 32) (hx : x < k) : rmB (mS k) (x : Int) = true ∧ rmOf (mS k) (x : Int) = mR k x := by
  have hi : hasI (mS k) (x : Int) := ⟨by omega, by show (x : Int) < 32; omega⟩
  have hw : whereOf (mS k) (x : Int) = 0 := by unfold whereOf; rw [if_pos hi]; simp [mS, hx]
  refine ⟨if_neg (by rw [hw]; omega), ?_⟩
  unfold rmOf
  rw [if_neg (by rw [hw]; omega), hw]
  rfl
theorem m_gone {k x : Nat} : rmB (mR k x) (x : Int) = false ∧ rmOf (mR k x) (x : Int) = mR k x := by
  have hw : whereOf (mR k x) (x : Int) = -1 := by
    unfold whereOf
    split
    · show setW _ x (-1) (x : Int).toNat = -1
      rw [Int.toNat_natCast, setW_same]
    · rfl
  exact ⟨if_pos hw, if_pos hw⟩
def less (x i : Nat) : List Nat := (List.range i).filter (fun y => y != x)
theorem m_all (k x : Nat) : allOf (mR k x) 0 = less x k := by
  have hq : hasQ (mR k x) 0 := ⟨by omega, by show (0 : Int) < 1; omega⟩
  unfold allOf
  rw [if_pos hq]
  simp [mR, rmAt, setL, mS, less]
theorem m_back {k x : Nat} (hx : x < 32) : pushB (mR k x) 0 (x : Int) = true ∧ allOf (pushOf (mR k x) 0 (x : Int)) 0 = less x k ++ [x] := by
  have hf : fits (mR k x) 0 (x : Int) := ⟨⟨by omega, by show (0 : Int) < 1; omega⟩, ⟨by omega, by show (x : Int) < 32; omega⟩, by simp [mR, rmAt, setW]⟩
  refine ⟨if_pos hf, ?_⟩
  rw [show pushOf (mR k x) 0 (x : Int) = pushAt (mR k x) 0 x from if_pos hf]
  have hq : hasQ (pushAt (mR k x) 0 x) 0 := ⟨by omega, by show (0 : Int) < 1; omega⟩
  unfold allOf
  rw [if_pos hq]
  simp [pushAt, mR, rmAt, setL, mS, less]
theorem less_yes {x i : Nat} (h : i ≠ x) : less x (i + 1) = less x i ++ [i] := by simp [less, List.range_succ, h]
theorem less_no (x : Nat) : less x (x + 1) = less x x := by simp [less, List.range_succ]
theorem less_len (x i : Nat) : (less x i).length ≤ i := by
  unfold less
  have := List.length_filter_le (fun y => y != x) (List.range i)
  simpa using this

set_option maxHeartbeats 8000000 in
set_option maxRecDepth 100000 in
theorem fifoMiddle_walk (n m : Int) (hn : 0 ≤ n ∧ n ≤ 255) (hm : 0 ≤ m ∧ m ≤ 255) (w : World) :
    Calls Try.prog 6 #[.int .u8 n, .int .u8 m] w fun e w' => e = .returned (.bool true) ∧ Below w.heap.size w w' := by
  obtain ⟨i3, hi, hz0, hz1, hz2⟩ := info_parts info3
  obtain ⟨k0, hk0, hk0l⟩ : ∃ k0 : Nat, n.tmod 32 = (k0 : Int) ∧ k0 < 32 := ⟨(n % 32).toNat, by rw [Int.tmod_eq_emod_of_nonneg hn.1]; omega, by omega⟩
  obtain ⟨k, hk⟩ : ∃ k : Nat, k = k0 + 1 := ⟨_, rfl⟩
  have hk1 : wrap64 (1 + (k0 : Int)) = (k : Int) := by rw [IntWalk.wrap64_in _ (by omega)]; omega
  have hk2 : IntKind.i64.wrap (1 + (k0 : Int)) = (k : Int) := by rw [wrapB (by omega)]; omega
  have hk3 : 0 < k ∧ k ≤ 32 := by omega
  obtain ⟨x, hx, hxl⟩ : ∃ x : Nat, m.tmod (k : Int) = (x : Int) ∧ x < k := by
    rw [Int.tmod_eq_emod_of_nonneg hm.1]
    have h1 := Int.emod_nonneg m (show (k : Int) ≠ 0 by omega)
    have h2 := Int.emod_lt_of_pos m (show (0 : Int) < k by omega)
    exact ⟨(m % (k : Int)).toNat, by omega, by omega⟩
  have hkz : ((k : Int) == 0) = false := by simp; omega
  clear hk
  have HN : Hid (∀ W : World, Calls Try.prog 8 #[.int .i64 1, .int .i64 32] W fun e w' => e = .returned (.pointer (some ⟨W.heap.size + 1, 0, none⟩)) ∧ AtQ w' (W.heap.size + 1) W.heap.size (newOf 1 32) ∧ Below W.heap.size W w') := fun W => new_any 1 32 W
  go_enter Try.func6, Try.ntmps6
  go_wp2_with fail
  refine (HN.out _).mono ?_
  rintro e w1 ⟨rfl, hA, hb⟩
  obtain ⟨B, hB⟩ : ∃ B, B = w.heap.size + 1 := ⟨_, rfl⟩
  obtain ⟨P, hP⟩ : ∃ P, P = w.heap.size := ⟨_, rfl⟩
  rw [← hB] at hA ⊢
  have HA : Hid (AtQ w1 B P (mS 0)) := by rw [hP, ← m_new]; exact hA
  have hBl : w.heap.size ≤ B := by omega
  have hPl : w.heap.size ≤ P := by omega
  clear hA hB hP HN
  go_wp2
  go_loopw [7] (fun i wr => ∃ j : Nat, j ≤ k ∧ i = .int .i64 j ∧ AtQ wr B P (mS j) ∧ Below w.heap.size w wr) (fun i _ => k - (intOf i).toNat)
  case atStart => exact ⟨0, Nat.zero_le _, rfl, HA.out, hb⟩
  case round =>
    clear HA hb
    obtain ⟨j, hj, rfl, hA, hb⟩ := hrel
    by_cases hlt : j < k
    · have hp := push_any B P (mS j) 0 (j : Int) wr (m_ok j (by omega)) hA
      rw [(m_push (show j < 32 by omega)).1, (m_push (show j < 32 by omega)).2] at hp
      have HP := hide hp
      clear hA hp
      go_wp2_with fail
      refine HP.out.mono ?_
      rintro e w2 ⟨rfl, hA2, ht⟩
      have HA2 := hide hA2
      replace hb := turn_next hb ht hBl hPl
      clear hA2 ht HP
      go_wp2
      go_roundw
      case rel => exact ⟨j + 1, by omega, by go_num, HA2.out, hb⟩
      case measure => simp [intOf]; omega
    · obtain rfl : j = k := by omega
      have HA := hide hA
      have H1 : Hid (∀ W, AtQ W B P (mS j) → Calls Try.prog 12 #[.pointer (some ⟨B, 0, none⟩), .int .i64 (x : Int)] W fun e w' => e = .returned (.bool true) ∧ Now B P (mR j x) W w') := fun W h => by
        have := remove_any B P (mS j) (x : Int) W (m_ok j (by omega)) h
        rw [(m_rm (by omega) hxl).1, (m_rm (by omega) hxl).2] at this; exact this
      have hok : Ok (mR j x) := by rw [← (m_rm (by omega) hxl).2]; exact rmOf_ok (m_ok j (by omega)) _
      have H2 : Hid (∀ W, AtQ W B P (mR j x) → Calls Try.prog 12 #[.pointer (some ⟨B, 0, none⟩), .int .i64 (x : Int)] W fun e w' => e = .returned (.bool false) ∧ Now B P (mR j x) W w') := fun W h => by
        have := remove_any B P (mR j x) (x : Int) W hok h
        rw [m_gone.1, m_gone.2] at this; exact this
      have HO := hide hok
      clear hA hok
      go_wp2_with fail
      refine (H1.out _ HA.out).mono ?_
      rintro e w2 ⟨rfl, hA2, ht⟩
      have HA2 := hide hA2
      replace hb := turn_next hb ht hBl hPl
      clear hA2 ht HA H1
      go_wp2_with fail
      refine (H2.out _ HA2.out).mono ?_
      rintro e w3 ⟨rfl, hA3, ht⟩
      have HA3 := hide hA3
      replace hb := turn_next hb ht hBl hPl
      clear hA3 ht HA2 H2
      go_wp2
      go_loopw [11, 12] (fun v i wr => ∃ t : Nat, t ≤ j ∧ i = .int .i64 t ∧ St wr w.heap.size B P (mR j x) v (less x t) ∧ Below w.heap.size w wr) (fun _ i _ => j - (intOf i).toNat)
      case atStart => exact ⟨0, Nat.zero_le _, rfl, ⟨AtQ.below HA3.out ((Below.refl _ _).alloc (Nat.le_refl _) _), World.ownsRow_lit w3 #[] 0 hb.size (by unfold maxLen; omega) rfl⟩, hb.alloc hb.size _⟩
      case round =>
        clear HA3 hb
        obtain ⟨t, ht, rfl, hS, hb⟩ := hrel
        have hz := hb.size
        have HS := hide hS
        by_cases htl : t < j
        · have hll := less_len x t
          by_cases htx : t = x
          · subst htx
            have h1 : ((t : Int) != (t : Int)) = false := by simp
            clear hS
            go_wp2
            go_roundw
            case rel => exact ⟨t + 1, by omega, by go_num, by rw [less_no]; exact HS.out, hb⟩
            case measure => simp [intOf]; omega
          · have h1 : ((t : Int) != (x : Int)) = true := by simp; omega
            have hw := hS.g
            clear hS
            go_wp2_with (at_builtin; refine wpList_append_own _ rfl _ _ 37 rfl w.heap.size 3 i3 (.int .i64 0) 1 8 Try.underlying37 hi hz0 hz1 hz2 rfl (by decide) _ _ _ rfl (hw.alloc _) ⟨wr.heap.size, 0, none⟩ 1 1 [.int .i64 (t : Int)] rfl rfl ?c1 ?c2 ?c3 ?c4 ?c5 ?_)
            case c1 =>
              intro j u hj
              match j, hj with
              | 0, hj => simp at hj; subst hj; simp [Addr.add, go_sem]
            case c2 => intro u hu; simp at hu; subst hu; rfl
            case c3 => unfold maxLen; omega
            case c4 => omega
            case c5 => simp; omega
            intro v' w4 hown' hgrow _
            have hb4 := below_owns hb hz hw (Nat.le_refl _) hgrow
            have HS4 := hide (St.app HS.out hown' hgrow)
            clear hown' hgrow hw
            go_wp2
            go_roundw
            case rel => exact ⟨t + 1, by omega, by go_num, by rw [less_yes htx]; exact HS4.out, hb4⟩
            case measure => simp [intOf]; omega
        · obtain rfl : t = j := by omega
          have hll := less_len x t
          obtain ⟨a1, c1, rfl⟩ := owns_slice hS.g
          have hal := all_any B P (mR t x) 0 wr HO.out hS.a (by rw [m_all]; omega)
          rw [m_all] at hal
          have HL := hide hal
          clear hS hal
          go_wp2_with fail
          refine HL.out.mono ?_
          rintro e w5 ⟨v5, rfl, ho5, hb5⟩
          obtain ⟨a5, c5, rfl⟩ := owns_slice ho5
          have HS5 := hide (St.below HS.out hb5)
          have HI := hide (ints_same a5 a1 c5 c1 _ _ (less x t) w5 (by omega) ho5 HS5.out.g)
          replace hb := below_next hb hb5
          clear ho5 hb5 HL HS
          go_wp2_with fail
          refine HI.out.mono ?_
          rintro e w6 ⟨rfl, hb6⟩
          have HS6 := hide (St.below HS5.out hb6)
          replace hb := below_next hb hb6
          clear hb6 HI HS5
          go_wp2_with fail
          refine (awake_any _).mono ?_
          rintro e w7 ⟨rfl, hb7⟩
          have HS7 := hide (St.below HS6.out hb7)
          replace hb := below_next hb hb7
          clear hb7 HS6
          have hp := push_any B P (mR t x) 0 (x : Int) w7 HO.out HS7.out.a
          rw [(m_back (show x < 32 by omega)).1] at hp
          have HP := hide hp
          have HAL := (m_back (k := t) (show x < 32 by omega)).2
          obtain ⟨l2, hl2⟩ : ∃ l2, l2 = less x t ++ [x] := ⟨_, rfl⟩
          have hll2 : l2.length ≤ 50 := by rw [hl2]; simp; omega
          have HL2 := hide hl2
          rw [← hl2] at HAL
          clear hl2
          have hok8 := pushOf_ok HO.out 0 (x : Int)
          generalize pushOf (mR t x) 0 (x : Int) = q8 at HP HAL hok8
          have HO8 := hide (And.intro hok8 HAL)
          clear hp HAL hok8
          go_wp2_with fail
          refine HP.out.mono ?_
          rintro e w8 ⟨rfl, hN8⟩
          have HS8 := hide (St.now HS7.out hN8)
          replace hb := turn_next hb hN8.2 hBl hPl
          have hal := all_any B P q8 0 w8 HO8.out.1 hN8.1 (by rw [HO8.out.2]; omega)
          rw [HO8.out.2] at hal
          have HL := hide hal
          clear hal hN8 HP HS7
          go_wp2_with fail
          refine HL.out.mono ?_
          rintro e w9 ⟨v9, rfl, ho9, hb9⟩
          obtain ⟨a9, c9, rfl⟩ := owns_slice ho9
          have hw := (St.below HS8.out hb9).g
          have HO9 := hide ho9
          have HG := hide (HS8.out.g.lt)
          have hz8 := hb.size
          have hz9 := hb9.size
          replace hb := below_next hb hb9
          have HB9 := hide hb9
          clear ho9 hb9 HL
          go_wp2_with (at_builtin; refine wpList_append_asked _ (by rfl) _ _ 37 rfl w.heap.size 3 i3 (.int .i64 0) 1 8 Try.underlying37 hi hz0 hz1 hz2 rfl (by decide) _ _ _ rfl (hw.alloc _) ⟨w9.heap.size, 0, none⟩ 1 1 [.int .i64 (x : Int)] rfl rfl ?c1 ?c2 ?c3 ?c4 ?c5 ?_)
          case c1 =>
            intro j u hj
            match j, hj with
            | 0, hj => simp at hj; subst hj; simp [Addr.add, go_sem]
          case c2 => intro u hu; simp at hu; subst hu; rfl
          case c3 => unfold maxLen; omega
          case c4 => omega
          case c5 => simp; omega
          intro v' w10 hown' hgrow _
          have hb10 := below_owns hb hb.size hw (Nat.le_refl _) hgrow
          have ho10 : w10.ownsRow w.heap.size 3 1 v' l2.length (cI l2) := by rw [HL2.out, cI_snoc, List.length_append]; exact hown'
          obtain ⟨a10, c10, rfl⟩ := owns_slice ho10
          have ho9 := kept_apart (HO9.out.alloc _) hgrow (fun g hg => (HG.out g hg).2)
          have HI := hide (ints_same a9 a10 c9 c10 _ _ l2 w10 (by omega) ho9 ho10)
          clear hown' hgrow hw ho9 ho10 HB9 HG HO9 hb
          go_wp2_with fail
          refine HI.out.mono ?_
          rintro e w11 ⟨rfl, hb11⟩
          go_wp2
          go_ret
          exact ⟨rfl, below_next hb10 hb11⟩

end Go.Proofs.Ytonahaembfbgbaa
