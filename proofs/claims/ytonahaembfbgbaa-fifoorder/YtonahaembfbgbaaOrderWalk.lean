/-
  The walk of the law FifoOrder.
-/
import Derived.Test.YtonahaembfbgbaaOrder
import Derived.Test.YtonahaembfbgbaaActs
import Derived.Deep.DeepCutAuto
namespace Go.Proofs.Ytonahaembfbgbaa
open Go.RowKit

theorem Bytes.at {w wr : World} {ad : Option Addr} {len k : Nat} (h : Bytes w ad len) (hk : k < len) (hb : Below w.heap.size w wr) :
    ∃ b off, ∃ x : Int, ad = some ⟨b, off, none⟩ ∧ wr.cell? ⟨b, off + k, none⟩ = some (.int .u8 x) ∧ (0 ≤ x ∧ x ≤ 255) ∧ b < w.heap.size := by
  obtain ⟨b, off, x, h1, h2, h3, h4⟩ := h k hk
  exact ⟨b, off, x, h1, (hb.cell (p := ⟨b, _, none⟩) h2).trans h3, h4, h2⟩
theorem tmod_nat {x : Int} (h : 0 ≤ x) (m : Nat) (hm : 0 < m) : ∃ k : Nat, x.tmod (m : Int) = (k : Int) ∧ k < m := by
  rw [Int.tmod_eq_emod_of_nonneg h]
  have h1 := Int.emod_nonneg x (show (m : Int) ≠ 0 by omega)
  have h2 := Int.emod_lt_of_pos x (show (0 : Int) < m by omega)
  exact ⟨(x % (m : Int)).toNat, by omega, by omega⟩

theorem byte_nums {y0 : Int} (h : 0 ≤ y0 ∧ y0 ≤ 255) : ∃ y r3 z Y Z : Nat, (y0.tmod 16 = (y : Int) ∧ y0.tmod 3 = (r3 : Int) ∧ y0.tdiv 16 = (z : Int)) ∧
    (wrap64 (16 + (y : Int)) = (Y : Int) ∧ IntKind.i64.wrap (16 + (y : Int)) = (Y : Int) ∧ wrap64 (16 + (z : Int)) = (Z : Int) ∧ IntKind.i64.wrap (16 + (z : Int)) = (Z : Int)) ∧ (y < 16 ∧ z < 16) ∧ (16 ≤ Y ∧ Y < 32) ∧ (16 ≤ Z ∧ Z < 32) := by
  obtain ⟨y, hy, hy1⟩ := tmod_nat h.1 16 (by omega)
  obtain ⟨r3, hr, hr1⟩ := tmod_nat h.1 3 (by omega)
  obtain ⟨z, hz, hz1⟩ : ∃ z : Nat, y0.tdiv 16 = (z : Int) ∧ z < 16 := ⟨(y0 / 16).toNat, by rw [Int.tdiv_eq_ediv_of_nonneg h.1]; omega, by omega⟩
  refine ⟨y, r3, z, 16 + y, 16 + z, ⟨hy, hr, hz⟩, ?_, ⟨hy1, hz1⟩, ?_, ?_⟩
  · clear hy hr hz h
    refine ⟨?_, ?_, ?_, ?_⟩
    · rw [IntWalk.wrap64_in _ (by omega)]; omega
    · rw [wrapB (by omega)]; omega
    · rw [IntWalk.wrap64_in _ (by omega)]; omega
    · rw [wrapB (by omega)]; omega
  · clear hy hr hz h; omega
  · clear hy hr hz h; omega

/-- What holds at each round's head. -/
def OrdAt (w : World) (B P k : Nat) (v : Value) (wr : World) : Prop :=
  ∃ s ws, Od s ws ∧ St wr w.heap.size B P s v ws ∧ ws.length ≤ k ∧ Below w.heap.size w wr

set_option maxHeartbeats 8000000 in
set_option maxRecDepth 100000 in
theorem fifoOrder_walk (ad1 ad2 : Option Addr) (len1 cap1 len2 cap2 : Nat) (hcap1 : len1 ≤ cap1) (hmax1 : cap1 ≤ maxLen) (hcap2 : len2 ≤ cap2) (hmax2 : cap2 ≤ maxLen) (w : World) (hy1 : Bytes w ad1 len1) (hy2 : Bytes w ad2 len2) :
    Calls Try.prog 4 #[.slice ad1 len1 cap1, .slice ad2 len2 cap2] w fun e w' => e = .returned (.bool true) ∧ Below w.heap.size w w' := by
  obtain ⟨i3, hi, hz0, hz1, hz2⟩ := info_parts info3
  have hl1 : len1 ≤ 9223372036854775807 := by unfold maxLen at hmax1; omega
  have hl2 : len2 ≤ 9223372036854775807 := by unfold maxLen at hmax2; omega
  have HY1 := hide hy1
  have HY2 := hide hy2
  clear hmax1 hmax2 hy1 hy2
  have HN : Hid (∀ W : World, Calls Try.prog 8 #[.int .i64 3, .int .i64 32] W fun e w' => e = .returned (.pointer (some ⟨W.heap.size + 1, 0, none⟩)) ∧ AtQ w' (W.heap.size + 1) W.heap.size (newOf 3 32) ∧ Below W.heap.size W w') := fun W => new_any 3 32 W
  go_enter Try.func4, Try.ntmps4
  go_wp2_with fail
  refine (HN.out _).mono ?_
  rintro e w1 ⟨rfl, hA, hb⟩
  obtain ⟨B, hB⟩ : ∃ B, B = w.heap.size + 1 := ⟨_, rfl⟩
  obtain ⟨P, hP⟩ : ∃ P, P = w.heap.size := ⟨_, rfl⟩
  rw [← hB] at hA ⊢
  have HA : Hid (AtQ w1 B P (newOf 3 32)) := by rw [hP]; exact hA
  have hBl : w.heap.size ≤ B := by omega
  have hPl : w.heap.size ≤ P := by omega
  clear hA hB hP HN
  go_wp2
  go_loopw [6, 7] (fun v i wr => ∃ k : Nat, k ≤ len1 ∧ k ≤ 32 ∧ i = .int .i64 k ∧ OrdAt w B P k v wr) (fun _ i _ => len1 - (intOf i).toNat)
  case atStart => exact ⟨0, Nat.zero_le _, Nat.zero_le _, rfl, newOf 3 32, [], od_new, ⟨AtQ.below HA.out ((Below.refl _ _).alloc (Nat.le_refl _) _), World.ownsRow_lit w1 #[] 0 hb.size (by unfold maxLen; omega) rfl⟩, Nat.zero_le _, hb.alloc hb.size _⟩
  case round =>
    clear HA hb
    obtain ⟨k, hk, hk32, rfl, s, ws, hO, hS, hwl, hb⟩ := hrel
    by_cases hlt : k < len1 ∧ k < 32
    · obtain ⟨hk1, hk2⟩ := hlt
      have hk1' : (k : Int) < (len1 : Int) := by omega
      have hk2' : (k : Int) < 32 := by omega
      obtain ⟨b, off, x0, rfl, c0, hx0, _⟩ := HY1.out.at hk1 hb
      obtain ⟨x, hx, hx16⟩ := tmod_nat hx0.1 16 (by omega)
      have hx' : x0.tmod 16 = (x : Int) := hx
      have hp := push_any B P s 1 (x : Int) wr hO.ok hS.a
      have hO' := od_push1 hO hx16
      generalize pushOf s 1 (x : Int) = s1 at hp hO'
      have HO' := hide hO'
      generalize pushB s 1 (x : Int) = pb at hp HO'
      have HP := hide hp
      have HS := hide hS
      clear hp hO' hS hO hx
      go_wp2_with fail
      refine HP.out.mono ?_
      rintro e w2 ⟨rfl, hN⟩
      have HS2 := hide (St.now HS.out hN)
      replace hb := turn_next hb hN.2 hBl hPl
      clear hN HS HP c0
      go_upto_if 34 with fail
      go_cut [6] (fun v6 wx => OrdAt w B P (k + 1) v6 wx)
      case first =>
        cases pb
        · go_wp2_with fail
          go_meet
          exact ⟨s1, ws, by simpa using HO'.out, HS2.out, by omega, hb⟩
        · have hw := HS2.out.g
          have hz := hb.size
          go_wp2_with (at_builtin; refine wpList_append_own _ rfl _ _ 37 rfl w.heap.size 3 i3 (.int .i64 0) 1 8 Try.underlying37 hi hz0 hz1 hz2 rfl (by decide) _ _ _ rfl (hw.alloc _) ⟨w2.heap.size, 0, none⟩ 1 1 [.int .i64 (x : Int)] rfl rfl (cell_one_new _ _ _) (by simp [Value.oneCell']) (by unfold maxLen; omega) (by omega) (by simp; omega) ?_)
          intro v' w4 hown' hgrow _
          have hb4 := below_owns hb hz hw (Nat.le_refl _) hgrow
          have HS4 := hide (St.app HS2.out hown' hgrow)
          clear hown' hgrow hw
          go_wp2_with fail
          go_meet
          exact ⟨s1, ws ++ [x], by simpa using HO'.out, HS4.out, by simp; omega, hb4⟩
      case rest =>
        clear HO' HS2 hb hwl
        obtain ⟨s2, ws2, hO2, hS2, hwl2, hb⟩ := hcut
        by_cases hk3 : k < len2
        · have hk3' : (k : Int) < (len2 : Int) := by omega
          obtain ⟨b2, off2, y0, rfl, c0, hy0, hb2⟩ := HY2.out.at hk3 hb
          obtain ⟨y, r3, z, Y, Z, hn, ⟨hwY, hwY', hwZ, hwZ'⟩, ⟨hy16, hz16⟩, hY32, hZ32⟩ := byte_nums hy0
          have HM := hide hn
          have HY32 := hide hY32
          have HZ := hide hZ32
          clear hn hY32 hZ32
          have hp := push_any B P s2 2 (Y : Int) wc hO2.ok hS2.a
          have hO3 := od_push2 hO2 HY32.out
          generalize pushOf s2 2 (Y : Int) = s3 at hp hO3
          generalize pushB s2 2 (Y : Int) = pb2 at hp
          have HO3 := hide hO3
          have HP := hide hp
          have HS2 := hide hS2
          have HK : Hid (∀ w', Below w.heap.size w w' → w'.cell? ⟨b2, off2 + k, none⟩ = some (.int .u8 y0)) := fun w' h => by
            obtain ⟨b3, off3, y3, e1, e2, _, _⟩ := HY2.out.at hk3 h
            simp only [Option.some.injEq, Addr.mk.injEq, and_true] at e1
            obtain ⟨rfl, rfl⟩ := e1
            have q1 := (h.cell (p := ⟨b2, off2 + k, none⟩) hb2)
            have q2 := (hb.cell (p := ⟨b2, off2 + k, none⟩) hb2)
            rw [q1, ← q2]; exact c0
          clear hp hO3 hS2 hO2 hx'
          obtain ⟨hy', hr', hz⟩ := HM.out
          go_wp2_with fail
          refine HP.out.mono ?_
          rintro e w3 ⟨rfl, hN⟩
          have HS3 := hide (St.now HS2.out hN)
          replace hb := turn_next hb hN.2 hBl hPl
          clear hN HS2 HP c0
          have c0 := HK.out _ hb
          by_cases h30 : r3 = 0
          · have h31 : ((r3 : Int) == 0) = true := by simp [h30]
            have hpp := pop_any B P s3 2 w3 HO3.out.ok HS3.out.a
            have hO4 := od_pop2 HO3.out
            generalize popOf s3 2 = s4 at hpp hO4
            generalize popX s3 2 = px at hpp
            generalize popB s3 2 = pq at hpp
            have HO4 := hide hO4
            have HP := hide hpp
            clear hpp hO4 h30
            go_wp2_with fail
            refine HP.out.mono ?_
            rintro e w4 ⟨rfl, hN⟩
            have HS4 := hide (St.now HS3.out hN)
            replace hb := turn_next hb hN.2 hBl hPl
            clear hN HS3 HP c0
            have c0 := HK.out _ hb
            have hrm := remove_any B P s4 (Z : Int) w4 HO4.out.ok HS4.out.a
            have hO5 := od_rm HO4.out HZ.out
            generalize rmOf s4 (Z : Int) = s5 at hrm hO5
            generalize rmB s4 (Z : Int) = rb at hrm
            have HO5 := hide hO5
            have HP := hide hrm
            clear hrm hO5
            go_wp2_with fail
            refine HP.out.mono ?_
            rintro e w5 ⟨rfl, hN⟩
            have HS5 := hide (St.now HS4.out hN)
            replace hb := turn_next hb hN.2 hBl hPl
            clear hN HS4 HP c0
            go_wp2
            go_roundw
            case rel => exact ⟨k + 1, by omega, by omega, by go_num, s5, ws2, HO5.out, HS5.out, hwl2, hb⟩
            case measure => simp [intOf]; omega
          · have h31 : ((r3 : Int) == 0) = false := by simp; omega
            have hrm := remove_any B P s3 (Z : Int) w3 HO3.out.ok HS3.out.a
            have hO5 := od_rm HO3.out HZ.out
            generalize rmOf s3 (Z : Int) = s5 at hrm hO5
            generalize rmB s3 (Z : Int) = rb at hrm
            have HO5 := hide hO5
            have HP := hide hrm
            clear hrm hO5 h30
            go_wp2_with fail
            refine HP.out.mono ?_
            rintro e w5 ⟨rfl, hN⟩
            have HS5 := hide (St.now HS3.out hN)
            replace hb := turn_next hb hN.2 hBl hPl
            clear hN HS3 HP c0
            go_wp2
            go_roundw
            case rel => exact ⟨k + 1, by omega, by omega, by go_num, s5, ws2, HO5.out, HS5.out, hwl2, hb⟩
            case measure => simp [intOf]; omega
        · have hk3' : ¬ (k : Int) < (len2 : Int) := by omega
          have HO2 := hide hO2
          have HS2 := hide hS2
          clear hO2 hS2
          go_wp2
          go_roundw
          case rel => exact ⟨k + 1, by omega, by omega, by go_num, s2, ws2, HO2.out, HS2.out, hwl2, hb⟩
          case measure => simp [intOf]; omega
    · have hwl32 : ws.length ≤ 32 := by omega
      go_upto_region 4 with fail
      go_cut [23] (fun c wx => c = .bool false ∧ wx = wr)
      case first =>
        by_cases hk1 : k < len1
        · have hk1' : (k : Int) < (len1 : Int) := by omega
          have hk2' : ¬ (k : Int) < 32 := by omega
          go_wp2_with fail
          go_meet
          exact ⟨rfl, rfl⟩
        · have hk1' : ¬ (k : Int) < (len1 : Int) := by omega
          go_wp2_with fail
          go_meet
          exact ⟨rfl, rfl⟩
      case rest =>
        obtain ⟨rfl, hwc⟩ := hcut
        have hwc' := hwc.symm
        clear hwc
        subst hwc'
        obtain ⟨a1, c1, rfl⟩ := owns_slice hS.g
        have hal := all_any B P s 1 wr hO.ok hS.a (od_len hO hwl32)
        rw [od_all hO] at hal
        have HL := hide hal
        have HS := hide hS
        have HO := hide hO
        clear hal hS hO
        go_wp2_with fail
        refine HL.out.mono ?_
        rintro e w5 ⟨v5, rfl, ho5, hb5⟩
        obtain ⟨a5, c5, rfl⟩ := owns_slice ho5
        have HS5 := hide (St.below HS.out hb5)
        have HI := hide (ints_same a5 a1 c5 c1 _ _ ws w5 (by omega) ho5 HS5.out.g)
        replace hb := below_next hb hb5
        clear ho5 hb5 HL HS
        go_wp2_with fail
        refine HI.out.mono ?_
        rintro e w6 ⟨rfl, hb6⟩
        have HS6 := hide (St.below HS5.out hb6)
        replace hb := below_next hb hb6
        clear hb6 HI HS5
        go_wp2
        go_loopw [9] (fun i wr => ∃ j : Nat, j ≤ ws.length ∧ i = .int .i64 j ∧ ∃ s, Ok s ∧ s.nq = 3 ∧ s.l 1 = ws.drop j ∧ St wr w.heap.size B P s (.slice a1 ws.length c1) ws ∧ Below w.heap.size w wr) (fun i _ => ws.length - (intOf i).toNat)
        case atStart => exact ⟨0, Nat.zero_le _, rfl, s, HO.out.ok, HO.out.nq, by rw [HO.out.l1]; rfl, HS6.out, hb⟩
        case round =>
          clear HO HS6 hb hlt hwl hk hk32
          obtain ⟨j, hj, rfl, s, hok, hnq, hl1', hS, hb⟩ := hrel
          by_cases hjl : j < ws.length
          · rw [drop_gs hjl] at hl1'
            obtain ⟨q1, q2, q3, q4, q5, q6⟩ := pop_cons (k := 1) hok (by omega) hl1'
            have hpp := pop_any B P s 1 wr hok hS.a
            rw [show popX s 1 = gs_ ws j from q1, show popB s 1 = true from q2] at hpp
            have hok2 := popOf_ok hok 1
            obtain ⟨g1, d1, hv1, _, hg1, hcell, _⟩ := row_open hS.g (by omega)
            simp only [Value.slice.injEq, true_and] at hv1
            obtain ⟨rfl, rfl⟩ := hv1
            have hown := own_other hS.a hS.g (by decide) (by decide) g1 rfl
            obtain ⟨cj, _⟩ := hcell j hjl
            have HC := hide cj
            have q3' : (popOf s 1).l 1 = ws.drop (j + 1) := q3
            have q4' : (popOf s 1).nq = s.nq := q4
            have q5' : allOf (popOf s 1) 1 = ws.drop (j + 1) := q5
            have q6' : whereOf (popOf s 1) ((gs_ ws j : Nat) : Int) = -1 := q6
            generalize popOf s 1 = s2 at hpp hok2 q3' q4' q5' q6'
            generalize gs_ ws j = X at *
            have HQ := hide (show Ok s2 ∧ s2.nq = 3 ∧ s2.l 1 = ws.drop (j + 1) ∧ allOf s2 1 = ws.drop (j + 1) ∧ whereOf s2 (X : Int) = -1 from ⟨hok2, by omega, q3', q5', q6'⟩)
            have HP := hide hpp
            have HS := hide hS
            clear hpp hok2 q1 q2 q3 q4 q5 q6 q3' q4' q5' q6' hS hok hnq hl1' hcell
            go_wp2_with fail
            refine HP.out.mono ?_
            rintro e w7 ⟨rfl, hN⟩
            have HS7 := hide (St.now HS.out hN)
            have cj : w7.cell? ⟨g1, j, none⟩ = some (.int .i64 (X : Int)) := (hN.2.cell hg1 hown.1 hown.2).trans HC.out
            replace hb := turn_next hb hN.2 hBl hPl
            clear hN HP HS HC
            obtain ⟨N, hN⟩ : ∃ N : Nat, (ws.drop (j + 1)).length = N := ⟨_, rfl⟩
            have hN' : N + 1 + j = ws.length := by rw [← hN, List.length_drop]; omega
            have hle := len_any B P s2 1 w7 HQ.out.1 HS7.out.a (by rw [HQ.out.2.2.2.1, hN]; omega)
            rw [HQ.out.2.2.2.1, hN] at hle
            have HE := hide hle
            have hXX : ((X : Int) != (X : Int)) = false := by simp
            have u1 : wrap64 ((ws.length : Int) - 1) = (ws.length : Int) - 1 := IntWalk.wrap64_in _ (by omega)
            have u2 : wrap64 ((ws.length : Int) - 1 - (j : Int)) = (N : Int) := by rw [IntWalk.wrap64_in _ (by omega)]; omega
            have u3 : IntKind.i64.wrap ((ws.length : Int) - 1) = (ws.length : Int) - 1 := wrapB (by omega)
            have u4 : IntKind.i64.wrap ((ws.length : Int) - 1 - (j : Int)) = (N : Int) := by rw [wrapB (by omega)]; omega
            have hNN : ((N : Int) != (N : Int)) = false := by simp
            have hj1 : (j : Int) < (ws.length : Int) := by omega
            have hj0 : (0 : Int) ≤ (j : Int) := by omega
            clear hle hN
            go_wp2_with fail
            refine HE.out.mono ?_
            rintro e w8 ⟨rfl, hb8⟩
            have HS8 := hide (St.below HS7.out hb8)
            replace hb := below_next hb hb8
            clear hb8 HS7 HE cj
            have hwh := where_any B P s2 (X : Int) w8 HS8.out.a
            rw [HQ.out.2.2.2.2] at hwh
            have HW := hide hwh
            clear hwh
            go_wp2_with fail
            refine HW.out.mono ?_
            rintro e w9 ⟨rfl, hw9⟩
            have hw9' := hw9.symm
            clear hw9
            subst hw9'
            clear HW
            go_wp2
            go_roundw
            case rel => exact ⟨j + 1, by omega, by go_num, s2, HQ.out.1, HQ.out.2.1, HQ.out.2.2.1, HS8.out, hb⟩
            case measure => simp [intOf]; omega
          · obtain rfl : j = ws.length := by omega
            rw [List.drop_length] at hl1'
            have hpp := pop_any B P s 1 wr hok hS.a
            rw [show popB s 1 = false from (pop_empty (k := 1) hl1').1] at hpp
            generalize popOf s 1 = s2 at hpp
            generalize popX s 1 = px at hpp
            have HP := hide hpp
            clear hpp hS
            go_wp2_with fail
            refine HP.out.mono ?_
            rintro e w7 ⟨rfl, hN⟩
            replace hb := turn_next hb hN.2 hBl hPl
            clear hN HP
            go_wp2_with fail
            refine (awake_any _).mono ?_
            rintro e w8 ⟨rfl, hb8⟩
            replace hb := below_next hb hb8
            go_wp2
            go_ret
            exact ⟨rfl, hb⟩

end Go.Proofs.Ytonahaembfbgbaa
