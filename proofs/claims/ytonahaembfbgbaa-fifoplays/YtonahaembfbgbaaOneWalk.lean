/-
  The walk of the law FifoOne.
-/
import Derived.Test.YtonahaembfbgbaaOne
import Derived.Test.YtonahaembfbgbaaActs
import Derived.Deep.DeepCutAuto
namespace Go.Proofs.Ytonahaembfbgbaa
open Go.RowKit

theorem Acts.at {w wr : World} {ad : Option Addr} {len k : Nat} (h : Acts w ad len) (hk : k < len) (hb : Below w.heap.size w wr) :
    ∃ b off, ∃ d x y : Int, ad = some ⟨b, off, none⟩ ∧ wr.cell? ⟨b, off + k * 3, none⟩ = some (.int .u8 d) ∧ wr.cell? ⟨b, off + k * 3 + 1, none⟩ = some (.int .i64 x) ∧ wr.cell? ⟨b, off + k * 3 + 2, none⟩ = some (.int .i64 y) ∧ (0 ≤ d ∧ d ≤ 255) := by
  obtain ⟨b, off, d, x, y, h1, h2, h3, h4, h5, h6⟩ := h k hk
  exact ⟨b, off, d, x, y, h1, (hb.cell (p := ⟨b, _, none⟩) h2).trans h3, (hb.cell (p := ⟨b, _, none⟩) h2).trans h4, (hb.cell (p := ⟨b, _, none⟩) h2).trans h5, h6⟩

/-- What holds at each round's head, while there are acts. -/
def OneAt (w : World) (B P nq ni : Nat) (wr : World) : Prop := ∃ s, Sz s nq ni ∧ AtQ wr B P s ∧ Below w.heap.size w wr

set_option maxHeartbeats 8000000 in
set_option maxRecDepth 100000 in
theorem fifoOne_walk (ad : Option Addr) (len cap : Nat) (hcap : len ≤ cap) (hmax : cap ≤ maxLen) (w : World) (hact : Acts w ad len) :
    Calls Try.prog 5 #[.slice ad len cap] w fun e w' => e = .returned (.bool true) ∧ Below w.heap.size w w' := by
  have hl : len ≤ 9223372036854775807 := by unfold maxLen at hmax; omega
  have HAC := hide hact
  clear hmax hact
  have HN : Hid (∀ W : World, Calls Try.prog 8 #[.int .i64 4, .int .i64 12] W fun e w' => e = .returned (.pointer (some ⟨W.heap.size + 1, 0, none⟩)) ∧ AtQ w' (W.heap.size + 1) W.heap.size (newOf 4 12) ∧ Below W.heap.size W w') := fun W => new_any 4 12 W
  go_enter Try.func5, Try.ntmps5
  go_wp2_with fail
  refine (HN.out _).mono ?_
  rintro e w1 ⟨rfl, hA, hb⟩
  obtain ⟨B, hB⟩ : ∃ B, B = w.heap.size + 1 := ⟨_, rfl⟩
  obtain ⟨P, hP⟩ : ∃ P, P = w.heap.size := ⟨_, rfl⟩
  rw [← hB] at hA ⊢
  have HA : Hid (AtQ w1 B P (newOf 4 12)) := by rw [hP]; exact hA
  have hBl : w.heap.size ≤ B := by omega
  have hPl : w.heap.size ≤ P := by omega
  clear hA hB hP HN
  go_wp2
  go_loopw [4] (fun i wr => ∃ k : Nat, k ≤ len ∧ k ≤ 50 ∧ i = .int .i64 k ∧ OneAt w B P 4 12 wr) (fun i _ => len - (intOf i).toNat)
  case atStart => exact ⟨0, Nat.zero_le _, Nat.zero_le _, rfl, newOf 4 12, ⟨newOf_ok (by omega) (by omega), rfl, rfl⟩, HA.out, hb⟩
  case round =>
    clear HA hb
    obtain ⟨k, hk, hk50, rfl, s, hZ, hA, hb⟩ := hrel
    by_cases hlt : k < len ∧ k < 50
    · obtain ⟨hk1, hk2⟩ := hlt
      have hk1' : (k : Int) < (len : Int) := by omega
      have hk2' : (k : Int) < 50 := by omega
      obtain ⟨b, off, d, x, y, rfl, c0, c1, c2, hd⟩ := HAC.out.at hk1 hb
      obtain ⟨r4, hr4⟩ : ∃ r4 : Int, d.tmod 4 = r4 := ⟨_, rfl⟩
      have HZ := hide hZ
      have HA := hide hA
      clear hZ hA
      go_upto_if 30 with fail
      have hW1 : Below wr.heap.size wr (wr.alloc (.cells #[.int .u8 d, .int .i64 x, .int .i64 y] 28)) := (Below.refl _ _).alloc (Nat.le_refl _) _
      have x0 : (wr.alloc (.cells #[.int .u8 d, .int .i64 x, .int .i64 y] 28)).cell? ⟨wr.heap.size, 0, none⟩ = some (.int .u8 d) := by simp [go_sem]
      have x1 : (wr.alloc (.cells #[.int .u8 d, .int .i64 x, .int .i64 y] 28)).cell? ⟨wr.heap.size, 1, none⟩ = some (.int .i64 x) := by simp [go_sem]
      have x2 : (wr.alloc (.cells #[.int .u8 d, .int .i64 x, .int .i64 y] 28)).cell? ⟨wr.heap.size, 2, none⟩ = some (.int .i64 y) := by simp [go_sem]
      generalize wr.alloc (.cells #[.int .u8 d, .int .i64 x, .int .i64 y] 28) = W1 at *
      have HA1 := hide (AtQ.below HA.out hW1)
      replace hb := below_next hb hW1
      clear HA hW1 c0 c1 c2
      by_cases h0 : r4 = 0
      · have h0' : (r4 == 0) = true := by simp [h0]
        have hpp := pop_any B P s x W1 HZ.out.ok HA1.out
        have hZ2 := HZ.out.pop x
        generalize popOf s x = s2 at hpp hZ2
        generalize popX s x = px at hpp
        generalize popB s x = pq at hpp
        have HP := hide hpp
        have HZ2 := hide hZ2
        clear hpp hZ2 h0
        go_wp2_with fail
        refine HP.out.mono ?_
        rintro e w4 ⟨rfl, hN⟩
        have HA2 := hide hN.1
        replace hb := turn_next hb hN.2 hBl hPl
        clear hN HP
        go_wp2
        go_roundw
        case rel => exact ⟨k + 1, by omega, by omega, by go_num, s2, HZ2.out, HA2.out, hb⟩
        case measure => simp [intOf]; omega
      · have h0' : (r4 == 0) = false := by simp [h0]
        by_cases h1 : r4 = 1
        · have h1' : (r4 == 1) = true := by simp [h1]
          have hpp := remove_any B P s y W1 HZ.out.ok HA1.out
          have hZ2 := HZ.out.rm y
          generalize rmOf s y = s2 at hpp hZ2
          generalize rmB s y = px at hpp
          have HP := hide hpp
          have HZ2 := hide hZ2
          clear hpp hZ2 h0 h1
          go_wp2_with fail
          refine HP.out.mono ?_
          rintro e w4 ⟨rfl, hN⟩
          have HA2 := hide hN.1
          replace hb := turn_next hb hN.2 hBl hPl
          clear hN HP
          go_wp2
          go_roundw
          case rel => exact ⟨k + 1, by omega, by omega, by go_num, s2, HZ2.out, HA2.out, hb⟩
          case measure => simp [intOf]; omega
        · have h1' : (r4 == 1) = false := by simp [h1]
          have hwh := where_any B P s y W1 HA1.out
          have hpp := push_any B P s x y W1 HZ.out.ok HA1.out
          have hZ2 := HZ.out.push x y
          have hws := push_was (s := s) (k := x) (x := y)
          generalize pushOf s x y = s2 at hpp hZ2
          generalize pushB s x y = pb at hpp hws
          generalize whereOf s y = wy at hwh hws
          have HP := hide hpp
          have HW := hide hwh
          have HZ2 := hide hZ2
          clear hpp hwh hZ2 h0 h1
          cases pb
          · clear hws
            go_wp2_with fail
            refine HW.out.mono ?_
            rintro e w3 ⟨rfl, hw3⟩
            have hw3' := hw3.symm
            clear hw3
            subst hw3'
            go_wp2_with fail
            refine HP.out.mono ?_
            rintro e w4 ⟨rfl, hN⟩
            have HA2 := hide hN.1
            replace hb := turn_next hb hN.2 hBl hPl
            clear hN HP HW
            go_wp2
            go_roundw
            case rel => exact ⟨k + 1, by omega, by omega, by go_num, s2, HZ2.out, HA2.out, hb⟩
            case measure => simp [intOf]; omega
          · have hwy := hws rfl
            subst hwy
            clear hws
            go_wp2_with fail
            refine HW.out.mono ?_
            rintro e w3 ⟨rfl, hw3⟩
            have hw3' := hw3.symm
            clear hw3
            subst hw3'
            go_wp2_with fail
            refine HP.out.mono ?_
            rintro e w4 ⟨rfl, hN⟩
            have HA2 := hide hN.1
            replace hb := turn_next hb hN.2 hBl hPl
            clear hN HP HW
            go_wp2
            go_roundw
            case rel => exact ⟨k + 1, by omega, by omega, by go_num, s2, HZ2.out, HA2.out, hb⟩
            case measure => simp [intOf]; omega
    · clear HAC
      have hi3 := info_parts info3
      obtain ⟨i0, hi, hz0, hz1, hz2⟩ := hi3
      have hmk : ∀ W : World, (Instr.makeSlice 37 (.int .i64 12) (.int .i64 12)).run Try.prog W = .ok (.slice (some ⟨W.heap.size, 0, none⟩) 12 12) (W.alloc (.cells (madeCells #[Value.int .i64 0] 12) 3)) := fun W => by
        have h := run_make (P := Try.prog) W 37 3 i0 _ Try.underlying37 hi hz0 .i64 .i64 12 12 (by omega) (by omega) (by rw [hz2]; omega) (by omega)
        simp only [hz1] at h
        exact h
      obtain ⟨cs, hcs⟩ : ∃ cs, cs = madeCells #[Value.int .i64 0] 12 := ⟨_, rfl⟩
      have HC : Hid (cs = madeCells #[Value.int .i64 0] 12) := hcs
      rw [← hcs] at hmk
      have HZ := hide hZ
      have HA := hide hA
      clear hcs hi hz0 hz1 hz2 hZ hA
      go_upto_region 3 with fail
      go_cut [20] (fun c wx => c = .bool false ∧ wx = wr)
      case first =>
        by_cases hk1 : k < len
        · have hk1' : (k : Int) < (len : Int) := by omega
          have hk2' : ¬ (k : Int) < 50 := by omega
          go_wp2_with fail
          go_meet
          exact ⟨rfl, rfl⟩
        · have hk1' : ¬ (k : Int) < (len : Int) := by omega
          go_wp2_with fail
          go_meet
          exact ⟨rfl, rfl⟩
      case rest =>
        obtain ⟨rfl, hwc⟩ := hcut
        have hwc' := hwc.symm
        clear hwc
        subst hwc'
        go_wp2
        have hC0 : HasC (wr.alloc (.cells cs 3)) wr.heap.size 12 (met s 0 0) := by
          refine ⟨cs, heap_alloc_new _ _, by rw [HC.out, size_madeCells], fun i hi => ?_⟩
          rw [HC.out, met_start]
          simp [madeCells, hi, Nat.mod_one]
        have hA0 : AtQ (wr.alloc (.cells cs 3)) B P s := AtQ.below HA.out ((Below.refl _ _).alloc (Nat.le_refl _) _)
        have hGB : wr.heap.size ≠ B := by have := AtQ.ltB HA.out; omega
        have hGP : wr.heap.size ≠ P := by have := AtQ.ltP HA.out; omega
        have hGl : w.heap.size ≤ wr.heap.size := hb.size
        have hb0 := hb.alloc hb.size (.cells cs 3)
        have H0 := hide (And.intro hA0 (And.intro hC0 hb0))
        clear hC0 hA0 hb0 hb HA HC hmk
        generalize wr.alloc (.cells cs 3) = W0 at *
        generalize wr.heap.size = G at *
        have hnq := HZ.out.nq
        have hni := HZ.out.ni
        have HO := hide HZ.out.ok
        clear HZ
        go_loopw [8] (fun i wr => ∃ n : Nat, n ≤ 4 ∧ i = .int .i64 n ∧ AtQ wr B P s ∧ HasC wr G 12 (met s n 0) ∧ Below w.heap.size w wr) (fun i _ => 4 - (intOf i).toNat)
        case atStart => exact ⟨0, Nat.zero_le _, rfl, H0.out.1, H0.out.2.1, H0.out.2.2⟩
        case round =>
          clear H0 hk hk50 hlt
          obtain ⟨n, hn, rfl, hA, hC, hb⟩ := hrel
          by_cases hn4 : n < 4
          · have hn4' : (n : Int) < 4 := by omega
            have hal := all_any B P s (n : Int) wr HO.out hA (by have := all_few HO.out (n : Int); omega)
            have hll : (s.l n).length ≤ 32 := by have := all_few HO.out (n : Int); rw [all_nat (by omega)] at this; exact this
            have hle := fun W hA => len_any B P s (n : Int) W HO.out hA (by have := all_few HO.out (n : Int); omega)
            rw [all_nat (show n < s.nq by omega)] at hal hle
            have HL := hide hal
            have HE := hide hle
            have HA := hide hA
            have HCC := hide hC
            have hGw := hC.lt
            clear hal hle hA hC
            go_wp2_with fail
            refine HL.out.mono ?_
            rintro e w5 ⟨v5, rfl, ho5, hb5⟩
            obtain ⟨a5, c5, rfl⟩ := owns_slice ho5
            have HA5 := hide (AtQ.below HA.out hb5)
            have HC5 := hide (HCC.out.below hb5)
            have HO5 := hide ho5
            have HB := hide (below_next hb hb5)
            clear HL HA HCC ho5 hb5 hb
            go_wp2_with fail
            refine (HE.out _ HA5.out).mono ?_
            rintro e w6 ⟨rfl, hb6⟩
            have HA6 := hide (AtQ.below HA5.out hb6)
            have HC6 := hide (HC5.out.below hb6)
            have HO6 := hide (owns_below HO5.out hb6)
            have HB6 := hide (below_next HB.out hb6)
            have hLL : (((s.l n).length : Int) != ((s.l n).length : Int)) = false := by simp
            clear HE HA5 HC5 HO5 HB hb6
            obtain ⟨base, hbase⟩ : ∃ base, base = wr.heap.size := ⟨_, rfl⟩
            rw [← hbase] at HO6 hGw
            clear hbase
            go_wp2
            go_loopw [10] (fun i w7 => ∃ j : Nat, j ≤ (s.l n).length ∧ i = .int .i64 j ∧ AtQ w7 B P s ∧ HasC w7 G 12 (met s n j) ∧ w7.ownsRow base 3 1 (.slice a5 (s.l n).length c5) (s.l n).length (cI (s.l n)) ∧ Below w.heap.size w w7) (fun i _ => (s.l n).length - (intOf i).toNat)
            case atStart => exact ⟨0, Nat.zero_le _, rfl, HA6.out, HC6.out, HO6.out, HB6.out⟩
            case round =>
              clear HA6 HC6 HO6 HB6
              obtain ⟨j, hj, rfl, hA, hC, hR, hb⟩ := hrel
              by_cases hjl : j < (s.l n).length
              · obtain ⟨g1, d1, hv1, _, hg1, hcell, _⟩ := row_open hR (by omega)
                simp only [Value.slice.injEq, true_and] at hv1
                obtain ⟨rfl, rfl⟩ := hv1
                obtain ⟨cj, _⟩ := hcell j hjl
                have hgx : (s.l n)[j]? = some (gs_ (s.l n) j) := by simp [gs_, hjl]
                have hxm := (HO.out.mem n _ (by omega)).1 (List.mem_of_getElem? hgx)
                have hm0 := met_none HO.out (show n < s.nq by omega) hgx
                have HM := hide (met_next HO.out (show n < s.nq by omega) hgx)
                have hwh := where_any B P s ((gs_ (s.l n) j : Nat) : Int) wr hA
                rw [show whereOf s ((gs_ (s.l n) j : Nat) : Int) = (n : Int) from by
                  unfold whereOf
                  rw [if_pos (show hasI s ((gs_ (s.l n) j : Nat) : Int) from ⟨by omega, by omega⟩)]
                  simpa using hxm.2] at hwh
                have hx12 : gs_ (s.l n) j < 12 := by omega
                generalize gs_ (s.l n) j = x at *
                obtain ⟨cx, fx⟩ := hC.cell hx12
                rw [hm0] at cx
                replace cx : wr.cell? ⟨G, x, none⟩ = some (.int .i64 0) := cx
                have HW := hide hwh
                have HA := hide hA
                have HCC := hide hC
                have HR := hide hR
                have d1 : decide ((x : Int) < 0) = false := by simp
                have d2 : decide (12 ≤ (x : Int)) = false := by simp; omega
                have dn : ((n : Int) != (n : Int)) = false := by simp
                have hj1 : (j : Int) < ((s.l n).length : Int) := by omega
                have hx1 : (x : Int) < 12 := by omega
                clear hwh hA hC hR hcell hgx hxm hm0
                go_wp2_with fail
                refine HW.out.mono ?_
                rintro e w8 ⟨rfl, hw8⟩
                have hw8' := hw8.symm
                clear hw8
                subst hw8'
                clear HW
                go_wp2
                go_roundw
                case rel => exact ⟨j + 1, by omega, by go_num, AtQ.far HA.out hGB hGP _ _, HCC.out.set x 1 (fun i _ => HM.out i), owns_far HR.out hGw, hb.setCell (p := ⟨G, x, none⟩) hGl _⟩
                case measure => simp [intOf]; omega
              · have HX := hide (And.intro hA (hC.to fun i hi => (show met s (n + 1) 0 i = met s n j i by rw [show j = (s.l n).length by omega]; exact (met_queue HO.out (by omega) (by omega)).symm)))
                have hj1 : ¬ (j : Int) < ((s.l n).length : Int) := by omega
                clear hA hC hR
                go_wp2
                go_roundw
                case rel => exact ⟨n + 1, by omega, by go_num, HX.out.1, HX.out.2, hb⟩
                case measure => simp [intOf]; omega
          · have hn5 : s.nq = n := by omega
            have HN5 := hide hn5
            have hn4' : ¬ (n : Int) < 4 := by omega
            clear hn5 hnq
            have HX := hide (And.intro hA hC)
            clear hA hC
            go_wp2
            go_loopw [11] (fun i w7 => ∃ j : Nat, j ≤ 12 ∧ i = .int .i64 j ∧ AtQ w7 B P s ∧ HasC w7 G 12 (met s n 0) ∧ Below w.heap.size w w7) (fun i _ => 12 - (intOf i).toNat)
            case atStart => exact ⟨0, Nat.zero_le _, rfl, HX.out.1, HX.out.2, hb⟩
            case round =>
              clear HX hb
              obtain ⟨j, hj, rfl, hA, hC, hb⟩ := hrel
              by_cases hjl : j < 12
              · have hj1 : (j : Int) < 12 := by omega
                obtain ⟨cx, _⟩ := hC.cell hjl
                have hme := met_end HO.out (show j < s.ni by omega)
                rw [HN5.out] at hme
                have hwh := where_any B P s (j : Int) wr hA
                have HA := hide hA
                have HCC := hide hC
                clear hA hC
                generalize met s n 0 j = c at hme cx
                generalize whereOf s (j : Int) = v at hme hwh
                obtain ⟨hm1, hm2⟩ := hme
                by_cases hc : c = 0
                · subst hc
                  have hv := hm2 rfl
                  subst hv
                  replace cx : wr.cell? ⟨G, j, none⟩ = some (.int .i64 0) := cx
                  have HW := hide hwh
                  clear hwh hm1 hm2
                  go_wp2_with fail
                  refine HW.out.mono ?_
                  rintro e w8 ⟨rfl, hw8⟩
                  have hw8' := hw8.symm
                  clear hw8
                  subst hw8'
                  clear HW
                  go_wp2
                  go_roundw
                  case rel => exact ⟨j + 1, by omega, by go_num, HA.out, HCC.out, hb⟩
                  case measure => simp [intOf]; omega
                · obtain rfl : c = 1 := by omega
                  replace cx : wr.cell? ⟨G, j, none⟩ = some (.int .i64 1) := cx
                  clear hwh hm1 hm2
                  go_wp2
                  go_roundw
                  case rel => exact ⟨j + 1, by omega, by go_num, HA.out, HCC.out, hb⟩
                  case measure => simp [intOf]; omega
              · have hj1 : ¬ (j : Int) < 12 := by omega
                clear hA hC
                go_wp2_with fail
                refine (awake_any _).mono ?_
                rintro e w8 ⟨rfl, hb8⟩
                replace hb := below_next hb hb8
                go_wp2
                go_ret
                exact ⟨rfl, hb⟩

end Go.Proofs.Ytonahaembfbgbaa
