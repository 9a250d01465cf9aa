/-
  The walk of the law FifoPlays.
-/
import Derived.Test.YtonahaembfbgbaaPlays
import Derived.Test.YtonahaembfbgbaaOneWalk
import Derived.Deep.RegionHeld3
namespace Go.Proofs.Ytonahaembfbgbaa
open Go.RowKit
attribute [local go_sem ↓] Go.wp_at_zero Go.wp_at_succ

/-- What holds at each round's head. -/
def PlaysAt (w : World) (B P R T nq : Nat) (wr : World) : Prop := ∃ s vs, Ok s ∧ s.nq = nq ∧ PS w B P R T wr s s vs

set_option maxHeartbeats 8000000 in
set_option maxRecDepth 100000 in
theorem fifoPlays_walk (queues items : Int) (ad : Option Addr) (len cap : Nat) (hcap : len ≤ cap) (hmax : cap ≤ maxLen) (w : World) (hact : Acts w ad len) :
    Calls Try.prog 3 #[.int .i64 queues, .int .i64 items, .slice ad len cap] w fun e w' => e = .returned (.bool true) ∧ Below w.heap.size w w' := by
  have hl : len ≤ 9223372036854775807 := by unfold maxLen at hmax; omega
  have HAC := hide hact
  clear hmax hact
  obtain ⟨nq, hnq⟩ : ∃ nq, nq = heldN queues := ⟨_, rfl⟩
  have hq32 : nq ≤ 32 := by rw [hnq]; exact heldN_le _
  go_enter Try.func3, Try.ntmps3
  go_wp2_with fail
  refine (new_any queues items _).mono ?_
  rintro e w1 ⟨rfl, hA, hb⟩
  obtain ⟨B, hB⟩ : ∃ B, B = w.heap.size + 1 := ⟨_, rfl⟩
  obtain ⟨P, hP⟩ : ∃ P, P = w.heap.size := ⟨_, rfl⟩
  rw [← hB] at hA ⊢
  have HA : Hid (AtQ w1 B P (newOf (heldN queues) (heldN items))) := by rw [hP]; exact hA
  have hBl : w.heap.size ≤ B := by omega
  have hPl : w.heap.size ≤ P := by omega
  have hz1 := hb.size
  clear hA hB hP
  go_wp2_with fail
  refine (refNew_any queues items _).mono ?_
  rintro e w2 ⟨rfl, hR, hb2⟩
  obtain ⟨R, hRe⟩ : ∃ R, R = w1.heap.size + 1 := ⟨_, rfl⟩
  obtain ⟨T, hTe⟩ : ∃ T, T = w1.heap.size := ⟨_, rfl⟩
  rw [← hRe] at hR ⊢
  have hRl : w.heap.size ≤ R := by omega
  have hTl : w.heap.size ≤ T := by omega
  have H0 : Hid (PlaysAt w B P R T nq w2) := ⟨newOf (heldN queues) (heldN items), fun _ => .slice none 0 0, newOf_ok (heldN_le _) (heldN_le _), hnq.symm, ⟨AtQ.below HA.out hb2, by rw [hTe]; exact hR, below_next hb hb2⟩⟩
  clear HA hR hRe hTe hb hb2 hz1 hnq
  go_wp2
  go_loopw [9] (fun i wr => ∃ k : Nat, k ≤ len ∧ k ≤ 60 ∧ i = .int .i64 k ∧ PlaysAt w B P R T nq wr) (fun i _ => len - (intOf i).toNat)
  case atStart => exact ⟨0, Nat.zero_le _, Nat.zero_le _, rfl, H0.out⟩
  case round =>
    clear H0
    obtain ⟨k, hk, hk60, rfl, s, vs, hok, hsn, hps⟩ := hrel
    by_cases hlt : k < len ∧ k < 60
    · obtain ⟨hk1, hk2⟩ := hlt
      have hk1' : (k : Int) < (len : Int) := by omega
      have hk2' : (k : Int) < 60 := by omega
      obtain ⟨b, off, d, x, y, rfl, c0, c1, c2, hd⟩ := HAC.out.at hk1 hps.b
      obtain ⟨r5, hr5⟩ : ∃ r5 : Int, d.tmod 5 = r5 := ⟨_, rfl⟩
      have HO := hide hok
      have HSN := hide hsn
      have HPS := hide hps
      clear hok hsn hps
      go_upto_region 6 with fail
      have hW1 : Below wr.heap.size wr (wr.alloc (.cells #[.int .u8 d, .int .i64 x, .int .i64 y] 28)) := (Below.refl _ _).alloc (Nat.le_refl _) _
      have hbx := Box.new wr d x y
      obtain ⟨x0, x1, x2⟩ := hbx.cells
      have HPB := hide (PB.mk (HPS.out.below hW1) hbx)
      clear HPS hW1 hbx c0 c1 c2
      generalize wr.alloc (.cells #[.int .u8 d, .int .i64 x, .int .i64 y] 28) = W1 at *
      generalize wr.heap.size = bx at *
      go_cut [38] (fun v wx => v = .int .u8 r5 ∧ wx = W1)
      case first =>
        go_wp2_with fail
        go_meet
        exact ⟨rfl, rfl⟩
      case rest =>
        obtain ⟨rfl, hwc⟩ := hcut
        have hwc' := hwc.symm
        clear hwc
        subst hwc'
        rename_i hBlk
        refine hBlk _ _ ?_
        go_cut [38] (fun v wx => v = .int .u8 r5 ∧ ∃ s vs, Ok s ∧ s.nq = nq ∧ PB w B P R T bx d x y wx s s vs)
        case first =>
          by_cases h0 : r5 = 0
          · have h0' : (r5 == 0) = true := by simp [h0]
            have T1 := pop_both (x := x) HO.out hBl hPl W1 HPB.out
            have T2 := fun W vs h => pop_both2 (w := w) (R := R) (T := T) (s3 := popOf s x) (vs := vs) (x := x) (y := y) (d := d) (B := B) (P := P) (bx := bx) HO.out hRl hTl W h
            have hO3 := Sz.pop (Sz.mk HO.out HSN.out rfl) x
            generalize popOf s x = s3 at T1 T2 hO3
            generalize popX s x = px at T1 T2
            generalize popB s x = pb at T1 T2
            have HT1 := hide T1
            have HT2 := hide T2
            have HO3 := hide hO3
            have hpx : ((px : Int) != (px : Int)) = false := by simp
            have hpb : (pb != pb) = false := by cases pb <;> rfl
            clear T1 T2 hO3 h0
            go_wp2_with fail
            refine HT1.out.mono ?_
            rintro e w3 ⟨rfl, hP3⟩
            obtain ⟨z0, z1, z2⟩ := hP3.x.cells
            have HP3 := hide hP3
            clear hP3 HT1
            go_wp2_with fail
            refine (HT2.out _ _ HP3.out).mono ?_
            rintro e w4 ⟨rfl, vs', hP4⟩
            have HP4 := hide hP4
            clear hP4 HT2 HP3
            go_wp2_with fail
            go_meet
            exact ⟨rfl, s3, vs', HO3.out.ok, HO3.out.nq, HP4.out⟩
          · have h0' : (r5 == 0) = false := by simp [h0]
            by_cases h1 : r5 = 1
            · have h1' : (r5 == 1) = true := by simp [h1]
              have T1 := fun W h => rm_both (w := w) (B := B) (P := P) (R := R) (T := T) (bx := bx) (x := x) (y := y) (d := d) (s := s) (vs := vs) HO.out hBl hPl W h
              have T2 := fun W vs h => rm_both2 (w := w) (R := R) (T := T) (s3 := rmOf s y) (vs := vs) (x := x) (y := y) (d := d) (B := B) (P := P) (bx := bx) HO.out hRl hTl W h
              have hO3 := Sz.rm (Sz.mk HO.out HSN.out rfl) y
              generalize rmOf s y = s3 at T1 T2 hO3
              generalize rmB s y = pb at T1 T2
              have HT1 := hide T1
              have HT2 := hide T2
              have HO3 := hide hO3
              have hpb : (pb != pb) = false := by cases pb <;> rfl
              clear T1 T2 hO3 h0 h1
              go_wp2_with fail
              go_region_held3 (fun w' => w'.cell? ⟨bx, 2, none⟩ = some (.int .i64 y)) (first | assumption | go_keep) (first | (go_at_call 12; refine (HT1.out _ (by exact HPB.out.drew)).mono ?_; rintro e w3 ⟨rfl, hP3⟩; obtain ⟨z0, z1, z2⟩ := hP3.x.cells) | (go_at_call 13; refine (HT2.out _ _ hP3).mono ?_; rintro e w4 ⟨rfl, vs', hP4⟩; obtain ⟨y0, y1, y2⟩ := hP4.x.cells))
              have HP4 := hide hP4
              clear hP4 hP3
              go_wp2_with fail
              go_meet
              exact ⟨rfl, s3, vs', HO3.out.ok, HO3.out.nq, HP4.out⟩
            · have h1' : (r5 == 1) = false := by simp [h1]
              have T1 := fun W h => push_both (w := w) (B := B) (P := P) (R := R) (T := T) (bx := bx) (x := x) (y := y) (d := d) (s := s) (vs := vs) HO.out hBl hPl W h
              have T2 := fun W vs h => push_both2 (w := w) (R := R) (T := T) (s3 := pushOf s x y) (vs := vs) (x := x) (y := y) (d := d) (B := B) (P := P) (bx := bx) HO.out hRl hTl W h
              have hO3 := Sz.push (Sz.mk HO.out HSN.out rfl) x y
              generalize pushOf s x y = s3 at T1 T2 hO3
              generalize pushB s x y = pb at T1 T2
              have HT1 := hide T1
              have HT2 := hide T2
              have HO3 := hide hO3
              have hpb : (pb != pb) = false := by cases pb <;> rfl
              clear T1 T2 hO3 h0 h1
              go_wp2_with fail
              go_region_held3 (fun w' => w'.cell? ⟨bx, 1, none⟩ = some (.int .i64 x) ∧ w'.cell? ⟨bx, 2, none⟩ = some (.int .i64 y)) (first | (constructor <;> assumption) | go_keep) (first | (go_at_call 14; refine (HT1.out _ (by exact HPB.out.drew)).mono ?_; rintro e w3 ⟨rfl, hP3⟩; obtain ⟨z0, z1, z2⟩ := hP3.x.cells) | (go_at_call 15; refine (HT2.out _ _ hP3).mono ?_; rintro e w4 ⟨rfl, vs', hP4⟩; obtain ⟨y0, y1, y2⟩ := hP4.x.cells))
              have HP4 := hide hP4
              clear hP4 hP3
              go_wp2_with fail
              go_meet
              exact ⟨rfl, s3, vs', HO3.out.ok, HO3.out.nq, HP4.out⟩
        case rest =>
          obtain ⟨rfl, s2, vs2, hok2, hsn2, hPB2⟩ := hcut
          have r0 := hPB2.p.r.cells.1
          rw [hsn2] at r0
          have HPB2 := hide hPB2
          have HO2 := hide hok2
          have HSN2 := hide hsn2
          clear HPB HO HSN x0 x1 x2 hPB2 hok2 hsn2
          go_wp2
          go_loopw [15] (fun i wx => ∃ n : Nat, n ≤ nq ∧ i = .int .i64 n ∧ PB w B P R T bx d x y wx s2 s2 vs2) (fun i _ => nq - (intOf i).toNat)
          case atStart => exact ⟨0, Nat.zero_le _, rfl, HPB2.out⟩
          case round =>
            clear HPB2 r0
            obtain ⟨n, hn, rfl, hPB⟩ := hrel
            have r0 := hPB.p.r.cells.1
            rw [HSN2.out] at r0
            by_cases hnl : n < nq
            · have hns : n < s2.nq := by rw [HSN2.out]; exact hnl
              obtain ⟨m, hm⟩ : ∃ m, (s2.l n).length = m := ⟨_, rfl⟩
              have hm32 : m ≤ 32 := by have := all_few HO2.out (n : Int); rw [all_nat hns, hm] at this; exact this
              obtain ⟨a, c, _, hall⟩ := row_both hns hm hPB
              rw [HSN2.out] at hall
              obtain ⟨_, _, t0, _, _⟩ := hall _ hPB
              have HALL := hide hall
              have HA := hide (fun W h => all_both (w := w) (B := B) (P := P) (R := R) (T := T) (bx := bx) (x := x) (y := y) (d := d) (s := s2) (vs := vs2) HO2.out hns hm W h)
              have HL := hide (fun W h => len_both (w := w) (B := B) (P := P) (R := R) (T := T) (bx := bx) (x := x) (y := y) (d := d) (s := s2) (vs := vs2) HO2.out hns hm W h)
              have HI := hide (fun W a1 c1 h1 h2 h => ints_both (w := w) (B := B) (P := P) (R := R) (T := T) (bx := bx) (x := x) (y := y) (d := d) (s := s2) (vs := vs2) (l := s2.l n) (a1 := a1) (a2 := a) (m := m) (c1 := c1) (c2 := c) (by omega) W h1 h2 h)
              have HPB := hide hPB
              have hmm : ((m : Int) != (m : Int)) = false := by simp
              have hnl' : (n : Int) < (nq : Int) := by omega
              have hn0 : (0 : Int) ≤ (n : Int) := by omega
              clear hall hPB hm hns
              go_wp2_with fail
              go_region_held3 (fun w' => w'.cell? ⟨R, 0, none⟩ = some (.slice (some ⟨T, 0, none⟩) nq nq) ∧ w'.cell? ⟨T, n, none⟩ = some (.slice a m c)) (first | (constructor <;> assumption) | go_keep) (first | (go_at_call 17; refine (HA.out _ (by exact HPB.out.drew)).mono ?_; rintro e w3 ⟨a3, c3, rfl, hr3, hP3⟩; obtain ⟨hq3, y0, y1, y2, y3⟩ := HALL.out _ hP3) | (go_at_call 16; refine (HI.out _ _ _ hr3 hq3 hP3).mono ?_; rintro e w4 ⟨rfl, hP4⟩; obtain ⟨hq4, v0, v1, v2, v3⟩ := HALL.out _ hP4) | (go_at_call 18; refine (HL.out _ hP4).mono ?_; rintro e w5 ⟨rfl, hP5⟩; obtain ⟨hq5, q0, q1, q2, q3⟩ := HALL.out _ hP5))
              have HP5 := hide hP5
              clear hP5 hP4 hP3
              go_wp2
              go_roundw
              case rel => exact ⟨n + 1, by omega, by go_num, HP5.out⟩
              case measure => simp [intOf]; omega
            · have hnl' : ¬ (n : Int) < (nq : Int) := by omega
              obtain ⟨z0, z1, z2⟩ := hPB.x.cells
              have W1' := fun W h => where_both (w := w) (B := B) (P := P) (R := R) (T := T) (bx := bx) (x := x) (y := y) (d := d) (s := s2) (vs := vs2) W h
              have W2' := fun W h => where_both2 (w := w) (B := B) (P := P) (R := R) (T := T) (bx := bx) (x := x) (y := y) (d := d) (s := s2) (vs := vs2) HO2.out W h
              generalize whereOf s2 y = v at W1' W2'
              have HW1 := hide W1'
              have HW2 := hide W2'
              have HPB := hide hPB
              have hvv : (v != v) = false := by simp
              clear W1' W2' hPB
              go_wp2_with fail
              go_region_held3 (fun w' => w'.cell? ⟨bx, 2, none⟩ = some (.int .i64 y)) (first | assumption | go_keep) (first | (go_at_call 19; refine (HW1.out _ (by exact HPB.out.drew)).mono ?_; rintro e w3 ⟨rfl, hw3⟩; have hw3' := hw3.symm; clear hw3; subst hw3') | (go_at_call 20; refine (HW2.out _ (by exact HPB.out.drew)).mono ?_; rintro e w3 ⟨rfl, hw3⟩; have hw3' := hw3.symm; clear hw3; subst hw3'))
              go_wp2
              go_roundw
              case rel => exact ⟨k + 1, by omega, by omega, by go_num, s2, vs2, HO2.out, HSN2.out, HPB.out.drew.p⟩
              case measure => simp [intOf]; omega
    · have hb := hps.b
      clear hps
      by_cases hk1 : k < len
      all_goals
        have hk1' := hk1
        go_wp2_with fail
        refine (awake_any _).mono ?_
        rintro e w2 ⟨rfl, hb2⟩
        replace hb := below_next hb hb2
        go_wp2
        go_ret
        exact ⟨rfl, hb⟩

end Go.Proofs.Ytonahaembfbgbaa
