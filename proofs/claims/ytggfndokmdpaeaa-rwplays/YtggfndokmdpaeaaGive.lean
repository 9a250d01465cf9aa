/-
  What the program's RUnlock, Unlock and Drop come to.
-/
import Derived.Test.YtggfndokmdpaeaaHand
namespace Go.Proofs.Ytggfndokmdpaeaa
open Go.RowKit

/-- Each row has each task once. -/
structure Nds (s : St) : Prop where
  r : s.rs.Nodup
  w : s.tw.Nodup
  q : s.tr.Nodup
theorem can_r {s : St} {t : Int} (h : canR s t) : runE s t = 0 ∧ runO s t = handO (lessR s t) ∧ runS s t = handS (lessR s t) :=
  ⟨(if_neg (by have := h.1; omega)).trans (if_pos h), if_pos h, if_pos h⟩
theorem can_not_r {s : St} {t : Int} (h : ¬ canR s t) : runO s t = [] ∧ runS s t = s := ⟨if_neg h, if_neg h⟩
theorem can_w {s : St} {t : Int} (h : canW s t) : unE s t = 0 ∧ unO s t = handO (lessW s) ∧ unS s t = handS (lessW s) :=
  ⟨(if_neg (by have := h.1; omega)).trans (if_pos h), if_pos h, if_pos h⟩
theorem can_not_w {s : St} {t : Int} (h : ¬ canW s t) : unO s t = [] ∧ unS s t = s := ⟨if_neg h, if_neg h⟩

set_option maxHeartbeats 1000000 in
theorem runlock_any (M base : Nat) (v : Vs) (s : St) (hl : s.len ≤ 1000) (hnd : Nds s) (t : Int) (w : World) (hM : AtX w M base v s) (hbs : base ≤ w.heap.size) :
    Calls Try.prog 18 #[.pointer (some ⟨M, 0, none⟩), .int .i64 t] w fun e w' => ∃ r, e = .returned (.tuple #[r, .int .i64 (runE s t)]) ∧ NowA M base v (runS s t) (runO s t) w r w' := by
  have HM := hide hM
  by_cases h1 : t < 1
  · obtain ⟨e2, e3⟩ := can_not_r (s := s) (t := t) (fun h => by have := h.1; omega)
    rw [e2, e3, show runE s t = 1 from if_pos h1]
    clear hM e2 e3
    go_enter Try.func18, Try.ntmps18
    go_wp2
    go_ret2
    exact ⟨_, rfl, NowA.none (NowX.same HM.out (Below.refl _ _))⟩
  · have T := takeA M base v s hl hnd.r t w hM
    cases hb : inZ s.rs t
    · have hn : ¬ canR s t := fun h => by have q := h.2; rw [hb] at q; cases q
      obtain ⟨e2, e3⟩ := can_not_r hn
      rw [e2, e3, show runE s t = 11 from (if_neg h1).trans (if_neg hn)]
      rw [hb, rm_none hb] at T
      have HT := hide T
      clear hM e2 e3 T hn hb hnd
      go_enter Try.func18, Try.ntmps18
      go_wp2_with fail
      refine HT.out.mono ?_
      rintro e w2 ⟨rfl, hN⟩
      have HN := hide hN
      clear hN HT
      go_wp2
      go_ret2
      exact ⟨_, rfl, NowA.none HN.out⟩
    · obtain ⟨e1, e2, e3⟩ := can_r (s := s) (t := t) ⟨by omega, hb⟩
      rw [e1, e2, e3]
      rw [hb] at T
      have HT : Hid (Calls Try.prog 30 #[.pointer (some ⟨M, 1, none⟩), .int .i64 t] w fun e w' => e = .returned (.bool true) ∧ NowX M base v (lessR s t) w w') := T
      have hl2 : (lessR s t).len ≤ 1000 := by
        have := rm_len s.rs t
        unfold St.len lessR at *
        dsimp only
        omega
      have hnd2 : (lessR s t).tw.Nodup := hnd.w
      clear hM e1 e2 e3 T hb hnd hl
      generalize lessR s t = s2 at *
      go_enter Try.func18, Try.ntmps18
      go_wp2_with fail
      refine HT.out.mono ?_
      rintro e w2 ⟨rfl, hN⟩
      obtain ⟨v2, hA2, hV2, hW2⟩ := hN
      have HR := hide (hand_any M base v2 s2 hl2 hnd2 w2 hA2 (Nat.le_trans hbs hV2.size))
      have HV2 := hide hV2
      have HW2 := hide hW2
      clear hA2 hV2 hW2 HT
      go_wp2_with fail
      refine HR.out.mono ?_
      rintro e w3 ⟨r, rfl, hN⟩
      have HN := hide (NowA.next HV2.out HW2.out hN)
      clear hN HR
      go_wp2
      go_ret2
      exact ⟨r, rfl, HN.out⟩

set_option maxHeartbeats 1000000 in
theorem unlock_any (M base : Nat) (v : Vs) (s : St) (hl : s.len ≤ 1000) (hnd : Nds s) (t : Int) (w : World) (hM : AtX w M base v s) (hbs : base ≤ w.heap.size) :
    Calls Try.prog 19 #[.pointer (some ⟨M, 0, none⟩), .int .i64 t] w fun e w' => ∃ r, e = .returned (.tuple #[r, .int .i64 (unE s t)]) ∧ NowA M base v (unS s t) (unO s t) w r w' := by
  have HM := hide hM
  obtain ⟨c0, _, _, _, cf⟩ := hM.cells
  have cf0 := cf 0
  have hMl := hM.lt
  clear cf
  by_cases h1 : t < 1
  · obtain ⟨e2, e3⟩ := can_not_w (s := s) (t := t) (fun h => by have := h.1; omega)
    rw [e2, e3, show unE s t = 1 from if_pos h1]
    clear hM e2 e3
    go_enter Try.func19, Try.ntmps19
    go_wp2
    go_ret2
    exact ⟨_, rfl, NowA.none (NowX.same HM.out (Below.refl _ _))⟩
  · by_cases hb : t = s.w
    · obtain ⟨e1, e2, e3⟩ := can_w (s := s) (t := t) ⟨by omega, hb⟩
      rw [e1, e2, e3]
      have hw' : (t != s.w) = false := by simpa using hb
      have HN0 := hide (NowX.setW hM 0)
      have HA0 := hide (hM.setW 0)
      have HR := hide (hand_any M base v (lessW s) hl hnd.w _ HA0.out (by simpa using hbs))
      clear hM e1 e2 e3 hnd hl hb HA0
      generalize s.w = X at *
      generalize handS (lessW s) = s3 at *
      generalize handO (lessW s) = o3 at *
      go_enter Try.func19, Try.ntmps19
      go_wp2_with fail
      refine HR.out.mono ?_
      rintro e w3 ⟨r, rfl, hN⟩
      have HN := hide (NowA.next ((Mov.refl (Mine M v) w).set (p := ⟨M, 0, none⟩) (Or.inl rfl) _) (fun k hk => Or.inr hk) hN)
      clear hN HR
      go_wp2
      go_ret2
      exact ⟨r, rfl, HN.out⟩
    · have hn : ¬ canW s t := fun h => hb h.2
      obtain ⟨e2, e3⟩ := can_not_w hn
      rw [e2, e3, show unE s t = 11 from (if_neg h1).trans (if_neg hn)]
      have hw' : (t != s.w) = true := by simpa using hb
      clear hM e2 e3 hn hb hnd
      generalize s.w = X at *
      go_enter Try.func19, Try.ntmps19
      go_wp2
      go_ret2
      exact ⟨_, rfl, NowA.none (NowX.same HM.out (Below.refl _ _))⟩

set_option maxHeartbeats 1000000 in
theorem drop_any (M base : Nat) (v : Vs) (s : St) (hl : s.len ≤ 1000) (hnd : Nds s) (t : Int) (w : World) (hM : AtX w M base v s) (hbs : base ≤ w.heap.size) :
    Calls Try.prog 21 #[.pointer (some ⟨M, 0, none⟩), .int .i64 t] w fun e w' => ∃ r, e = .returned (.tuple #[r, .bool (dropB s t)]) ∧ NowA M base v (dropS s t) (dropO s t) w r w' := by
  have HM := hide hM
  have T := takeB M base v s hl hnd.w t w hM
  have hl2 : (lessD s t).len ≤ 1000 := by
    have := rm_len s.tw t
    have := rm_len s.tr t
    unfold St.len lessD at *
    split <;> (dsimp only; omega)
  have hnd2 : (lessD s t).tw.Nodup := by
    unfold lessD
    split
    · exact rm_nodup hnd.w t
    · exact hnd.w
  cases hb : inZ s.tw t
  · rw [hb, rm_none hb] at T
    have HT : Hid (Calls Try.prog 30 #[.pointer (some ⟨M, 2, none⟩), .int .i64 t] w fun e w' => e = .returned (.bool false) ∧ NowX M base v s w w') := T
    have T2 := hide (fun v1 w1 (h1 : AtX w1 M base v1 s) => takeC M base v1 s hl hnd.q t w1 h1)
    cases hc : inZ s.tr t
    · have e1 : dropB s t = false := by unfold dropB; rw [hb, hc]; rfl
      have e2 : dropO s t = [] := by unfold dropO; rw [e1]; rfl
      have e3 : dropS s t = s := by unfold dropS; rw [e1]; rfl
      rw [e1, e2, e3]
      rw [hc, rm_none hc] at T2
      have T3 : Hid (∀ v1 w1, AtX w1 M base v1 s → Calls Try.prog 30 #[.pointer (some ⟨M, 3, none⟩), .int .i64 t] w1 fun e w' => e = .returned (.bool false) ∧ NowX M base v1 s w1 w') := T2
      clear T T2 hM e1 e2 e3 hb hc hl2 hnd2 hnd hl
      go_enter Try.func21, Try.ntmps21
      go_wp2_with fail
      refine HT.out.mono ?_
      rintro e w2 ⟨rfl, hN⟩
      obtain ⟨v2, hA2, hV2, hW2⟩ := hN
      have HR := hide (T3.out v2 w2 hA2)
      have HV2 := hide hV2
      have HW2 := hide hW2
      clear hA2 hV2 hW2 HT T3
      go_wp2_with fail
      refine HR.out.mono ?_
      rintro e w3 ⟨rfl, hN⟩
      have HN := hide (NowX.next HV2.out HW2.out hN)
      clear hN HR
      go_wp2
      go_ret2
      exact ⟨_, rfl, NowA.none HN.out⟩
    · have e1 : dropB s t = true := by unfold dropB; rw [hb, hc]; rfl
      have e2 : dropO s t = handO (lessD s t) := by unfold dropO; rw [e1]; rfl
      have e3 : dropS s t = handS (lessD s t) := by unfold dropS; rw [e1]; rfl
      have e4 : { s with tr := rmZ s.tr t } = lessD s t := by unfold lessD; rw [hb]; rfl
      rw [e1, e2, e3]
      rw [hc, e4] at T2
      have T3 : Hid (∀ v1 w1, AtX w1 M base v1 s → Calls Try.prog 30 #[.pointer (some ⟨M, 3, none⟩), .int .i64 t] w1 fun e w' => e = .returned (.bool true) ∧ NowX M base v1 (lessD s t) w1 w') := T2
      clear T T2 hM e1 e2 e3 e4 hb hc hnd hl
      generalize lessD s t = s2 at *
      go_enter Try.func21, Try.ntmps21
      go_wp2_with fail
      refine HT.out.mono ?_
      rintro e w2 ⟨rfl, hN⟩
      obtain ⟨v2, hA2, hV2, hW2⟩ := hN
      have HR := hide (T3.out v2 w2 hA2)
      have HV2 := hide hV2
      have HW2 := hide hW2
      clear hA2 hV2 hW2 HT T3
      go_wp2_with fail
      refine HR.out.mono ?_
      rintro e w3 ⟨rfl, hN⟩
      obtain ⟨v3, hA3, hV3, hW3⟩ := NowX.next HV2.out HW2.out hN
      have HR3 := hide (hand_any M base v3 s2 hl2 hnd2 w3 hA3 (Nat.le_trans hbs hV3.size))
      have HV3 := hide hV3
      have HW3 := hide hW3
      clear hN HR hA3 hV3 hW3 HV2 HW2
      go_wp2_with fail
      refine HR3.out.mono ?_
      rintro e w4 ⟨r, rfl, hN⟩
      have HN := hide (NowA.next HV3.out HW3.out hN)
      clear hN HR3
      go_wp2
      go_ret2
      exact ⟨r, rfl, HN.out⟩
  · have e1 : dropB s t = true := by unfold dropB; rw [hb]; rfl
    have e2 : dropO s t = handO (lessD s t) := by unfold dropO; rw [e1]; rfl
    have e3 : dropS s t = handS (lessD s t) := by unfold dropS; rw [e1]; rfl
    have e4 : { s with tw := rmZ s.tw t } = lessD s t := by unfold lessD; rw [hb]; rfl
    rw [e1, e2, e3]
    rw [hb, e4] at T
    have HT : Hid (Calls Try.prog 30 #[.pointer (some ⟨M, 2, none⟩), .int .i64 t] w fun e w' => e = .returned (.bool true) ∧ NowX M base v (lessD s t) w w') := T
    clear T hM e1 e2 e3 e4 hb hnd hl
    generalize lessD s t = s2 at *
    go_enter Try.func21, Try.ntmps21
    go_wp2_with fail
    refine HT.out.mono ?_
    rintro e w2 ⟨rfl, hN⟩
    obtain ⟨v3, hA3, hV3, hW3⟩ := hN
    have HR3 := hide (hand_any M base v3 s2 hl2 hnd2 w2 hA3 (Nat.le_trans hbs hV3.size))
    have HV3 := hide hV3
    have HW3 := hide hW3
    clear hA3 hV3 hW3 HT
    go_wp2_with fail
    refine HR3.out.mono ?_
    rintro e w4 ⟨r, rfl, hN⟩
    have HN := hide (NowA.next HV3.out HW3.out hN)
    clear hN HR3
    go_wp2
    go_ret2
    exact ⟨r, rfl, HN.out⟩

end Go.Proofs.Ytggfndokmdpaeaa
