/-
  What the law MutexTries asks comes out true at any two numbers and any byte.
-/
import Derived.Test.YtbagkmijnjjmgaaUp
import Derived.Test.YtbagkmijnjjmgaaRef
import Derived.Deep.DeepCutAuto
namespace Go.Proofs.Ytbagkmijnjjmgaa
open Go.RowKit

/-- Who is in the row behind so many that wanted it. -/
structure Tr (a : Int) (i : Nat) (l : List Int) : Prop where
  ok : Okz l
  ne : l ≠ []
  h : hold l = a
  len : l.length ≤ i + 1
  mem : ∀ x, inZ l x = decide (x = a ∨ (1000 ≤ x ∧ x < 1000 + (i : Int)))
theorem Tr.start {a : Int} (h : ¬ a < 1) : Tr a 0 [a] := by
  refine ⟨⟨by simp, fun x hx => by simp at hx; omega⟩, by simp, rfl, by simp, fun x => ?_⟩
  rw [Bool.eq_iff_iff, inZ_true, decide_eq_true_iff, List.mem_singleton]
  omega
theorem Tr.step {a : Int} {i : Nat} {l : List Int} (h : Tr a i l) : Tr a (i + 1) (lockL l (1000 + (i : Int))) := by
  have hm := h.mem (1000 + (i : Int))
  by_cases e : 1000 + (i : Int) = a
  · have hb : inZ l (1000 + (i : Int)) = true := by rw [hm]; exact decide_eq_true (Or.inl e)
    have e1 : lockL l (1000 + (i : Int)) = l := by unfold lockL; rw [if_neg (by omega), if_pos hb]
    rw [e1]
    refine ⟨h.ok, h.ne, h.h, by have := h.len; omega, fun x => ?_⟩
    rw [h.mem x]
    exact decide_eq_decide.2 (by omega)
  · have hb : inZ l (1000 + (i : Int)) = false := by rw [hm]; exact decide_eq_false (by omega)
    have hb2 : ¬ inZ l (1000 + (i : Int)) = true := by rw [hb]; simp
    have e1 : lockL l (1000 + (i : Int)) = l ++ [1000 + (i : Int)] := by unfold lockL; rw [if_neg (by omega), if_neg hb2]
    rw [e1]
    refine ⟨h.ok.snoc (by omega) hb, by simp, ?_, by have := h.len; simp; omega, fun x => ?_⟩
    · rw [(snoc_tail h.ne _).2]; exact h.h
    · have e2 : inZ (l ++ [1000 + (i : Int)]) x = (inZ l x || decide (1000 + (i : Int) = x)) := by simp [inZ]
      rw [e2, h.mem x, ← Bool.decide_or]
      exact decide_eq_decide.2 (by omega)
theorem Tr.e1 {a : Int} {i : Nat} {l : List Int} {b : Int} (_ : Tr a i l) (hb : b < 1) : tryE l b = 1 := if_pos hb
theorem Tr.e11 {a : Int} {i : Nat} {l : List Int} {b : Int} (h : Tr a i l) (h1 : ¬ b < 1) (hb : b = a ∨ (1000 ≤ b ∧ b < 1000 + (i : Int))) : tryE l b = 11 := by
  have : inZ l b = true := by rw [h.mem b]; exact decide_eq_true hb
  exact (if_neg h1).trans (if_pos this)
theorem Tr.e12 {a : Int} {i : Nat} {l : List Int} {b : Int} (h : Tr a i l) (h1 : ¬ b < 1) (hb : ¬ (b = a ∨ (1000 ≤ b ∧ b < 1000 + (i : Int)))) : tryE l b = 12 := by
  have : ¬ inZ l b = true := by rw [h.mem b]; simpa using hb
  exact (if_neg h1).trans ((if_neg this).trans (if_neg h.ne))
theorem Tr.same {a : Int} {i : Nat} {l : List Int} (h : Tr a i l) (b : Int) : tryL l b = l := by
  unfold tryL
  split
  · rfl
  split
  · rfl
  exact if_neg h.ne

set_option maxHeartbeats 4000000 in
theorem tries_walk (a b x : Int) (hx : 0 ≤ x ∧ x ≤ 255) (w : World) : Calls Try.prog 5 #[.int .i64 a, .int .i64 b, .int .u8 x] w fun e w' => e = .returned (.bool true) ∧ Below w.heap.size w w' := by
  obtain ⟨m, hm, hm8, hmu, hm64⟩ := u8_mod hx 8 (by omega) (by omega)
  have hm' : x.tmod 8 = (m : Int) := hm
  clear hm
  have N0 := hide (new_any w)
  by_cases ha : a < 1
  · have e1 : lockE [] a = 1 := if_pos ha
    have e2 : lockL [] a = [] := if_pos ha
    go_enter Try.func5, Try.ntmps5
    go_wp2_with fail
    refine N0.out.mono ?_
    rintro e w1 ⟨rfl, hA, hb⟩
    obtain ⟨M, hMe⟩ : ∃ M, M = w.heap.size := ⟨_, rfl⟩
    have HA : Hid (AtM w1 M w.heap.size (.slice none 0 0) []) := by rw [hMe]; exact hA
    have hl : w.heap.size ≤ M := by omega
    have L := lock_any M _ _ [] Okz.nil (by simp) a w1 HA.out hb.size
    rw [e1, e2] at L
    have HL := hide L
    rw [← hMe]
    clear hA N0 hMe L e1 e2
    go_wp2_with fail
    refine HL.out.mono ?_
    rintro e w2 ⟨rfl, hN⟩
    obtain ⟨⟨v2, hA2⟩, hb2⟩ := hN.step HA.out hl hb
    have HA2 := hide hA2
    clear hA2 hN HA hb HL
    go_wp2_with fail
    refine (awake_any _).mono ?_
    rintro e w3 ⟨rfl, hb3⟩
    have HA3 := hide (HA2.out.below hb3)
    replace hb2 := below_next hb2 hb3
    clear hb3 HA2
    go_wp2_with fail
    refine (holder_any M _ _ [] _ HA3.out).mono ?_
    rintro e w6 ⟨rfl, hw6⟩
    subst hw6
    rw [hold_nil]
    go_wp2
    go_ret
    exact ⟨rfl, hb2⟩
  · have e1 : lockE [] a = 0 := by unfold lockE; rw [if_neg ha]; rfl
    have e2 : lockL [] a = [a] := by unfold lockL; rw [if_neg ha]; rfl
    have HT0 := hide (Tr.start ha)
    go_enter Try.func5, Try.ntmps5
    go_wp2_with fail
    refine N0.out.mono ?_
    rintro e w1 ⟨rfl, hA, hb⟩
    obtain ⟨M, hMe⟩ : ∃ M, M = w.heap.size := ⟨_, rfl⟩
    have HA : Hid (AtM w1 M w.heap.size (.slice none 0 0) []) := by rw [hMe]; exact hA
    have hl : w.heap.size ≤ M := by omega
    have L := lock_any M _ _ [] Okz.nil (by simp) a w1 HA.out hb.size
    rw [e1, e2] at L
    have HL := hide L
    rw [← hMe]
    clear hA N0 hMe L e1 e2
    go_wp2_with fail
    refine HL.out.mono ?_
    rintro e w2 ⟨rfl, hN⟩
    obtain ⟨⟨v2, hA2⟩, hb2⟩ := hN.step HA.out hl hb
    have HA2 := hide hA2
    clear hA2 hN HA hb HL
    go_wp2_with fail
    go_loopw [8] (fun i wr => ∃ k v l, i = .int .i64 ((k : Nat) : Int) ∧ k ≤ m ∧ Hid (Tr a k l) ∧ Hid (AtM wr M w.heap.size v l) ∧ Below w.heap.size w wr) (fun i _ => m - (intOf i).toNat)
    case atStart => exact ⟨0, _, _, rfl, by omega, HT0, HA2, hb2⟩
    case round =>
      clear HT0 HA2 hb2
      obtain ⟨k, v, l, rfl, hkm, HT, HA, hb⟩ := hrel
      by_cases hlt : k < m
      · have hlt' : (k : Int) < (m : Int) := by omega
        have L := lock_any M _ v l HT.out.ok (by have := HT.out.len; omega) (1000 + (k : Int)) wr HA.out hb.size
        have HT2 := hide HT.out.step
        have HL := hide L
        clear L HT
        generalize lockE l (1000 + (k : Int)) = E at *
        generalize lockL l (1000 + (k : Int)) = l2 at *
        go_wp2_with fail
        refine HL.out.mono ?_
        rintro e w3 ⟨rfl, hN⟩
        have hst := hide (hN.step HA.out hl hb)
        clear hN HL HA hb
        go_wp2
        go_roundw
        case rel =>
          obtain ⟨⟨v', hA⟩, hb⟩ := hst.out
          exact ⟨k + 1, v', l2, by go_num, by omega, HT2, hA, hb⟩
        case measure => simp [intOf]; omega
      · obtain ⟨mm, hmm⟩ : ∃ mm, mm = m := ⟨_, rfl⟩
        have HT2 : Hid (Tr a mm l) := by rw [hmm, show m = k by omega]; exact HT
        have hlt' : ¬ (k : Int) < (m : Int) := by omega
        have hl9 : l.length ≤ 1000 := by have := HT2.out.len; omega
        have HW := hide (waits_any M _ v l hl9 wr HA.out)
        have HH : Hid (hold l = a) := HT2.out.h
        clear HT
        go_wp2_with fail
        refine HW.out.mono ?_
        rintro e w3 ⟨r, rfl, hr, hb3⟩
        obtain ⟨ra, rc, rfl⟩ := owns_slice hr
        have HR3 := hide hr
        have HA3 := hide (HA.out.below hb3)
        have HM : Hid (∀ j, Mine M v j → j < wr.heap.size) := fun j hj => HA.out.mine_lt hj
        replace hb := below_next hb hb3
        have hzz := hb3.size
        clear hr hb3 HA HW
        have T := try_any M _ v l HT2.out.ok hl9 b w3 HA3.out
        rw [HT2.out.same b] at T
        have FIN : Hid (∀ w4, NowM M w.heap.size v l w3 w4 → (∃ v', AtM w4 M w.heap.size v' l) ∧ Below w.heap.size w w4 ∧ RowZ w4 ra l.tail) := fun w4 hN => by
          obtain ⟨h1, h2⟩ := hN.step HA3.out hl hb
          obtain ⟨_, _, hV, _⟩ := hN
          exact ⟨h1, h2, owns_rowZ (owns_far HR3.out fun j hj => hV.block j (HR3.out.lt j hj).2 (fun q => by have := HM.out j q; have := (HR3.out.lt j hj).1; omega))⟩
        clear HR3 HA3 HM hzz
        have hcase : (b < 1 ∧ tryE l b = 1) ∨ (¬ b < 1 ∧ tryE l b = 11 ∧ (b == a) = true) ∨ (¬ b < 1 ∧ tryE l b = 11 ∧ (b == a) = false ∧ 1000 ≤ b ∧ b < 1000 + (m : Int)) ∨ (¬ b < 1 ∧ tryE l b = 12 ∧ (b == a) = false ∧ 1000 ≤ b ∧ ¬ b < 1000 + (m : Int)) ∨ (¬ b < 1 ∧ tryE l b = 12 ∧ (b == a) = false ∧ ¬ 1000 ≤ b) := by
          by_cases q1 : b < 1
          · exact Or.inl ⟨q1, HT2.out.e1 q1⟩
          · by_cases q2 : b = a
            · exact Or.inr (Or.inl ⟨q1, HT2.out.e11 q1 (Or.inl q2), by simpa using q2⟩)
            · have q2' : (b == a) = false := by simpa using q2
              by_cases q3 : 1000 ≤ b
              · by_cases q4 : b < 1000 + (m : Int)
                · exact Or.inr (Or.inr (Or.inl ⟨q1, HT2.out.e11 q1 (Or.inr ⟨q3, by omega⟩), q2', q3, q4⟩))
                · exact Or.inr (Or.inr (Or.inr (Or.inl ⟨q1, HT2.out.e12 q1 (by omega), q2', q3, q4⟩)))
              · exact Or.inr (Or.inr (Or.inr (Or.inr ⟨q1, HT2.out.e12 q1 (by omega), q2', q3⟩)))
        have WT : Hid (∀ v W, AtM W M w.heap.size v l → Calls Try.prog 19 #[.pointer (some ⟨M, 0, none⟩)] W fun e w' => Owned l.tail W e w') := fun v W h => waits_any M _ v l hl9 W h
        have HD : Hid (∀ v W, AtM W M w.heap.size v l → Calls Try.prog 16 #[.pointer (some ⟨M, 0, none⟩)] W fun e w' => e = .returned (.int .i64 a) ∧ w' = W) := fun v W h => by
          have := holder_any M _ v l W h
          rwa [HH.out] at this
        have hlt9 : l.tail.length ≤ 1000 := by have := List.length_tail (l := l); omega
        have aa : (a == a) = true := by simp
        generalize hlt2 : l.tail = lt at *
        clear HT2 HH hl9 hlt hlt2
        rcases hcase with ⟨q1, ee⟩ | ⟨q1, ee, q2⟩ | ⟨q1, ee, q2, q3, q4⟩ | ⟨q1, ee, q2, q3, q4⟩ | ⟨q1, ee, q2, q3⟩
        · rw [ee] at T
          have HT := hide T
          clear T ee
          go_wp2_with fail
          refine HT.out.mono ?_
          rintro e w4 ⟨rfl, hN⟩
          obtain ⟨⟨v4, hA4⟩, hb4, hz4⟩ := FIN.out w4 hN
          have HA4 := hide hA4
          have HZ4 := hide hz4
          clear hA4 hz4 hN FIN HT hb
          go_wp2_with fail
          refine (awake_any _).mono ?_
          rintro e w5 ⟨rfl, hb5⟩
          have HA5 := hide (HA4.out.below hb5)
          have HZ5 := hide (HZ4.out.below hb5)
          replace hb4 := below_next hb4 hb5
          clear hb5 HA4 HZ4
          go_wp2_with fail
          refine (HD.out _ _ HA5.out).mono ?_
          rintro e w6 ⟨rfl, hw6⟩
          subst hw6
          go_wp2_with fail
          refine (WT.out _ _ HA5.out).mono ?_
          rintro e w7 ⟨r7, rfl, hr7, hb7⟩
          obtain ⟨ra7, rc7, rfl⟩ := owns_slice hr7
          have HI := hide (same_ints _ _ rc7 rc lt w7 hlt9 (owns_rowZ hr7) (HZ5.out.below hb7))
          replace hb4 := below_next hb4 hb7
          clear hr7 hb7 HA5 HZ5 WT HD
          go_wp2_with fail
          refine HI.out.mono ?_
          rintro e w8 ⟨rfl, hb8⟩
          replace hb4 := below_next hb4 hb8
          clear hb8 HI
          go_wp2
          go_ret
          exact ⟨rfl, hb4⟩
        · rw [ee] at T
          have HT := hide T
          clear T ee
          go_wp2_with fail
          refine HT.out.mono ?_
          rintro e w4 ⟨rfl, hN⟩
          obtain ⟨⟨v4, hA4⟩, hb4, hz4⟩ := FIN.out w4 hN
          have HA4 := hide hA4
          have HZ4 := hide hz4
          clear hA4 hz4 hN FIN HT hb
          go_wp2_with fail
          refine (awake_any _).mono ?_
          rintro e w5 ⟨rfl, hb5⟩
          have HA5 := hide (HA4.out.below hb5)
          have HZ5 := hide (HZ4.out.below hb5)
          replace hb4 := below_next hb4 hb5
          clear hb5 HA4 HZ4
          go_wp2_with fail
          refine (HD.out _ _ HA5.out).mono ?_
          rintro e w6 ⟨rfl, hw6⟩
          subst hw6
          go_wp2_with fail
          refine (WT.out _ _ HA5.out).mono ?_
          rintro e w7 ⟨r7, rfl, hr7, hb7⟩
          obtain ⟨ra7, rc7, rfl⟩ := owns_slice hr7
          have HI := hide (same_ints _ _ rc7 rc lt w7 hlt9 (owns_rowZ hr7) (HZ5.out.below hb7))
          replace hb4 := below_next hb4 hb7
          clear hr7 hb7 HA5 HZ5 WT HD
          go_wp2_with fail
          refine HI.out.mono ?_
          rintro e w8 ⟨rfl, hb8⟩
          replace hb4 := below_next hb4 hb8
          clear hb8 HI
          go_wp2
          go_ret
          exact ⟨rfl, hb4⟩
        · rw [ee] at T
          have HT := hide T
          clear T ee
          go_wp2_with fail
          refine HT.out.mono ?_
          rintro e w4 ⟨rfl, hN⟩
          obtain ⟨⟨v4, hA4⟩, hb4, hz4⟩ := FIN.out w4 hN
          have HA4 := hide hA4
          have HZ4 := hide hz4
          clear hA4 hz4 hN FIN HT hb
          go_wp2_with fail
          refine (awake_any _).mono ?_
          rintro e w5 ⟨rfl, hb5⟩
          have HA5 := hide (HA4.out.below hb5)
          have HZ5 := hide (HZ4.out.below hb5)
          replace hb4 := below_next hb4 hb5
          clear hb5 HA4 HZ4
          go_wp2_with fail
          refine (HD.out _ _ HA5.out).mono ?_
          rintro e w6 ⟨rfl, hw6⟩
          subst hw6
          go_wp2_with fail
          refine (WT.out _ _ HA5.out).mono ?_
          rintro e w7 ⟨r7, rfl, hr7, hb7⟩
          obtain ⟨ra7, rc7, rfl⟩ := owns_slice hr7
          have HI := hide (same_ints _ _ rc7 rc lt w7 hlt9 (owns_rowZ hr7) (HZ5.out.below hb7))
          replace hb4 := below_next hb4 hb7
          clear hr7 hb7 HA5 HZ5 WT HD
          go_wp2_with fail
          refine HI.out.mono ?_
          rintro e w8 ⟨rfl, hb8⟩
          replace hb4 := below_next hb4 hb8
          clear hb8 HI
          go_wp2
          go_ret
          exact ⟨rfl, hb4⟩
        · rw [ee] at T
          have HT := hide T
          clear T ee
          go_wp2_with fail
          refine HT.out.mono ?_
          rintro e w4 ⟨rfl, hN⟩
          obtain ⟨⟨v4, hA4⟩, hb4, hz4⟩ := FIN.out w4 hN
          have HA4 := hide hA4
          have HZ4 := hide hz4
          clear hA4 hz4 hN FIN HT hb
          go_wp2_with fail
          refine (awake_any _).mono ?_
          rintro e w5 ⟨rfl, hb5⟩
          have HA5 := hide (HA4.out.below hb5)
          have HZ5 := hide (HZ4.out.below hb5)
          replace hb4 := below_next hb4 hb5
          clear hb5 HA4 HZ4
          go_wp2_with fail
          refine (HD.out _ _ HA5.out).mono ?_
          rintro e w6 ⟨rfl, hw6⟩
          subst hw6
          go_wp2_with fail
          refine (WT.out _ _ HA5.out).mono ?_
          rintro e w7 ⟨r7, rfl, hr7, hb7⟩
          obtain ⟨ra7, rc7, rfl⟩ := owns_slice hr7
          have HI := hide (same_ints _ _ rc7 rc lt w7 hlt9 (owns_rowZ hr7) (HZ5.out.below hb7))
          replace hb4 := below_next hb4 hb7
          clear hr7 hb7 HA5 HZ5 WT HD
          go_wp2_with fail
          refine HI.out.mono ?_
          rintro e w8 ⟨rfl, hb8⟩
          replace hb4 := below_next hb4 hb8
          clear hb8 HI
          go_wp2
          go_ret
          exact ⟨rfl, hb4⟩
        · rw [ee] at T
          have HT := hide T
          clear T ee
          go_wp2_with fail
          refine HT.out.mono ?_
          rintro e w4 ⟨rfl, hN⟩
          obtain ⟨⟨v4, hA4⟩, hb4, hz4⟩ := FIN.out w4 hN
          have HA4 := hide hA4
          have HZ4 := hide hz4
          clear hA4 hz4 hN FIN HT hb
          go_wp2_with fail
          refine (awake_any _).mono ?_
          rintro e w5 ⟨rfl, hb5⟩
          have HA5 := hide (HA4.out.below hb5)
          have HZ5 := hide (HZ4.out.below hb5)
          replace hb4 := below_next hb4 hb5
          clear hb5 HA4 HZ4
          go_wp2_with fail
          refine (HD.out _ _ HA5.out).mono ?_
          rintro e w6 ⟨rfl, hw6⟩
          subst hw6
          go_wp2_with fail
          refine (WT.out _ _ HA5.out).mono ?_
          rintro e w7 ⟨r7, rfl, hr7, hb7⟩
          obtain ⟨ra7, rc7, rfl⟩ := owns_slice hr7
          have HI := hide (same_ints _ _ rc7 rc lt w7 hlt9 (owns_rowZ hr7) (HZ5.out.below hb7))
          replace hb4 := below_next hb4 hb7
          clear hr7 hb7 HA5 HZ5 WT HD
          go_wp2_with fail
          refine HI.out.mono ?_
          rintro e w8 ⟨rfl, hb8⟩
          replace hb4 := below_next hb4 hb8
          clear hb8 HI
          go_wp2
          go_ret
          exact ⟨rfl, hb4⟩

end Go.Proofs.Ytbagkmijnjjmgaa
