/-
  What the program's TryR, RLock, Try and Lock come to.
-/
import Derived.Test.YtggfndokmdpaeaaFun
namespace Go.Proofs.Ytggfndokmdpaeaa
open Go.RowKit

theorem wrong_some (s : St) (t : Int) : wrongE s t = 0 ∨ wrongE s t = 1 ∨ wrongE s t = 11 := by
  unfold wrongE
  split
  · exact Or.inr (Or.inl rfl)
  split
  · exact Or.inr (Or.inr rfl)
  · exact Or.inl rfl
theorem grown_mov {w w3 : World} {o : Obj} {b : Option Nat} (hg : (w.alloc o).grownBy w3 b) : Mov (fun j => b = some j) w w3 := by
  have hA : Below w.heap.size w (w.alloc o) := (Below.refl _ _).alloc (Nat.le_refl _) _
  exact ⟨hg.os.trans hA.os, hg.tape.trans hA.tape, hg.output.trans hA.output, Nat.le_trans hA.size hg.size, fun k hk hS =>
    (hg.block k (Nat.lt_of_lt_of_le hk hA.size) (fun e => hS e.symm)).trans (hA.block k hk)⟩
theorem grown_at {w : World} {x : Value} {b : Option Nat} (hat : x.ownBlock = b ∨ x.ownBlock = some (w.heap.size + 1)) : ∀ k, x.ownBlock = some k → w.heap.size ≤ k ∨ b = some k := fun k hk => by
  rcases hat with q | q
  · exact Or.inr (q.symm.trans hk)
  · rw [q] at hk
    have := Option.some.inj hk
    exact Or.inl (by omega)

theorem readE_wrong {E : Int} {s : St} {t : Int} (h : wrongE s t ≠ 0) : readE E s t = wrongE s t ∧ tryRS s t = s ∧ rlockS s t = s := ⟨if_pos h, if_pos h, if_pos h⟩
theorem readE_busy {E : Int} {s : St} {t : Int} (h : wrongE s t = 0) (hb : busyR s) : readE E s t = E ∧ tryRS s t = s ∧ rlockS s t = { s with tr := s.tr ++ [t] } :=
  ⟨(if_neg (by simp [h])).trans (if_pos hb), (if_neg (by simp [h])).trans (if_pos hb), (if_neg (by simp [h])).trans (if_pos hb)⟩
theorem readE_free {E : Int} {s : St} {t : Int} (h : wrongE s t = 0) (hb : ¬ busyR s) : readE E s t = 0 ∧ tryRS s t = { s with rs := s.rs ++ [t] } ∧ rlockS s t = { s with rs := s.rs ++ [t] } :=
  ⟨(if_neg (by simp [h])).trans (if_neg hb), (if_neg (by simp [h])).trans (if_neg hb), (if_neg (by simp [h])).trans (if_neg hb)⟩
theorem writeE_wrong {E : Int} {s : St} {t : Int} (h : wrongE s t ≠ 0) : writeE E s t = wrongE s t ∧ tryS s t = s ∧ lockS s t = s := ⟨if_pos h, if_pos h, if_pos h⟩
theorem writeE_busy {E : Int} {s : St} {t : Int} (h : wrongE s t = 0) (hb : busyW s) : writeE E s t = E ∧ tryS s t = s ∧ lockS s t = { s with tw := s.tw ++ [t] } :=
  ⟨(if_neg (by simp [h])).trans (if_pos hb), (if_neg (by simp [h])).trans (if_pos hb), (if_neg (by simp [h])).trans (if_pos hb)⟩
theorem writeE_free {E : Int} {s : St} {t : Int} (h : wrongE s t = 0) (hb : ¬ busyW s) : writeE E s t = 0 ∧ tryS s t = { s with w := t } ∧ lockS s t = { s with w := t } :=
  ⟨(if_neg (by simp [h])).trans (if_neg hb), (if_neg (by simp [h])).trans (if_neg hb), (if_neg (by simp [h])).trans (if_neg hb)⟩

set_option maxHeartbeats 1000000 in
theorem tryR_any (M base : Nat) (v : Vs) (s : St) (hl : s.len ≤ 1000) (t : Int) (w : World) (hM : AtX w M base v s) (hbs : base ≤ w.heap.size) :
    Calls Try.prog 17 #[.pointer (some ⟨M, 0, none⟩), .int .i64 t] w fun e w' => e = .returned (.int .i64 (readE 12 s t)) ∧ NowX M base v (tryRS s t) w w' := by
  have W := wrong_any M base v s hl t w hM
  by_cases hw : wrongE s t = 0
  · rw [hw] at W
    have HW := hide W
    have hl' := St.lens hl
    obtain ⟨c0, c1, c2, c3, cf⟩ := hM.cells
    obtain ⟨a1, d1, a2, d2, a3, d3, rfl⟩ := hM.forms
    have HM := hide hM
    by_cases h1 : s.w = 0
    · by_cases h2 : s.tw = []
      · obtain ⟨e1, e2, _⟩ := readE_free (E := 12) hw (fun h => by rcases h with q | q; exact q h1; exact q h2)
        rw [e1, e2]
        have n2 : s.tw.length = 0 := by rw [h2]; rfl
        rw [h1] at c0
        dsimp only at c1 c2 c3
        rw [n2] at c2
        clear W e1 e2 hw h1 h2 hl
        obtain ⟨i3, hi, hz0, hz1, hz2⟩ := info_parts info3
        have hR := hM.ra
        have hMl := hM.lt
        have cf1 := cf 1
        clear hM cf
        dsimp only at hR
        generalize hd : s.rs.length = n at *
        have HD := hide hd
        clear hd
        go_enter Try.func17, Try.ntmps17
        go_wp2_with fail
        refine HW.out.mono ?_
        rintro e w2 ⟨rfl, hw2⟩
        subst hw2
        go_wp2_with (at_builtin; refine wpList_append_own_at _ rfl _ _ 35 rfl base 3 i3 (.int .i64 0) 1 8 Try.underlying35 hi hz0 hz1 hz2 rfl (by decide) _ _ _ rfl (hR.alloc _) ⟨w2.heap.size, 0, none⟩ 1 1 [.int .i64 t] rfl rfl (newsI (by simp [go_sem])) (onesI _) (by unfold maxLen; omega) (by omega) (by simp; omega) ?_)
        intro v' w3 hown hgrow _ hat
        obtain ⟨av', ac', rfl⟩ := owns_slice hown
        have HA := hide (NowX.setA (x := .slice av' (n + 1) ac') (l := s.rs ++ [t]) HM.out (grown_mov hgrow) (by rw [List.length_append, HD.out, cZ_snoc]; exact hown) (grown_at (by simpa using hat)))
        have hA : Below w2.heap.size w2 (w2.alloc (.cells #[.int .i64 t] 3)) := (Below.refl _ _).alloc (Nat.le_refl _) _
        have h1 := HM.out.below hA
        have hbox := (hgrow.block _ h1.lt (fun e => h1.far.1 e.symm)).trans h1.box
        have hfr : w3.frozen? ⟨M, 1, none⟩ = false := Lib.frozen_of_heap hbox 1
        have hce : w3.cell? ⟨M, 1, none⟩ = some (.slice a1 n d1) := Lib.cell_of_heap hbox 1
        clear hown hgrow hat hR c1 cf1 hA h1 hbox
        go_wp2
        go_ret
        exact ⟨rfl, HA.out⟩
      · obtain ⟨e1, e2, _⟩ := readE_busy (E := 12) hw (Or.inr h2)
        rw [e1, e2]
        have n2 : (0 : Int) < (s.tw.length : Int) := by have := List.length_pos_iff.2 h2; omega
        rw [h1] at c0
        dsimp only at c1 c2 c3
        clear W e1 e2 hw h1 h2 hl hM hl'
        generalize s.tw.length = L at *
        go_enter Try.func17, Try.ntmps17
        go_wp2_with fail
        refine HW.out.mono ?_
        rintro e w2 ⟨rfl, hw2⟩
        subst hw2
        go_wp2
        go_ret
        exact ⟨rfl, NowX.same HM.out (Below.refl _ _)⟩
    · obtain ⟨e1, e2, _⟩ := readE_busy (E := 12) hw (Or.inl h1)
      rw [e1, e2]
      have n1 : (s.w != 0) = true := by simpa using h1
      clear W e1 e2 hw h1 hl hM hl'
      generalize s.w = X at *
      go_enter Try.func17, Try.ntmps17
      go_wp2_with fail
      refine HW.out.mono ?_
      rintro e w2 ⟨rfl, hw2⟩
      subst hw2
      go_wp2
      go_ret
      exact ⟨rfl, NowX.same HM.out (Below.refl _ _)⟩
  · obtain ⟨e1, e2, _⟩ := readE_wrong (E := 12) hw
    rw [e1, e2]
    have n1 : (wrongE s t != 0) = true := by simpa using hw
    have HW := hide W
    have HM := hide hM
    clear W hM e1 e2 hw
    generalize wrongE s t = X at *
    go_enter Try.func17, Try.ntmps17
    go_wp2_with fail
    refine HW.out.mono ?_
    rintro e w2 ⟨rfl, hw2⟩
    subst hw2
    go_wp2
    go_ret
    exact ⟨rfl, NowX.same HM.out (Below.refl _ _)⟩

set_option maxHeartbeats 1000000 in
theorem try_any (M base : Nat) (v : Vs) (s : St) (hl : s.len ≤ 1000) (t : Int) (w : World) (hM : AtX w M base v s) (hbs : base ≤ w.heap.size) :
    Calls Try.prog 22 #[.pointer (some ⟨M, 0, none⟩), .int .i64 t] w fun e w' => e = .returned (.int .i64 (writeE 12 s t)) ∧ NowX M base v (tryS s t) w w' := by
  have W := wrong_any M base v s hl t w hM
  by_cases hw : wrongE s t = 0
  · rw [hw] at W
    have HW := hide W
    have hl' := St.lens hl
    obtain ⟨c0, c1, c2, c3, cf⟩ := hM.cells
    obtain ⟨a1, d1, a2, d2, a3, d3, rfl⟩ := hM.forms
    have HM := hide hM
    by_cases h1 : s.w = 0
    · by_cases h2 : s.rs = []
      · obtain ⟨e1, e2, _⟩ := writeE_free (E := 12) hw (fun h => by rcases h with q | q; exact q h1; exact q h2)
        rw [e1, e2]
        have n2 : s.rs.length = 0 := by rw [h2]; rfl
        rw [h1] at c0
        dsimp only at c1 c2 c3
        rw [n2] at c1
        clear W e1 e2 hw h1 h2 hl
        have cf0 := cf 0
        have hMl := hM.lt
        clear hM cf hl'
        go_enter Try.func22, Try.ntmps22
        go_wp2_with fail
        refine HW.out.mono ?_
        rintro e w2 ⟨rfl, hw2⟩
        subst hw2
        go_wp2
        go_ret
        exact ⟨rfl, NowX.setW HM.out t⟩
      · obtain ⟨e1, e2, _⟩ := writeE_busy (E := 12) hw (Or.inr h2)
        rw [e1, e2]
        have n2 : (0 : Int) < (s.rs.length : Int) := by have := List.length_pos_iff.2 h2; omega
        rw [h1] at c0
        dsimp only at c1 c2 c3
        clear W e1 e2 hw h1 h2 hl hM hl'
        generalize s.rs.length = L at *
        go_enter Try.func22, Try.ntmps22
        go_wp2_with fail
        refine HW.out.mono ?_
        rintro e w2 ⟨rfl, hw2⟩
        subst hw2
        go_wp2
        go_ret
        exact ⟨rfl, NowX.same HM.out (Below.refl _ _)⟩
    · obtain ⟨e1, e2, _⟩ := writeE_busy (E := 12) hw (Or.inl h1)
      rw [e1, e2]
      have n1 : (s.w != 0) = true := by simpa using h1
      clear W e1 e2 hw h1 hl hM hl'
      generalize s.w = X at *
      go_enter Try.func22, Try.ntmps22
      go_wp2_with fail
      refine HW.out.mono ?_
      rintro e w2 ⟨rfl, hw2⟩
      subst hw2
      go_wp2
      go_ret
      exact ⟨rfl, NowX.same HM.out (Below.refl _ _)⟩
  · obtain ⟨e1, e2, _⟩ := writeE_wrong (E := 12) hw
    rw [e1, e2]
    have n1 : (wrongE s t != 0) = true := by simpa using hw
    have HW := hide W
    have HM := hide hM
    clear W hM e1 e2 hw
    generalize wrongE s t = X at *
    go_enter Try.func22, Try.ntmps22
    go_wp2_with fail
    refine HW.out.mono ?_
    rintro e w2 ⟨rfl, hw2⟩
    subst hw2
    go_wp2
    go_ret
    exact ⟨rfl, NowX.same HM.out (Below.refl _ _)⟩

set_option maxHeartbeats 1000000 in
theorem rlock_any (M base : Nat) (v : Vs) (s : St) (hl : s.len ≤ 1000) (t : Int) (w : World) (hM : AtX w M base v s) (hbs : base ≤ w.heap.size) :
    Calls Try.prog 16 #[.pointer (some ⟨M, 0, none⟩), .int .i64 t] w fun e w' => e = .returned (.int .i64 (readE 14 s t)) ∧ NowX M base v (rlockS s t) w w' := by
  have T := tryR_any M base v s hl t w hM hbs
  have hl' := St.lens hl
  clear hM hl
  have same : ∀ x : Int, x ≠ 12 → readE 12 s t = x → Hid (tryRS s t = rlockS s t) → Hid (readE 14 s t = x) →
      Calls Try.prog 16 #[.pointer (some ⟨M, 0, none⟩), .int .i64 t] w fun e w' => e = .returned (.int .i64 (readE 14 s t)) ∧ NowX M base v (rlockS s t) w w' := by
    intro x hx e1 e2 e3
    rw [e1, e2.out] at T
    rw [e3.out]
    have hx' : (x != 12) = true := by simpa using hx
    have HT := hide T
    clear T e1 e2 e3 hx
    go_enter Try.func16, Try.ntmps16
    go_wp2_with fail
    refine HT.out.mono ?_
    rintro e w2 ⟨rfl, hN⟩
    have HN := hide hN
    clear hN
    go_wp2
    go_ret
    refine ⟨rfl, ?_⟩
    exact HN.out
  by_cases hw : wrongE s t = 0
  · by_cases hb : busyR s
    · obtain ⟨e1, e2, _⟩ := readE_busy (E := 12) hw hb
      obtain ⟨e3, _, e4⟩ := readE_busy (E := 14) hw hb
      rw [e1, e2] at T
      rw [e3, e4]
      have HT := hide T
      clear T e1 e2 e3 e4 hw hb same
      obtain ⟨i3, hi, hz0, hz1, hz2⟩ := info_parts info3
      go_enter Try.func16, Try.ntmps16
      go_wp2_with fail
      refine HT.out.mono ?_
      rintro e w2 ⟨rfl, hN⟩
      obtain ⟨v1, hM1, hV1, hv1⟩ := hN
      have HM1 := hide hM1
      have HV1 := hide hV1
      have HW1 := hide hv1
      obtain ⟨_, c1, c2, c3, cf⟩ := hM1.cells
      obtain ⟨a1, d1, a2, d2, a3, d3, rfl⟩ := hM1.forms
      have cf1 := cf 3
      have hbs2 : base ≤ w2.heap.size := Nat.le_trans hbs hV1.size
      have hR := hM1.rc
      have hMl := hM1.lt
      dsimp only at hR c1 c2 c3
      clear hM1 hV1 hv1 cf
      generalize hd : s.tr.length = n at *
      have HD := hide hd
      clear hd
      go_wp2_with (at_builtin; refine wpList_append_own_at _ rfl _ _ 35 rfl base 3 i3 (.int .i64 0) 1 8 Try.underlying35 hi hz0 hz1 hz2 rfl (by decide) _ _ _ rfl (hR.alloc _) ⟨w2.heap.size, 0, none⟩ 1 1 [.int .i64 t] rfl rfl (newsI (by simp [go_sem])) (onesI _) (by unfold maxLen; omega) (by omega) (by simp; omega) ?_)
      intro v' w3 hown hgrow _ hat
      obtain ⟨av', ac', rfl⟩ := owns_slice hown
      have HA := hide (NowX.setC (x := .slice av' (n + 1) ac') (l := s.tr ++ [t]) HM1.out (grown_mov hgrow) (by rw [List.length_append, HD.out, cZ_snoc]; exact hown) (grown_at (by simpa using hat)))
      have hA : Below w2.heap.size w2 (w2.alloc (.cells #[.int .i64 t] 3)) := (Below.refl _ _).alloc (Nat.le_refl _) _
      have h1 := HM1.out.below hA
      have hbox := (hgrow.block _ h1.lt (fun e => h1.far.2.2 e.symm)).trans h1.box
      have hfr : w3.frozen? ⟨M, 3, none⟩ = false := Lib.frozen_of_heap hbox 3
      have hce : w3.cell? ⟨M, 3, none⟩ = some (.slice a3 n d3) := Lib.cell_of_heap hbox 3
      clear hown hgrow hat hR c1 c2 c3 cf1 hA h1 hbox
      go_wp2
      go_ret
      refine ⟨rfl, ?_⟩
      exact NowX.next HV1.out HW1.out HA.out
    · obtain ⟨e1, e2, e3⟩ := readE_free (E := 12) hw hb
      exact same 0 (by omega) e1 (e2.trans e3.symm) (readE_free (E := 14) hw hb).1
  · obtain ⟨e1, e2, e3⟩ := readE_wrong (E := 12) hw
    exact same _ (by rcases wrong_some s t with q | q | q <;> omega) e1 (e2.trans e3.symm) (readE_wrong (E := 14) hw).1

set_option maxHeartbeats 1000000 in
theorem lock_any (M base : Nat) (v : Vs) (s : St) (hl : s.len ≤ 1000) (t : Int) (w : World) (hM : AtX w M base v s) (hbs : base ≤ w.heap.size) :
    Calls Try.prog 15 #[.pointer (some ⟨M, 0, none⟩), .int .i64 t] w fun e w' => e = .returned (.int .i64 (writeE 14 s t)) ∧ NowX M base v (lockS s t) w w' := by
  have T := try_any M base v s hl t w hM hbs
  have hl' := St.lens hl
  clear hM hl
  have same : ∀ x : Int, x ≠ 12 → writeE 12 s t = x → Hid (tryS s t = lockS s t) → Hid (writeE 14 s t = x) →
      Calls Try.prog 15 #[.pointer (some ⟨M, 0, none⟩), .int .i64 t] w fun e w' => e = .returned (.int .i64 (writeE 14 s t)) ∧ NowX M base v (lockS s t) w w' := by
    intro x hx e1 e2 e3
    rw [e1, e2.out] at T
    rw [e3.out]
    have hx' : (x != 12) = true := by simpa using hx
    have HT := hide T
    clear T e1 e2 e3 hx
    go_enter Try.func15, Try.ntmps15
    go_wp2_with fail
    refine HT.out.mono ?_
    rintro e w2 ⟨rfl, hN⟩
    have HN := hide hN
    clear hN
    go_wp2
    go_ret
    refine ⟨rfl, ?_⟩
    exact HN.out
  by_cases hw : wrongE s t = 0
  · by_cases hb : busyW s
    · obtain ⟨e1, e2, _⟩ := writeE_busy (E := 12) hw hb
      obtain ⟨e3, _, e4⟩ := writeE_busy (E := 14) hw hb
      rw [e1, e2] at T
      rw [e3, e4]
      have HT := hide T
      clear T e1 e2 e3 e4 hw hb same
      obtain ⟨i3, hi, hz0, hz1, hz2⟩ := info_parts info3
      go_enter Try.func15, Try.ntmps15
      go_wp2_with fail
      refine HT.out.mono ?_
      rintro e w2 ⟨rfl, hN⟩
      obtain ⟨v1, hM1, hV1, hv1⟩ := hN
      have HM1 := hide hM1
      have HV1 := hide hV1
      have HW1 := hide hv1
      obtain ⟨_, c1, c2, c3, cf⟩ := hM1.cells
      obtain ⟨a1, d1, a2, d2, a3, d3, rfl⟩ := hM1.forms
      have cf1 := cf 2
      have hbs2 : base ≤ w2.heap.size := Nat.le_trans hbs hV1.size
      have hR := hM1.rb
      have hMl := hM1.lt
      dsimp only at hR c1 c2 c3
      clear hM1 hV1 hv1 cf
      generalize hd : s.tw.length = n at *
      have HD := hide hd
      clear hd
      go_wp2_with (at_builtin; refine wpList_append_own_at _ rfl _ _ 35 rfl base 3 i3 (.int .i64 0) 1 8 Try.underlying35 hi hz0 hz1 hz2 rfl (by decide) _ _ _ rfl (hR.alloc _) ⟨w2.heap.size, 0, none⟩ 1 1 [.int .i64 t] rfl rfl (newsI (by simp [go_sem])) (onesI _) (by unfold maxLen; omega) (by omega) (by simp; omega) ?_)
      intro v' w3 hown hgrow _ hat
      obtain ⟨av', ac', rfl⟩ := owns_slice hown
      have HA := hide (NowX.setB (x := .slice av' (n + 1) ac') (l := s.tw ++ [t]) HM1.out (grown_mov hgrow) (by rw [List.length_append, HD.out, cZ_snoc]; exact hown) (grown_at (by simpa using hat)))
      have hA : Below w2.heap.size w2 (w2.alloc (.cells #[.int .i64 t] 3)) := (Below.refl _ _).alloc (Nat.le_refl _) _
      have h1 := HM1.out.below hA
      have hbox := (hgrow.block _ h1.lt (fun e => h1.far.2.1 e.symm)).trans h1.box
      have hfr : w3.frozen? ⟨M, 2, none⟩ = false := Lib.frozen_of_heap hbox 2
      have hce : w3.cell? ⟨M, 2, none⟩ = some (.slice a2 n d2) := Lib.cell_of_heap hbox 2
      clear hown hgrow hat hR c1 c2 c3 cf1 hA h1 hbox
      go_wp2
      go_ret
      refine ⟨rfl, ?_⟩
      exact NowX.next HV1.out HW1.out HA.out
    · obtain ⟨e1, e2, e3⟩ := writeE_free (E := 12) hw hb
      exact same 0 (by omega) e1 (e2.trans e3.symm) (writeE_free (E := 14) hw hb).1
  · obtain ⟨e1, e2, e3⟩ := writeE_wrong (E := 12) hw
    exact same _ (by rcases wrong_some s t with q | q | q <;> omega) e1 (e2.trans e3.symm) (writeE_wrong (E := 14) hw).1

end Go.Proofs.Ytggfndokmdpaeaa
