/-
  What the program's Acquire and Waits come to.
-/
import Derived.Test.YtgldhlcdnijecaaFun
namespace Go.Proofs.Ytgldhlcdnijecaa
open Go.RowKit

theorem grown_mov {w w3 : World} {o : Obj} {b : Option Nat} (hg : (w.alloc o).grownBy w3 b) : Mov (fun j => b = some j) w w3 := by
  have hA : Below w.heap.size w (w.alloc o) := (Below.refl _ _).alloc (Nat.le_refl _) _
  exact ⟨hg.os.trans hA.os, hg.tape.trans hA.tape, hg.output.trans hA.output, Nat.le_trans hA.size hg.size, fun k hk hS =>
    (hg.block k (Nat.lt_of_lt_of_le hk hA.size) (fun e => hS e.symm)).trans (hA.block k hk)⟩
theorem grown_at {w : World} {x : Value} {b : Option Nat} (hat : x.ownBlock = b ∨ x.ownBlock = some (w.heap.size + 1)) : ∀ k, x.ownBlock = some k → w.heap.size ≤ k ∨ b = some k := fun k hk => by
  rcases hat with q | q
  · exact Or.inr (q.symm.trans hk)
  · rw [q] at hk
    have := Option.some.inj hk
    exact Or.inl (by omega)
theorem news2 {W : World} {b : Nat} {v u : Value} (h : W.cell? ⟨b, 0, none⟩ = some v) (h2 : W.cell? ⟨b, 1, none⟩ = some u) : ∀ j x, [v, u][j]? = some x → W.cell? ((⟨b, 0, none⟩ : Addr).add j) = some x := by
  intro j x hj
  rw [add_none]
  match j, hj with
  | 0, hj => simp at hj; subst hj; exact h
  | 1, hj => simp at hj; subst hj; exact h2
theorem ones2 (x y : Int) : ∀ u ∈ [Value.int .i64 x, Value.int .i64 y], u.oneCell' = true := by
  intro u hu
  simp at hu
  rcases hu with rfl | rfl <;> rfl

set_option maxHeartbeats 1000000 in
theorem acq_any (M base : Nat) (v : Value) (s : Sm) (hO : Okw s) (hl : s.q.length ≤ 1000) (t m : Int) (w : World) (hM : AtS w M base v s) (hbs : base ≤ w.heap.size) :
    Calls Try.prog 18 #[.pointer (some ⟨M, 0, none⟩), .int .i64 t, .int .i64 m] w fun e w' => e = .returned (.int .i64 (acqE s t m)) ∧ NowS M base v (acqS s t m) w w' := by
  have F := try_any M base v s hO hl t m w hM
  by_cases h : tryE s t m = 12
  · rw [show acqE s t m = 14 from if_pos h, show acqS s t m = ⟨s.n, s.f, s.q ++ [⟨t, m⟩]⟩ from if_pos h]
    rw [h, show tryS s t m = s from if_neg (by rw [h]; decide)] at F
    have HF := hide F
    obtain ⟨i0, hi, hz0, hz1, hz2⟩ := info_parts info56
    clear F hM h hO
    go_enter Try.func18, Try.ntmps18
    go_wp2_with fail
    refine HF.out.mono ?_
    rintro e w2 ⟨rfl, v2, hA, hV, hW⟩
    have HM := hide hA
    have HV := hide hV
    have HW := hide hW
    obtain ⟨_, _, c2, cf⟩ := hA.cells
    have cf2 := cf 2
    have hMl := hA.lt
    have hR := hA.row
    have hbs2 : base ≤ w2.heap.size := Nat.le_trans hbs hV.size
    obtain ⟨av, ac, rfl⟩ := owns_slice hA.row
    clear hA hV hW HF cf
    obtain ⟨L, hL⟩ : ∃ L, s.q.length = L := ⟨_, rfl⟩
    have HL := hide hL
    rw [hL] at hR c2 hl
    clear hL
    go_wp2_with (at_builtin; refine wpList_append_own_at _ rfl _ _ 49 rfl base 56 i0 _ 2 16 Try.underlying49 hi hz0 hz1 hz2 rfl (by decide) _ _ _ rfl (hR.alloc _) ⟨w2.heap.size, 0, none⟩ 1 1 [.int .i64 t, .int .i64 m] rfl rfl (news2 (by simp [go_sem]) (by simp [go_sem])) (ones2 _ _) (by unfold maxLen; omega) (by omega) (by simp; omega) ?_)
    intro v' w3 hown hgrow _ hat
    obtain ⟨av', ac', rfl⟩ := owns_slice hown
    have HA := hide (NowS.setQ (x := .slice av' (L + 1) ac') (l := s.q ++ [⟨t, m⟩]) HM.out (by rw [HL.out]; exact grown_mov hgrow) (by rw [List.length_append, HL.out, cW_app]; exact hown) (by rw [HL.out]; exact grown_at (by simpa using hat)))
    have HB := hide (NowS.next HV.out HW.out HA.out)
    have hAl : Below w2.heap.size w2 (w2.alloc (.cells #[.int .i64 t, .int .i64 m] 56)) := (Below.refl _ _).alloc (Nat.le_refl _) _
    have h1 := HM.out.below hAl
    have hbox := (hgrow.block _ h1.lt (fun e => h1.far (by rw [HL.out]; exact e.symm))).trans h1.box
    have hfr : w3.frozen? ⟨M, 2, none⟩ = false := Lib.frozen_of_heap hbox 2
    have hce := Lib.cell_of_heap hbox 2
    rw [HL.out] at hce
    clear hown hgrow hat hR c2 cf2 hAl h1 hbox HA
    go_wp2
    go_ret
    exact ⟨rfl, HB.out⟩
  · rw [show acqE s t m = tryE s t m from if_neg h, show acqS s t m = tryS s t m from if_neg h]
    have n1 : (tryE s t m != 12) = true := by simpa using h
    have HF := hide F
    clear F hM h hO
    generalize tryE s t m = X at *
    go_enter Try.func18, Try.ntmps18
    go_wp2_with fail
    refine HF.out.mono ?_
    rintro e w2 ⟨rfl, hN⟩
    have HN := hide hN
    clear hN HF
    go_wp2
    go_ret
    exact ⟨rfl, HN.out⟩

/-- What is answered: a row of its own. -/
def Owned (l : List Int) (w : World) (e : Ending) (w' : World) : Prop :=
  ∃ v, e = .returned v ∧ w'.ownsRow w.heap.size 3 1 v l.length (cZ l) ∧ Below w.heap.size w w'
theorem ts_take {l : List Wt} {k : Nat} (h : k < l.length) : ts (l.take (k + 1)) = ts (l.take k) ++ [(wt l k).t] := by
  have e : l.take (k + 1) = l.take k ++ [wt l k] := by
    rw [List.take_add_one, List.getElem?_eq_getElem h, wt, List.getD_eq_getElem?_getD, List.getElem?_eq_getElem h]
    rfl
  rw [e, ts_snoc]
theorem ts_take_len {l : List Wt} {k : Nat} (h : k ≤ l.length) : (ts (l.take k)).length = k := by rw [ts_len, List.length_take]; omega

set_option maxRecDepth 4000 in
set_option maxHeartbeats 2000000 in
theorem waits_any (M base : Nat) (v : Value) (s : Sm) (hl : s.q.length ≤ 1000) (w : World) (hM : AtS w M base v s) :
    Calls Try.prog 14 #[.pointer (some ⟨M, 0, none⟩)] w fun e w' => Owned (ts s.q) w e w' := by
  obtain ⟨i3, hi, hz0, hz1, hz2⟩ := info_parts info3
  obtain ⟨av, ac, hv⟩ := owns_slice hM.row
  obtain ⟨_, _, c2, _⟩ := hM.cells
  subst hv
  have HR := hide hM.row
  clear hM
  have hl0 := hide (World.ownsRow_nil w w.heap.size 3 1)
  obtain ⟨l, hq⟩ : ∃ l, s.q = l := ⟨_, rfl⟩
  rw [hq] at c2 HR hl ⊢
  clear hq
  go_enter Try.func14, Try.ntmps14
  go_wp2
  go_loopw [3, 13] (fun v i wr => ∃ k : Nat, ∃ a d, k ≤ l.length ∧ i = .int .i64 k ∧ v = .slice a k d ∧ Hid (wr.ownsRow w.heap.size 3 1 (.slice a k d) k (cZ (ts (l.take k)))) ∧ Hid (Below w.heap.size w wr)) (fun _ i _ => l.length - (intOf i).toNat)
  case atStart => exact ⟨0, _, _, Nat.zero_le _, rfl, rfl, hl0, Below.refl _ _⟩
  case round =>
    obtain ⟨k, a, d, hk, rfl, rfl, HO, HB⟩ := hrel
    have HRr := hide (owns_below HR.out HB.out)
    have hzw := HB.out.size
    by_cases hlt : k < l.length
    · obtain ⟨g, c', hv, _, hgl, hcell, _⟩ := row_openW HRr.out (by omega)
      simp only [Value.slice.injEq, true_and] at hv
      obtain ⟨rfl, rfl⟩ := hv
      obtain ⟨e1, e2⟩ := hcell k hlt
      have i1 : (k : Int) < (l.length : Int) := by omega
      have i0 : (0 : Int) ≤ (k : Int) := by omega
      have HK := hide (ts_take hlt)
      clear hcell
      generalize (wt l k).t = X at *
      generalize (wt l k).u = Y at *
      have hR' := HO.out
      have b1 : k + 1 ≤ maxLen := by unfold maxLen; omega
      have b2 : (k + 1) * 8 ≤ 140737488355328 := by omega
      go_wp2_with (at_builtin; refine wpList_append_own_at _ rfl _ _ 31 rfl w.heap.size 3 i3 (.int .i64 0) 1 8 Try.underlying31 hi hz0 hz1 hz2 rfl (by decide) _ _ _ rfl ((hR'.alloc _).alloc _) ⟨wr.heap.size + 1, 0, none⟩ 1 1 [.int .i64 X] rfl rfl (newsI (by simp [go_sem])) (onesI _) b1 b2 (by simp; omega) ?_)
      intro v' w3 hown hgrow _ hat
      obtain ⟨av', ac', rfl⟩ := owns_slice hown
      have hb3 : Below w.heap.size w w3 := ((HB.out.alloc hzw _).alloc (by simp; omega) _).grown hgrow (by simp; omega) (fun j hj => (hR'.lt j hj).1)
      have HB3 := hide hb3
      have HO3 : Hid (w3.ownsRow w.heap.size 3 1 (.slice av' (k + 1) ac') (k + 1) (cZ (ts (l.take (k + 1))))) := by
        rw [HK.out, cZ_snoc]
        exact hown
      clear hown hgrow hat hR' hb3 HO HK e1 e2
      go_wp2_with fail
      go_roundw
      case rel => exact ⟨k + 1, av', ac', by omega, by go_num, rfl, HO3, HB3⟩
      case measure => simp [intOf]; omega
    · have he : l.take k = l := List.take_of_length_le (by omega)
      have hkl : k = l.length := by omega
      rw [he] at HO
      have HKL := hide hkl
      have i1 : ¬ (k : Int) < (l.length : Int) := by omega
      clear hkl he
      go_wp2
      go_ret
      refine ⟨_, rfl, ?_, HB.out⟩
      have := HO.out
      rw [HKL.out] at this ⊢
      rw [ts_len]
      exact this

end Go.Proofs.Ytgldhlcdnijecaa
