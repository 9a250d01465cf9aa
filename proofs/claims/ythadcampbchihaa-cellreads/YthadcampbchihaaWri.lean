/-
  What the program's Begin, End and Put come to.
-/
import Derived.Test.YthadcampbchihaaFun
namespace Go.Proofs.Ythadcampbchihaa
open Go.RowKit

set_option maxHeartbeats 1000000 in
theorem begin_any (M : Nat) (s : Ws) (hO : Okw s) (t : Int) (w : World) (hM : AtM w M s) : Calls Try.prog 17 #[.pointer (some ⟨M, 0, none⟩), .int .i64 t] w fun e w' => e = .returned (.int .i64 (begE s t)) ∧ NowM M (begS s t) w w' := by
  obtain ⟨_, c5, c6, cf⟩ := hM.cells
  have HM := hide hM
  have he0 := hO.e0
  have he1 := hO.e1
  clear hM hO
  by_cases h1 : t < 1
  · obtain ⟨e1, e2⟩ := beg_low (s := s) h1
    rw [e1, e2]
    clear e1 e2 c5 c6 cf he0 he1
    go_enter Try.func17, Try.ntmps17
    go_wp2
    go_ret
    exact ⟨rfl, NowM.same HM.out (Below.refl _ _)⟩
  by_cases h2 : s.wr = 0
  · rw [show s.sq = 2 * s.e from if_pos h2] at c5
    have h3 : ¬ t = 0 := by omega
    by_cases h4 : s.e = 524288
    · obtain ⟨e1, e2⟩ := beg_over h1 h2 h4
      rw [e1, e2]
      rw [h2] at c6
      rw [h4] at c5
      clear e1 e2 cf h2 h4 he0 he1
      go_enter Try.func17, Try.ntmps17
      go_wp2
      go_ret
      exact ⟨rfl, NowM.same HM.out (Below.refl _ _)⟩
    · obtain ⟨e1, e2⟩ := beg_ok h1 h2 h4
      rw [e1, e2]
      rw [h2] at c6
      have HF : Hid (∀ x, x = 2 * s.e + 1 → NowM M ⟨s.l, s.e, t⟩ w ((w.setCell ⟨M, 6, none⟩ (.int .i64 t)).setCell ⟨M, 5, none⟩ (.int .i64 x))) := hide fun x hx => ⟨HM.out.beg h3 hx, ((Mov.refl (fun k => k = M) w).set (p := ⟨M, 6, none⟩) rfl _).set (p := ⟨M, 5, none⟩) rfl _⟩
      generalize (⟨s.l, s.e, t⟩ : Ws) = T at *
      have u1 : IntKind.i64.wrap (2 * s.e + 1) = 2 * s.e + 1 := wrapB (by omega)
      have h5 : ¬ 2 * s.e = 1048576 := by omega
      have f5 := cf 5
      have f6 := cf 6
      clear e1 e2 cf h2 h4 he0 he1 HM
      generalize 2 * s.e = Q at *
      go_enter Try.func17, Try.ntmps17
      go_wp2
      go_ret
      exact ⟨rfl, by first | exact HF.out _ rfl | (rw [← u1]; exact HF.out _ u1) | exact HF.out _ u1⟩
  · by_cases h3 : t = s.wr
    · obtain ⟨e1, e2⟩ := beg_mine h1 h3
      rw [e1, e2]
      rw [← h3] at c6
      clear e1 e2 c5 cf he0 he1 h2 h3
      go_enter Try.func17, Try.ntmps17
      go_wp2
      go_ret
      exact ⟨rfl, NowM.same HM.out (Below.refl _ _)⟩
    · obtain ⟨e1, e2⟩ := beg_busy h1 h3 h2
      rw [e1, e2]
      clear e1 e2 c5 cf he0 he1
      generalize s.wr = W at *
      go_enter Try.func17, Try.ntmps17
      go_wp2
      go_ret
      exact ⟨rfl, NowM.same HM.out (Below.refl _ _)⟩

set_option maxHeartbeats 1000000 in
theorem end_any (M : Nat) (s : Ws) (hO : Okw s) (t : Int) (w : World) (hM : AtM w M s) : Calls Try.prog 19 #[.pointer (some ⟨M, 0, none⟩), .int .i64 t] w fun e w' => e = .returned (.int .i64 (endE s t)) ∧ NowM M (endS s t) w w' := by
  obtain ⟨_, c5, c6, cf⟩ := hM.cells
  have HM := hide hM
  have he0 := hO.e0
  have he1 := hO.e1
  clear hM hO
  by_cases h1 : t < 1
  · obtain ⟨e1, e2⟩ := end_low (s := s) h1
    rw [e1, e2]
    clear e1 e2 c5 c6 cf he0 he1
    go_enter Try.func19, Try.ntmps19
    go_wp2
    go_ret
    exact ⟨rfl, NowM.same HM.out (Below.refl _ _)⟩
  by_cases h3 : t = s.wr
  · obtain ⟨e1, e2⟩ := end_ok h1 h3
    rw [e1, e2]
    rw [show s.sq = 2 * s.e + 1 from if_neg (by omega)] at c5
    rw [← h3] at c6
    have HF : Hid (∀ x, x = 2 * s.e + 2 → NowM M ⟨s.l, s.e + 1, 0⟩ w ((w.setCell ⟨M, 6, none⟩ (.int .i64 0)).setCell ⟨M, 5, none⟩ (.int .i64 x))) := hide fun x hx => ⟨HM.out.fin hx, ((Mov.refl (fun k => k = M) w).set (p := ⟨M, 6, none⟩) rfl _).set (p := ⟨M, 5, none⟩) rfl _⟩
    generalize (⟨s.l, s.e + 1, 0⟩ : Ws) = T at *
    have u1 : IntKind.i64.wrap (2 * s.e + 1 + 1) = 2 * s.e + 2 := by rw [show 2 * s.e + 1 + 1 = 2 * s.e + 2 from by omega]; exact wrapB (by omega)
    have f5 := cf 5
    have f6 := cf 6
    clear e1 e2 cf h3 he0 he1 HM
    generalize 2 * s.e + 2 = P at *
    generalize 2 * s.e + 1 = Q at *
    go_enter Try.func19, Try.ntmps19
    go_wp2
    go_ret
    exact ⟨rfl, by first | exact HF.out _ rfl | exact HF.out _ u1⟩
  · obtain ⟨e1, e2⟩ := end_not h1 h3
    rw [e1, e2]
    clear e1 e2 c5 cf he0 he1
    generalize s.wr = W at *
    go_enter Try.func19, Try.ntmps19
    go_wp2
    go_ret
    exact ⟨rfl, NowM.same HM.out (Below.refl _ _)⟩

set_option maxHeartbeats 1000000 in
theorem put_any (M : Nat) (s : Ws) (h4 : s.l.length ≤ 4) (t i v : Int) (w : World) (hM : AtM w M s) : Calls Try.prog 18 #[.pointer (some ⟨M, 0, none⟩), .int .i64 t, .int .i64 i, .int .i64 v] w fun e w' => e = .returned (.int .i64 (putE s t i)) ∧ NowM M (putS s t i v) w w' := by
  obtain ⟨_, _, c6, cf⟩ := hM.cells
  have HH := hide (has_any M s i w hM)
  have HM := hide hM
  by_cases h1 : t < 1
  · obtain ⟨e1, e2⟩ := put_low (s := s) (i := i) (v := v) h1
    rw [e1, e2]
    clear e1 e2 c6 cf HH hM
    go_enter Try.func18, Try.ntmps18
    go_wp2
    go_ret
    exact ⟨rfl, NowM.same HM.out (Below.refl _ _)⟩
  cases hb : hasI s.l i
  · obtain ⟨e1, e2⟩ := put_out (v := v) h1 hb
    rw [e1, e2]
    rw [hb] at HH
    clear e1 e2 c6 cf hM hb
    go_enter Try.func18, Try.ntmps18
    go_wp2_with fail
    refine HH.out.mono ?_
    rintro e w2 ⟨rfl, hw2⟩
    subst hw2
    go_wp2
    go_ret
    exact ⟨rfl, NowM.same HM.out (Below.refl _ _)⟩
  by_cases h3 : t = s.wr
  · obtain ⟨e1, e2⟩ := put_ok (v := v) h1 hb h3
    rw [e1, e2]
    rw [hb] at HH
    obtain ⟨k, rfl, hk⟩ := has_at hb
    rw [← h3] at c6
    have ck := hM.word (k := k) (by omega)
    have g1 : (0 : Int) ≤ (k : Int) := by omega
    have g2 : (k : Int) < 4 := by omega
    have fk := cf k
    have HF : Hid (NowM M ⟨s.l.set (Int.toNat (k : Int)) v, s.e, s.wr⟩ w (w.setCell ⟨M, k, none⟩ (.int .i64 v))) := hide ⟨HM.out.setWord hk (by omega) v, (Mov.refl (fun k => k = M) w).set (p := ⟨M, k, none⟩) rfl _⟩
    generalize (⟨s.l.set (Int.toNat (k : Int)) v, s.e, s.wr⟩ : Ws) = T at *
    generalize gz s.l k = G at *
    clear e1 e2 cf hM hb h3 HM h4 hk
    go_enter Try.func18, Try.ntmps18
    go_wp2_with fail
    refine HH.out.mono ?_
    rintro e w2 ⟨rfl, hw2⟩
    subst hw2
    go_wp2
    go_ret
    exact ⟨rfl, HF.out⟩
  · obtain ⟨e1, e2⟩ := put_not (v := v) h1 hb h3
    rw [e1, e2]
    rw [hb] at HH
    clear e1 e2 cf hM hb
    generalize s.wr = W at *
    go_enter Try.func18, Try.ntmps18
    go_wp2_with fail
    refine HH.out.mono ?_
    rintro e w2 ⟨rfl, hw2⟩
    subst hw2
    go_wp2
    go_ret
    exact ⟨rfl, NowM.same HM.out (Below.refl _ _)⟩

end Go.Proofs.Ythadcampbchihaa
