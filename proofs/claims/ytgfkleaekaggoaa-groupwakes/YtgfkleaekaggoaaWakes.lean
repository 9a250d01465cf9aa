/-
  What the law GroupWakes asks comes out true at any two bytes.
-/
import Derived.Test.YtgfkleaekaggoaaAwake
import Derived.Test.YtgfkleaekaggoaaUp
import Derived.Deep.DeepCutAuto
namespace Go.Proofs.Ytgfkleaekaggoaa
open Go.RowKit

/-- Who waits ahead of i. -/
def wt (i : Nat) : List Int := upZ 1 (i - 1)
theorem wt_len {i : Nat} : (wt i).length = i - 1 := up_len _ _
theorem wt_next {i : Nat} (h : 1 ≤ i) : wt (i + 1) = wt i ++ [(i : Int)] := by
  obtain ⟨j, rfl⟩ : ∃ j, i = j + 1 := ⟨i - 1, by omega⟩
  show upZ 1 (j + 1) = upZ 1 j ++ _
  rw [up_snoc]
  congr 2
  omega
theorem wt_out {i : Nat} : inZ (wt i) (i : Int) = false := up_out (by omega)
theorem wt_in {i : Nat} (h : 1 ≤ i) : inZ (wt (i + 1)) (i : Int) = true := by
  rw [wt_next h]
  exact inZ_true.2 (by simp)

theorem grown_mov {w w3 : World} {o : Obj} {b : Option Nat} (hg : (w.alloc o).grownBy w3 b) : Mov (fun j => b = some j) w w3 := by
  have hA : Below w.heap.size w (w.alloc o) := (Below.refl _ _).alloc (Nat.le_refl _) _
  exact ⟨hg.os.trans hA.os, hg.tape.trans hA.tape, hg.output.trans hA.output, Nat.le_trans hA.size hg.size, fun k hk hS =>
    (hg.block k (Nat.lt_of_lt_of_le hk hA.size) (fun e => hS e.symm)).trans (hA.block k hk)⟩
/-- The program's, beside a row of the law's own. -/
def XW (W0 : World) (M : Nat) (c : Int) (l q : List Int) (v : Value) (w : World) : Prop :=
  Xs W0 M (fun k => v.ownBlock = some k) c l w ∧ w.ownsRow W0.heap.size 3 1 v q.length (cZ q)
theorem XW.kept {W0 : World} {M : Nat} {c c2 : Int} {l l2 q : List Int} {v : Value} {w w' : World} (h : XW W0 M c l q v w) (k : Xs W0 M (fun k => v.ownBlock = some k) c2 l2 w') (hk : Kept (fun k => v.ownBlock = some k) w w') : XW W0 M c2 l2 q v w' :=
  ⟨k, owns_far h.2 fun j hj => hk.1 j hj⟩
theorem XW.app {W0 : World} {M : Nat} {c : Int} {l q : List Int} {v v' : Value} {t : Int} {w w3 : World} {ob : Obj} (h : XW W0 M c l q v w) (hg : (w.alloc ob).grownBy w3 v.ownBlock) (ho : w3.ownsRow W0.heap.size 3 1 v' (q ++ [t]).length (cZ (q ++ [t]))) (hat : v'.ownBlock = v.ownBlock ∨ v'.ownBlock = some (w.heap.size + 1)) : XW W0 M c l (q ++ [t]) v' w3 := by
  obtain ⟨⟨h1, ⟨x, h2, h3⟩, h4⟩, h5⟩ := h
  have hm := grown_mov hg
  refine ⟨⟨h1, ⟨x, h2.keep fun j hj => hm.block j (h2.mine_lt hj) (fun e => (h3 j e).2 hj), fun j hj => ⟨(ho.lt j hj).2, fun m => ?_⟩⟩, ?_⟩, ho⟩
  · rcases hat with e | e
    · exact (h3 j (e.symm.trans hj)).2 m
    · have e2 := Option.some.inj (e.symm.trans hj)
      have := h2.mine_lt m
      omega
  · exact (h4.alloc h4.size ob).grown hg (by have := h4.size; simp; omega) (fun j hj => (h5.lt j hj).1)
theorem Xs.xw {W0 : World} {M : Nat} {c : Int} {l : List Int} {w : World} (h : Xs W0 M none0 c l w) : XW W0 M c l [] (.slice (some ⟨w.heap.size, 0, none⟩) 0 0) (w.alloc (.cells #[] 3)) := by
  obtain ⟨h1, ⟨x, h2, h3⟩, h4⟩ := h
  refine ⟨⟨h1, ⟨x, h2.below (below1 _ _), fun j hj => ?_⟩, h4.alloc h4.size _⟩, owns_base (lit0 w) h4.size⟩
  have e : w.heap.size = j := by simpa [Value.ownBlock] using hj
  exact ⟨by rw [← e]; simp, fun m => by have := h2.mine_lt m; omega⟩

set_option maxRecDepth 20000 in
set_option maxHeartbeats 8000000 in
theorem wakes_walk (n g : Int) (hn : 0 ≤ n ∧ n ≤ 255) (hg : 0 ≤ g ∧ g ≤ 255) (w : World) : Calls Try.prog 5 #[.int .u8 n, .int .u8 g] w fun e w' => e = .returned (.bool true) ∧ Below w.heap.size w w' := by
  obtain ⟨i3, hi, hz0, hz1, hz2⟩ := info_parts info3
  obtain ⟨B, na, hB, na2, na3⟩ := u8_mod hn 20 (by omega) (by omega)
  obtain ⟨A, ga, hA9, ga2, ga3⟩ := u8_mod hg 10 (by omega) (by omega)
  have N0 := hide (x_new (w := w))
  have HAW := hide awake_any
  have HGA : Hid (g.tmod 10 = (A : Int) ∧ wrap64 (A : Int) = (A : Int)) := ⟨ga, ga3⟩
  obtain ⟨K, hK⟩ : ∃ K : Nat, K = 1 + B := ⟨_, rfl⟩
  have hK1 : 1 ≤ K := by omega
  have hK20 : K ≤ 20 := by omega
  have kw2 : wrap64 (1 + (B : Int)) = (K : Int) := by unfold wrap64; omega
  have HK : Hid (wrap64 (1 + wrap64 (n.tmod 20)) = (K : Int)) := hide (by rw [show n.tmod 20 = (B : Int) from na, na3, kw2])
  clear ga ga2 ga3 hn hg na na2 na3 kw2 hK
  have B0 : Hid (∀ M W, Xs w M none0 0 [] W → Calls Try.prog 13 #[.pointer (some ⟨M, 0, none⟩), .int .i64 (K : Int)] W fun e w' => ∃ r, e = .returned (.tuple #[r, .int .i64 0]) ∧ Xs w M none0 (K : Int) [] w' ∧ Kept none0 W w') := hide fun M W h => by
    have := x_add0 (by decide) (K : Int) h
    obtain ⟨e1, e2, _⟩ := add_fit (c := 0) (n := (K : Int)) (by omega) (by omega)
    rw [e1, e2, (add_some (l := []) (show ¬ 0 + (K : Int) = 0 by omega)).2, Int.zero_add] at this
    exact this
  have B1 : Hid (∀ M F i W, 1 ≤ i → i ≤ A → Xs w M F (K : Int) (wt i) W → Calls Try.prog 11 #[.pointer (some ⟨M, 0, none⟩), .int .i64 (i : Int)] W fun e w' => e = .returned (.int .i64 14) ∧ Xs w M F (K : Int) (wt (i + 1)) w' ∧ Kept F W w') := hide fun M F i W h1 h2 q => by
    have := x_wait (by rw [wt_len]; omega) (i : Int) q
    obtain ⟨e1, e2⟩ := wait_new (c := (K : Int)) (l := wt i) (t := (i : Int)) (by omega) wt_out (by omega)
    rw [e1, e2, ← wt_next h1] at this
    exact this
  have B2 : Hid (∀ M F i W, 1 ≤ i → i ≤ A → Xs w M F (K : Int) (wt (i + 1)) W → Calls Try.prog 11 #[.pointer (some ⟨M, 0, none⟩), .int .i64 (i : Int)] W fun e w' => e = .returned (.int .i64 11) ∧ Xs w M F (K : Int) (wt (i + 1)) w' ∧ Kept F W w') := hide fun M F i W h1 h2 q => by
    have := x_wait (by rw [wt_len]; omega) (i : Int) q
    obtain ⟨e1, e2⟩ := wait_in (c := (K : Int)) (l := wt (i + 1)) (t := (i : Int)) (by omega) (wt_in h1)
    rw [e1, e2] at this
    exact this
  have HN9 : Hid (A ≤ 9) := hide (by omega)
  clear hB hA9
  go_enter Try.func5, Try.ntmps5
  go_wp2_with fail
  refine N0.out.mono ?_
  rintro e w1 ⟨rfl, hX⟩
  have HX := hide hX
  clear hX N0
  generalize w.heap.size = M at HX ⊢
  go_wp2_with fail
  rw [HK.out]
  refine (B0.out _ _ HX.out).mono ?_
  rintro e w2 ⟨r2, rfl, hX, _⟩
  clear HK
  have HX0 : Hid (XW w M (K : Int) (wt 1) (wt 1) (.slice (some ⟨w2.heap.size, 0, none⟩) 0 0) (w2.alloc (.cells #[] 3))) := hide (Xs.xw hX)
  clear hX B0 HX
  go_wp2_with fail
  go_loopw [9, 10] (fun v i wr => ∃ j : Nat, ∃ a d, i = .int .i64 (j : Int) ∧ v = .slice a (wt j).length d ∧ 1 ≤ j ∧ j ≤ A + 1 ∧ Hid (XW w M (K : Int) (wt j) (wt j) (.slice a (wt j).length d) wr)) (fun _ i _ => A + 1 - (intOf i).toNat)
  case atStart => exact ⟨1, _, _, rfl, rfl, by omega, by omega, HX0⟩
  case round =>
    clear HX0
    obtain ⟨j, a, d, rfl, rfl, hj1, hj2, HX⟩ := hrel
    obtain ⟨na, na3⟩ := HGA.out
    by_cases q : j ≤ A
    · have q1 : (j : Int) ≤ (A : Int) := by omega
      have q0 : (0 : Int) ≤ (j : Int) := by omega
      have hj9 : j ≤ 9 := by have := HN9.out; omega
      have C1 := hide (B1.out M _ j wr hj1 q HX.out.1)
      have C2 := hide (B2.out M (fun k => (Value.slice a (wt j).length d).ownBlock = some k) j)
      have HOW := hide HX.out.2
      have hbn : w.heap.size ≤ wr.heap.size := HX.out.1.size
      obtain ⟨N, hN⟩ : ∃ N, (wt j).length = N := ⟨_, rfl⟩
      have hN9 : N ≤ 9 := by rw [← hN, wt_len]; omega
      have HNL := hide hN
      rw [hN] at HX C1 C2 HOW ⊢
      clear hN
      go_wp2_with fail
      clear na na3 q1
      refine C1.out.mono ?_
      rintro e w3 ⟨rfl, hX, hk⟩
      have HX3 := hide (XW.kept (HNL.out.symm ▸ HX.out : XW w M (K : Int) (wt j) (wt j) (.slice a N d) wr) hX hk)
      have hz3 := hk.2
      clear hX hk C1 HX HOW
      have C3 := hide (C2.out w3 hj1 q HX3.out.1)
      clear C2
      go_wp2_with fail
      refine C3.out.mono ?_
      rintro e w4 ⟨rfl, hX, hk⟩
      have HX4 := hide (XW.kept HX3.out hX hk)
      have hz4 := hk.2
      clear hX hk C3 HX3
      have HS := hide (wt_next hj1)
      have hR : w4.ownsRow w.heap.size 3 1 (.slice a N d) N (cZ (wt j)) := by have := HX4.out.2; rw [HNL.out] at this; exact this
      have b1 : N + 1 ≤ maxLen := by unfold maxLen; omega
      have b2 : (N + 1) * 8 ≤ 140737488355328 := by omega
      have b3 : w.heap.size ≤ (w4.alloc (.cells #[.int .i64 (j : Int)] 3)).heap.size := by simp; omega
      clear hbn hz3 hz4
      go_wp2_with (at_builtin; refine wpList_append_own_at _ rfl _ _ 26 rfl w.heap.size 3 i3 (.int .i64 0) 1 8 Try.underlying26 hi hz0 hz1 hz2 rfl (by decide) _ _ _ rfl (hR.alloc _) ⟨w4.heap.size, 0, none⟩ 1 1 [.int .i64 (j : Int)] rfl rfl (newsI (by simp [go_sem])) (onesI _) b1 b2 b3 ?_)
      intro v' w5 hown hgrow _ hat
      obtain ⟨av', ac', rfl⟩ := owns_slice hown
      have e4 : (wt (j + 1)).length = N + 1 := by rw [HS.out, List.length_append, HNL.out]; rfl
      have HX5 : Hid (XW w M (K : Int) (wt (j + 1)) (wt (j + 1)) (.slice av' (N + 1) ac') w5) := hide (by
        have := XW.app HX4.out hgrow (by rw [List.length_append, HNL.out, cZ_snoc]; exact hown) (by simpa using hat)
        rw [← HS.out] at this
        exact this)
      have HE := hide e4
      clear hown hgrow hat hR HX4 e4
      go_wp2_with fail
      go_roundw
      case rel =>
        refine ⟨j + 1, av', ac', by go_num, by rw [HE.out], by omega, by omega, ?_⟩
        rw [HE.out]
        exact HX5
      case measure => simp [intOf]; omega
    · have q1 : ¬ (j : Int) ≤ (A : Int) := by omega
      have ej : j = A + 1 := by omega
      subst ej
      have HL9 : Hid ((wt (A + 1)).length ≤ 9) := hide (by rw [wt_len]; have := HN9.out; omega)
      clear B1 B2 hj1 hj2 q HN9
      generalize wt (A + 1) = L at *
      have D1 : Hid (∀ c F W, 0 < c - 1 → c ≤ 20 → Xs w M F c L W → Calls Try.prog 13 #[.pointer (some ⟨M, 0, none⟩), .int .i64 (-1)] W fun e w' => ∃ b s, e = .returned (.tuple #[.slice b 0 s, .int .i64 0]) ∧ Xs w M F (c - 1) L w' ∧ Kept F W w') := hide fun c F W h1 h2 h => by
        have := x_add (by omega) (-1) h
        obtain ⟨e1, e2, _⟩ := add_fit (c := c) (n := -1) (by omega) (by omega)
        obtain ⟨e3, e4⟩ := add_some (c := c) (n := -1) (l := L) (by omega)
        rw [e1, e2, e3, e4] at this
        exact this.mono fun _ _ ⟨b, s, k1, _, k3, k4⟩ => ⟨b, s, k1, k3.mono fun _ hi => Or.inl hi, k4⟩
      have D2 : Hid (∀ F W, Xs w M F 1 L W → Calls Try.prog 13 #[.pointer (some ⟨M, 0, none⟩), .int .i64 (-1)] W fun e w' => ∃ b s, e = .returned (.tuple #[.slice b L.length s, .int .i64 0]) ∧ RowZ w' b L ∧ Xs w M F 0 [] w' ∧ Kept F W w') := hide fun F W h =>
        (x_add (by decide) (-1) h).mono fun _ _ ⟨b, s, k1, k2, k3, k4⟩ => ⟨b, s, k1, k2.row, k3.mono fun _ hi => Or.inl hi, k4⟩
      have D3 : Hid (∀ F W, Xs w M F 0 [] W → Calls Try.prog 13 #[.pointer (some ⟨M, 0, none⟩), .int .i64 (-1)] W fun e w' => ∃ r, e = .returned (.tuple #[r, .int .i64 11]) ∧ Xs w M F 0 [] w' ∧ Kept F W w') := hide fun F W h => x_add0 (by decide) (-1) h
      have D4 : Hid (∀ F W, Xs w M F 0 [] W → Calls Try.prog 11 #[.pointer (some ⟨M, 0, none⟩), .int .i64 3] W fun e w' => e = .returned (.int .i64 0) ∧ Xs w M F 0 [] w' ∧ Kept F W w') := hide fun F W h => x_wait (by decide) 3 h
      have HI : Hid (∀ a1 a2 c1 c2 W, RowZ W a1 L → RowZ W a2 L → Calls Try.prog 15 #[.slice a1 L.length c1, .slice a2 L.length c2] W fun e w' => e = .returned (.bool true) ∧ Below W.heap.size W w') := hide fun a1 a2 c1 c2 W k1 k2 => same_ints a1 a2 c1 c2 L W (by have := HL9.out; omega) k1 k2
      obtain ⟨N, hN⟩ : ∃ N, L.length = N := ⟨_, rfl⟩
      have HNL := hide hN
      rw [hN] at HX HI D2 ⊢
      clear hN HL9
      go_wp2_with fail
      clear q1 na na3
      go_loopw [11] (fun i wq => ∃ j : Nat, i = .int .i64 (j : Int) ∧ 1 ≤ j ∧ ((j ≤ K ∧ Hid (XW w M ((K : Int) + 1 - (j : Int)) L L (.slice a N d) wq)) ∨ (j = K + 1 ∧ Hid (XW w M 0 [] L (.slice a N d) wq)))) (fun i _ => K + 1 - (intOf i).toNat)
      case atStart =>
        refine ⟨1, rfl, by omega, Or.inl ⟨by omega, ?_⟩⟩
        rw [show (K : Int) + 1 - ((1 : Nat) : Int) = (K : Int) by omega]
        exact HX
      case round =>
        clear HX
        obtain ⟨j, rfl, hj1, hj⟩ := hrel
        rcases hj with ⟨hj2, HX⟩ | ⟨hj2, HX⟩
        · have q1 : (j : Int) ≤ (K : Int) := by omega
          by_cases q : j = K
          · subst q
            rw [show (j : Int) + 1 - (j : Int) = 1 by omega] at HX
            have C1 := hide (D2.out _ wr HX.out.1)
            have q2 : ¬ (j : Int) < (j : Int) := by omega
            clear D1 D2 D3 D4
            go_wp2_with fail
            refine C1.out.mono ?_
            rintro e w3 ⟨b, s, rfl, hz, hX, hk⟩
            have HX3 := hide (XW.kept HX.out hX hk)
            have HZ3 := hide hz
            have HO3 : Hid (RowZ w3 a L) := hide (owns_rowZ (a := a) (c := d) (l := L) (by have := HX3.out.2; rw [HNL.out] at this ⊢; exact this))
            clear hX hk hz C1 HX
            go_wp2_with fail
            refine (HI.out _ _ _ _ _ HZ3.out HO3.out).mono ?_
            rintro e w4 ⟨rfl, hb⟩
            have HX4 : Hid (XW w M 0 [] L (.slice a N d) w4) := hide ⟨HX3.out.1.below hb, owns_below HX3.out.2 hb⟩
            clear hb HX3 HZ3 HO3 HI
            go_wp2_with fail
            go_roundw
            case rel => exact ⟨j + 1, by go_num, by omega, Or.inr ⟨rfl, HX4⟩⟩
            case measure => simp [intOf]
          · have q2 : (j : Int) < (K : Int) := by omega
            have C1 := hide (D1.out _ _ wr (by omega) (by omega) HX.out.1)
            rw [show (K : Int) + 1 - (j : Int) - 1 = (K : Int) + 1 - ((j + 1 : Nat) : Int) by omega] at C1
            clear D1 D2 D3 D4 HI
            go_wp2_with fail
            refine C1.out.mono ?_
            rintro e w3 ⟨b, s, rfl, hX, hk⟩
            have HX3 := hide (XW.kept HX.out hX hk)
            clear hX hk C1 HX
            go_wp2_with fail
            go_roundw
            case rel => exact ⟨j + 1, by go_num, by omega, Or.inl ⟨by omega, HX3⟩⟩
            case measure => simp [intOf]; omega
        · have q1 : ¬ (j : Int) ≤ (K : Int) := by omega
          have C1 := hide (D3.out _ wr HX.out.1)
          clear D1 D2 D3 HI
          go_wp2_with fail
          refine C1.out.mono ?_
          rintro e w3 ⟨r3, rfl, hX, _⟩
          have HX3 := hide hX
          clear hX C1 HX
          go_wp2_with fail
          refine (HAW.out _).mono ?_
          rintro e w4 ⟨rfl, hb⟩
          have HX4 := hide (HX3.out.below hb)
          clear hb HX3 HAW
          go_wp2_with fail
          refine (x_count HX4.out).mono ?_
          rintro e w5 ⟨rfl, hw5⟩
          subst hw5
          go_wp2_with fail
          refine (D4.out _ _ HX4.out).mono ?_
          rintro e w6 ⟨rfl, hX, _⟩
          have HF := hide hX.2.2
          clear hX HX4 D4
          go_wp2
          go_ret
          exact ⟨rfl, HF.out⟩

end Go.Proofs.Ytgfkleaekaggoaa
