/-
  What the law OnceWakes asks comes out true at any two bytes and any task that comes later.
-/
import Derived.Test.YtinipmandmhgnaaAwake
import Derived.Test.YtinipmandmhgnaaUp
import Derived.Deep.DeepCutAuto
namespace Go.Proofs.Ytinipmandmhgnaa
open Go.RowKit

/-- Who waits ahead of i, where G is dropped. -/
def wg (G i : Nat) : List Int := rmZ (upZ 1 (i - 1)) (G : Int)
theorem wg_len {G i : Nat} (h : i ≤ 10) : (wg G i).length ≤ 9 := by
  have := rm_len (upZ 1 (i - 1)) (G : Int)
  rw [up_len] at this
  unfold wg
  omega
theorem rm_snoc (l : List Int) (x t : Int) : rmZ (l ++ [x]) t = if x = t then rmZ l t else rmZ l t ++ [x] := by
  unfold rmZ
  rw [List.filter_append]
  by_cases h : x = t
  · rw [if_pos h, List.filter_cons_of_neg (by simp [h])]
    exact List.append_nil _
  · rw [if_neg h, List.filter_cons_of_pos (by simp [h])]
    rfl
theorem up_next {i : Nat} (h : 1 ≤ i) : upZ 1 (i + 1 - 1) = upZ 1 (i - 1) ++ [(i : Int)] := by
  obtain ⟨j, rfl⟩ : ∃ j, i = j + 1 := ⟨i - 1, by omega⟩
  show upZ 1 (j + 1) = upZ 1 j ++ _
  rw [up_snoc]
  congr 2
  omega
theorem wg_next {G i : Nat} (h : 1 ≤ i) (hg : i ≠ G) : wg G (i + 1) = wg G i ++ [(i : Int)] := by
  unfold wg
  rw [up_next h, rm_snoc, if_neg (by omega)]
theorem wg_skip {G i : Nat} (h : 1 ≤ i) (hg : i = G) : wg G (i + 1) = wg G i := by
  unfold wg
  rw [up_next h, rm_snoc, if_pos (by omega)]
theorem wg_mem {G i : Nat} {x : Int} (h : x ∈ wg G i) : 1 ≤ x ∧ x < (i : Int) := by
  have := (up_mem _ _ _).1 (mem_rm.1 h).1
  omega
theorem wg_nodup (G i : Nat) : (wg G i).Nodup := rm_nodup (up_nodup _ _) _
theorem wg_ok {G i : Nat} (h : i ≤ 10) : Okz (99 :: wg G i) := by
  refine ⟨List.nodup_cons.2 ⟨fun q => ?_, wg_nodup G i⟩, fun x hx => ?_⟩
  · have := wg_mem q; omega
  · rcases List.mem_cons.1 hx with q | q
    · omega
    · exact (wg_mem q).1
theorem wg_out {G i : Nat} : inZ (wg G i) (i : Int) = false := inZ_false.2 fun q => by have := wg_mem q; omega
theorem wg_okn {G i : Nat} (h1 : 1 ≤ i) (h : i ≤ 9) : Okz (99 :: (wg G i ++ [(i : Int)])) := by
  have k := (wg_ok (G := G) (i := i) (by omega)).snoc (t := (i : Int)) (by omega) (inZ_false.2 fun q => by
    rcases List.mem_cons.1 q with e | e
    · omega
    · exact inZ_false.1 wg_out e)
  exact k
theorem wg_beg {G i : Nat} (h1 : 1 ≤ i) (h : i ≤ 9) : begB (99 :: wg G i) false (i : Int) = false ∧ begE (99 :: wg G i) false (i : Int) = 14 ∧ begL (99 :: wg G i) false (i : Int) = 99 :: (wg G i ++ [(i : Int)]) := by
  obtain ⟨e1, e2, e3⟩ := beg_new (l := 99 :: wg G i) (o := false) (t := (i : Int)) (by omega) rfl (inZ_false.2 fun q => by
    rcases List.mem_cons.1 q with e | e
    · omega
    · exact inZ_false.1 wg_out e)
  rw [e1, e2, e3]
  exact ⟨decide_eq_false (by simp), if_neg (by simp), rfl⟩
theorem wg_drop {G i : Nat} : dropB (99 :: (wg G i ++ [(i : Int)])) (i : Int) = true ∧ dropL (99 :: (wg G i ++ [(i : Int)])) (i : Int) = 99 :: wg G i := by
  refine ⟨inZ_true.2 (by simp), ?_⟩
  show 99 :: rmZ (wg G i ++ [(i : Int)]) (i : Int) = _
  rw [rm_snoc, if_pos rfl, rm_none wg_out]
theorem has99 (q : List Int) : has (99 :: q) 99 := ⟨by decide, by simp, rfl⟩

theorem grown_mov {w w3 : World} {o : Obj} {b : Option Nat} (hg : (w.alloc o).grownBy w3 b) : Mov (fun j => b = some j) w w3 := by
  have hA : Below w.heap.size w (w.alloc o) := (Below.refl _ _).alloc (Nat.le_refl _) _
  exact ⟨hg.os.trans hA.os, hg.tape.trans hA.tape, hg.output.trans hA.output, Nat.le_trans hA.size hg.size, fun k hk hS =>
    (hg.block k (Nat.lt_of_lt_of_le hk hA.size) (fun e => hS e.symm)).trans (hA.block k hk)⟩
/-- The program's, beside a row of the law's own. -/
def XW (W0 : World) (M : Nat) (l : List Int) (o : Bool) (q : List Int) (v : Value) (w : World) : Prop :=
  Xs W0 M (fun k => v.ownBlock = some k) l o w ∧ w.ownsRow W0.heap.size 3 1 v q.length (cZ q)
theorem XW.kept {W0 : World} {M : Nat} {l l2 : List Int} {o o2 : Bool} {q : List Int} {v : Value} {w w' : World} (h : XW W0 M l o q v w) (k : Xs W0 M (fun k => v.ownBlock = some k) l2 o2 w') (hk : Kept (fun k => v.ownBlock = some k) w w') : XW W0 M l2 o2 q v w' :=
  ⟨k, owns_far h.2 fun j hj => hk.1 j hj⟩
theorem XW.app {W0 : World} {M : Nat} {l : List Int} {o : Bool} {q : List Int} {v v' : Value} {t : Int} {w w3 : World} {ob : Obj} (h : XW W0 M l o q v w) (hg : (w.alloc ob).grownBy w3 v.ownBlock) (ho : w3.ownsRow W0.heap.size 3 1 v' (q ++ [t]).length (cZ (q ++ [t]))) (hat : v'.ownBlock = v.ownBlock ∨ v'.ownBlock = some (w.heap.size + 1)) : XW W0 M l o (q ++ [t]) v' w3 := by
  obtain ⟨⟨h1, ⟨x, h2, h3⟩, h4⟩, h5⟩ := h
  have hm := grown_mov hg
  refine ⟨⟨h1, ⟨x, h2.keep fun j hj => hm.block j (h2.mine_lt hj) (fun e => (h3 j e).2 hj), fun j hj => ⟨(ho.lt j hj).2, fun m => ?_⟩⟩, ?_⟩, ho⟩
  · rcases hat with e | e
    · exact (h3 j (e.symm.trans hj)).2 m
    · have e2 := Option.some.inj (e.symm.trans hj)
      have := h2.mine_lt m
      omega
  · exact (h4.alloc h4.size ob).grown hg (by have := h4.size; simp; omega) (fun j hj => (h5.lt j hj).1)
theorem Xs.xw {W0 : World} {M : Nat} {l : List Int} {o : Bool} {w : World} (h : Xs W0 M none0 l o w) : XW W0 M l o [] (.slice (some ⟨w.heap.size, 0, none⟩) 0 0) (w.alloc (.cells #[] 3)) := by
  obtain ⟨h1, ⟨x, h2, h3⟩, h4⟩ := h
  refine ⟨⟨h1, ⟨x, h2.below (below1 _ _), fun j hj => ?_⟩, h4.alloc h4.size _⟩, owns_base (lit0 w) h4.size⟩
  have e : w.heap.size = j := by simpa [Value.ownBlock] using hj
  exact ⟨by rw [← e]; simp, fun m => by have := h2.mine_lt m; omega⟩

set_option maxRecDepth 20000 in
set_option maxHeartbeats 8000000 in
theorem wakes_walk (n g late : Int) (hn : 0 ≤ n ∧ n ≤ 255) (hg : 0 ≤ g ∧ g ≤ 255) (w : World) : Calls Try.prog 5 #[.int .u8 n, .int .u8 g, .int .i64 late] w fun e w' => e = .returned (.bool true) ∧ Below w.heap.size w w' := by
  obtain ⟨i3, hi, hz0, hz1, hz2⟩ := info_parts info3
  obtain ⟨A, na, hA9, na2, na3⟩ := u8_mod hn 10 (by omega) (by omega)
  obtain ⟨G, ga, hG9, ga2, ga3⟩ := u8_mod hg 12 (by omega) (by omega)
  have N0 := hide (x_new (w := w))
  have HAW := hide awake_any
  have HNA : Hid (n.tmod 10 = (A : Int) ∧ wrap64 (A : Int) = (A : Int)) := ⟨na, na3⟩
  have HGA : Hid (g.tmod 12 = (G : Int) ∧ wrap64 (G : Int) = (G : Int)) := ⟨ga, ga3⟩
  clear na na2 na3 ga ga2 ga3 hn hg
  have B0 : Hid (∀ M W, Xs w M none0 [] false W → Calls Try.prog 13 #[.pointer (some ⟨M, 0, none⟩), .int .i64 99] W fun e w' => e = .returned (.tuple #[.bool true, .int .i64 0]) ∧ Xs w M none0 [99] false w' ∧ Kept none0 W w') := fun M W h => x_beg Okz.nil (by decide) 99 h
  have B1 : Hid (∀ M F i W, 1 ≤ i → i ≤ A → Xs w M F (99 :: wg G i) false W → Calls Try.prog 13 #[.pointer (some ⟨M, 0, none⟩), .int .i64 (i : Int)] W fun e w' => e = .returned (.tuple #[.bool false, .int .i64 14]) ∧ Xs w M F (99 :: (wg G i ++ [(i : Int)])) false w' ∧ Kept F W w') := hide fun M F i W h1 h2 q => by
    have := x_beg (wg_ok (by omega)) (by have := wg_len (G := G) (i := i) (by omega); simp; omega) (i : Int) q
    obtain ⟨e1, e2, e3⟩ := wg_beg (G := G) (i := i) h1 (by omega)
    rw [e1, e2, e3] at this
    exact this
  have D1 : Hid (∀ M F i W, 1 ≤ i → i ≤ A → Xs w M F (99 :: (wg G i ++ [(i : Int)])) false W → Calls Try.prog 8 #[.pointer (some ⟨M, 0, none⟩), .int .i64 (i : Int)] W fun e w' => e = .returned (.bool true) ∧ Xs w M F (99 :: wg G i) false w' ∧ Kept F W w') := hide fun M F i W h1 h2 q => by
    have := x_drop (wg_okn h1 (by omega)) (by have := wg_len (G := G) (i := i) (by omega); simp; omega) (i : Int) q
    obtain ⟨e1, e2⟩ := wg_drop (G := G) (i := i)
    rw [e1, e2] at this
    exact this
  have HN9 : Hid (A ≤ 9 ∧ G ≤ 11) := hide ⟨by omega, by omega⟩
  have W9 : Hid ((wg G (A + 1)).length ≤ 9) := hide (wg_len (by omega))
  go_enter Try.func5, Try.ntmps5
  go_wp2_with fail
  refine N0.out.mono ?_
  rintro e w1 ⟨rfl, hX⟩
  have HX := hide hX
  clear hX N0
  generalize w.heap.size = M at HX ⊢
  go_wp2_with fail
  refine (B0.out _ _ HX.out).mono ?_
  rintro e w2 ⟨rfl, hX, _⟩
  have HX0 : Hid (XW w M (99 :: wg G 1) false (wg G 1) (.slice (some ⟨w2.heap.size, 0, none⟩) 0 0) (w2.alloc (.cells #[] 3))) := hide (Xs.xw hX)
  clear hX B0 HX
  go_wp2_with fail
  go_loopw [10, 11] (fun v i wr => ∃ j : Nat, ∃ a d, i = .int .i64 (j : Int) ∧ v = .slice a (wg G j).length d ∧ 1 ≤ j ∧ j ≤ A + 1 ∧ Hid (XW w M (99 :: wg G j) false (wg G j) (.slice a (wg G j).length d) wr)) (fun _ i _ => A + 1 - (intOf i).toNat)
  case atStart => exact ⟨1, _, _, rfl, rfl, by omega, by omega, HX0⟩
  case round =>
    clear HX0
    obtain ⟨j, a, d, rfl, rfl, hj1, hj2, HX⟩ := hrel
    obtain ⟨na, na3⟩ := HNA.out
    by_cases q : j ≤ A
    · have q1 : (j : Int) ≤ (A : Int) := by omega
      have q0 : (0 : Int) ≤ (j : Int) := by omega
      have hj9 : j ≤ 9 := by have := HN9.out; omega
      have C1 := hide (B1.out M _ j wr hj1 q HX.out.1)
      have C2 := hide (D1.out M (fun k => (Value.slice a (wg G j).length d).ownBlock = some k) j)
      have HOW := hide HX.out.2
      have hbn : w.heap.size ≤ wr.heap.size := HX.out.1.size
      obtain ⟨N, hN⟩ : ∃ N, (wg G j).length = N := ⟨_, rfl⟩
      have hN9 : N ≤ 9 := by rw [← hN]; exact wg_len (by omega)
      have HNL := hide hN
      rw [hN] at HX C1 C2 HOW ⊢
      clear hN
      go_wp2_with fail
      clear na na3 q1
      refine C1.out.mono ?_
      rintro e w3 ⟨rfl, hX, hk⟩
      have HX3 := hide (XW.kept (HNL.out.symm ▸ HX.out : XW w M (99 :: wg G j) false (wg G j) (.slice a N d) wr) hX hk)
      have hz3 := hk.2
      clear hX hk C1 HX HOW
      by_cases hg : j = G
      · have gg : ((j : Int) == wrap64 (g.tmod 12)) = true := by rw [HGA.out.1, HGA.out.2]; simp [hg]
        have C3 := hide (C2.out w3 hj1 q HX3.out.1)
        have HS := hide (wg_skip hj1 hg)
        clear C2 hg
        go_wp2_with fail
        clear gg
        refine C3.out.mono ?_
        rintro e w4 ⟨rfl, hX, hk⟩
        have HX4 := hide (XW.kept HX3.out hX hk)
        clear hX hk C3 HX3
        go_wp2_with fail
        go_roundw
        case rel =>
          refine ⟨j + 1, a, d, by go_num, by rw [HS.out, HNL.out], by omega, by omega, ?_⟩
          rw [HS.out, HNL.out]
          exact HX4
        case measure => simp [intOf]; omega
      · have gg : ((j : Int) == (G : Int)) = false := by simp; omega
        have gp : ¬ (j : Int) = wrap64 (g.tmod 12) := by rw [HGA.out.1, HGA.out.2]; omega
        have HS := hide (wg_next hj1 hg)
        have hR : w3.ownsRow w.heap.size 3 1 (.slice a N d) N (cZ (wg G j)) := by have := HX3.out.2; rw [HNL.out] at this; exact this
        have hb3 : w.heap.size ≤ w3.heap.size := Nat.le_trans hbn hz3
        have b1 : N + 1 ≤ maxLen := by clear gg gp; unfold maxLen; omega
        have b2 : (N + 1) * 8 ≤ 140737488355328 := by clear gg gp; omega
        have b3 : w.heap.size ≤ (w3.alloc (.cells #[.int .i64 (j : Int)] 3)).heap.size := by clear gg gp; simp; omega
        clear C2 hbn hz3 hg
        go_wp2_with (at_builtin; refine wpList_append_own_at _ rfl _ _ 26 rfl w.heap.size 3 i3 (.int .i64 0) 1 8 Try.underlying26 hi hz0 hz1 hz2 rfl (by decide) _ _ _ rfl (hR.alloc _) ⟨w3.heap.size, 0, none⟩ 1 1 [.int .i64 (j : Int)] rfl rfl (newsI (by simp [go_sem])) (onesI _) b1 b2 b3 ?_)
        intro v' w5 hown hgrow _ hat
        obtain ⟨av', ac', rfl⟩ := owns_slice hown
        have e4 : (wg G (j + 1)).length = N + 1 := by rw [HS.out, List.length_append, HNL.out]; rfl
        have HX5 : Hid (XW w M (99 :: wg G (j + 1)) false (wg G (j + 1)) (.slice av' (N + 1) ac') w5) := hide (by
          have := XW.app HX3.out hgrow (by rw [List.length_append, HNL.out, cZ_snoc]; exact hown) (by simpa using hat)
          rw [HS.out]
          exact this)
        have HE := hide e4
        clear hown hgrow hat hR HX3 gg gp e4 hb3
        go_wp2_with fail
        go_roundw
        case rel =>
          refine ⟨j + 1, av', ac', by go_num, by rw [HE.out], by omega, by omega, ?_⟩
          rw [HE.out]
          exact HX5
        case measure => simp [intOf]; omega
    · have q1 : ¬ (j : Int) ≤ (A : Int) := by omega
      have ej : j = A + 1 := by omega
      subst ej
      have HL9 := W9
      clear B1 D1 hj1 hj2 q W9
      generalize wg G (A + 1) = L at *
      have HOW := hide HX.out.2
      have CD := x_dn 99 HX.out.1
      obtain ⟨e1, e2, e3, e4⟩ := dn_yes (o := false) (has99 L)
      rw [e1, e2, e3, e4] at CD
      have HCD : Hid (Calls Try.prog 10 #[.pointer (some ⟨M, 0, none⟩), .int .i64 99] wr fun e w' => ∃ b c, e = .returned (.tuple #[.slice b L.length c, .int .i64 0]) ∧ RowF (fun k => (Value.slice a L.length d).ownBlock = some k ∨ adr L b k) w' b L ∧ Xs w M (fun k => (Value.slice a L.length d).ownBlock = some k ∨ adr L b k) [] true w' ∧ Kept (fun k => (Value.slice a L.length d).ownBlock = some k) wr w') := hide CD
      have HI : Hid (∀ a1 a2 c1 c2 W, RowZ W a1 L → RowZ W a2 L → Calls Try.prog 12 #[.slice a1 L.length c1, .slice a2 L.length c2] W fun e w' => e = .returned (.bool true) ∧ Below W.heap.size W w') := hide fun a1 a2 c1 c2 W k1 k2 => same_ints a1 a2 c1 c2 L W (by have := HL9.out; omega) k1 k2
      have HB2 : Hid (∀ F W, Xs w M F [] true W → Calls Try.prog 13 #[.pointer (some ⟨M, 0, none⟩), .int .i64 late] W fun e w' => e = .returned (.tuple #[.bool false, .int .i64 (if late < 1 then 1 else 0)]) ∧ Xs w M F [] true w' ∧ Kept F W w') := hide fun F W h => by
        have := x_beg Okz.nil (by decide) late h
        have f1 : begB [] true late = false := by unfold begB; split <;> rfl
        have f2 : begL [] true late = [] := by unfold begL; split <;> rfl
        have f3 : begE [] true late = (if late < 1 then 1 else 0) := rfl
        rw [f1, f2, f3] at this
        exact this
      clear CD e1 e2 e3 e4 HX HL9
      obtain ⟨N, hN⟩ : ∃ N, L.length = N := ⟨_, rfl⟩
      have HNL := hide hN
      rw [hN] at HCD HI HOW ⊢
      clear hN
      go_wp2_with fail
      clear q1 na na3
      refine HCD.out.mono ?_
      rintro e w4 ⟨a4, c4, rfl, hr, hX, hk⟩
      have HX4 := hide hX
      have HR4 := hide hr
      have HO4 := hide (owns_far HOW.out fun j hj => hk.1 j hj)
      clear hX hr hk HCD HOW
      by_cases hl : late < 1
      · have HB3 := HB2.out _ _ HX4.out
        rw [if_pos hl] at HB3
        have HC := hide HB3
        clear HB3 HB2 HI HO4 HR4
        go_wp2_with fail
        refine HC.out.mono ?_
        rintro e w5 ⟨rfl, hX, _⟩
        have HX5 := hide hX
        clear hX HC HX4
        go_wp2_with fail
        refine (HAW.out _).mono ?_
        rintro e w6 ⟨rfl, hb⟩
        have HB := hide (HX5.out.below hb).2.2
        clear hb HX5
        go_wp2
        go_ret
        exact ⟨rfl, HB.out⟩
      · have HB3 := HB2.out _ _ HX4.out
        rw [if_neg hl] at HB3
        have HC := hide HB3
        clear HB3 HB2
        go_wp2_with fail
        refine HC.out.mono ?_
        rintro e w5 ⟨rfl, hX, hk⟩
        have HX5 := hide hX
        have HR5 := hide (HR4.out.kept hk).row
        have HO5 := hide (owns_far HO4.out fun j hj => hk.1 j (Or.inl hj))
        clear hX hk HC HX4 HR4 HO4
        go_wp2_with fail
        refine (HAW.out _).mono ?_
        rintro e w6 ⟨rfl, hb⟩
        have HX6 := hide (HX5.out.below hb)
        have HR6 := hide (HR5.out.below hb)
        have HO6 := hide (owns_below HO5.out hb)
        have HZ6 : Hid (RowZ w6 a L) := hide (owns_rowZ (a := a) (c := d) (l := L) (by have := HO6.out; rw [← HNL.out] at this; exact this))
        clear hb HX5 HR5 HO5 HO6 HAW
        go_wp2_with fail
        refine (HI.out _ _ _ _ _ HR6.out HZ6.out).mono ?_
        rintro e w7 ⟨rfl, hb⟩
        have HX7 := hide (HX6.out.below hb)
        clear hb HX6 HR6 HZ6 HI
        have CW := hide (x_waits (l := []) (by simp) HX7.out)
        go_wp2_with fail
        refine CW.out.mono ?_
        rintro e w8 ⟨a8, c8, rfl, _, hb⟩
        have HF := hide (HX7.out.below hb).2.2
        clear hb CW HX7
        go_wp2
        go_ret
        exact ⟨rfl, HF.out⟩

end Go.Proofs.Ytinipmandmhgnaa
