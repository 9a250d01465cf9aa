/-
  What the law BufferOnce asks comes out true at any list.
-/
import Derived.Test.YtiookbmffdmdeaaMem
import Derived.Deep.DeepCutAuto
import Derived.Deep.CutBlock
import Derived.BigQuiet
namespace Go.Proofs.Ytiookbmffdmdeaa
open Go.RowKit

theorem Row1.app {w w3 : World} {base B n : Nat} {v v3 : Value} {l d : List Wk} {x : Wk} {o : Obj} (h : Row1 w base B n v l d) (ho : w3.ownsRow base 31 2 v3 (d.length + 1) (cW d ++ [.int .i64 x.t, .int .i64 x.e])) (hg : (w.alloc o).grownBy w3 v.ownBlock) : Row1 w3 base B n v3 l (d ++ [x]) := by
  have h' := h.below (below1 w o)
  refine ⟨h'.b.same (hg.block B h'.b.lt (fun e => ?_)), ?_⟩
  · obtain ⟨cs, h1, _⟩ := h'.b.box
    exact owns_far h'.r h1 (by decide) e.symm
  · rw [cW_app, List.length_append]; exact ho

set_option maxHeartbeats 4000000 in
theorem once_walk (a1 : Option Addr) (l1 c1 : Nat) (h1 : l1 ≤ c1) (g1 : c1 ≤ maxLen) (w : World) (hact1 : Acts w a1 l1) :
    Calls Try.prog 5 #[.slice a1 l1 c1] w fun e w' => e = .returned (.bool true) ∧ Below w.heap.size w w' := by
  obtain ⟨i0, hi, hz0, hz1, hz2⟩ := info_parts info31
  have hl1 : l1 ≤ maxLen := Nat.le_trans h1 g1
  unfold maxLen at hl1
  clear h1 g1
  have NN : Hid (∀ W : World, Calls Try.prog 7 #[.int .i64 8] W fun e w' => e = .returned (.pointer (some ⟨W.heap.size, 0, none⟩)) ∧ AtB w' W.heap.size 8 [] ∧ Below W.heap.size W w') := fun W => new_any 8 W
  have PY : Hid (∀ B W base v l x y, Ok 8 l → putB 8 l ⟨x, y⟩ = true → Row1 W base B 8 v l l → Calls Try.prog 9 #[.pointer (some ⟨B, 0, none⟩), .agg #[.int .i64 x, .int .i64 y]] W fun e w' => e = .returned (.bool true) ∧ Turn B W w' ∧ Row1 w' base B 8 v (l ++ [⟨x, y⟩]) l) := fun B W base v l x y hO hb h =>
    (put_any B 8 l ⟨x, y⟩ hO W h.b).mono fun e w' k => by
      have := h.now k.2
      rw [putL_yes hb] at this
      exact ⟨by rw [k.1, hb], k.2.2, this⟩
  have PN : Hid (∀ B W base v l x y, Ok 8 l → putB 8 l ⟨x, y⟩ = false → Row1 W base B 8 v l l → Calls Try.prog 9 #[.pointer (some ⟨B, 0, none⟩), .agg #[.int .i64 x, .int .i64 y]] W fun e w' => e = .returned (.bool false) ∧ Turn B W w' ∧ Row1 w' base B 8 v l l) := fun B W base v l x y hO hb h =>
    (put_any B 8 l ⟨x, y⟩ hO W h.b).mono fun e w' k => by
      have := h.now k.2
      rw [putL_no hb] at this
      exact ⟨by rw [k.1, hb], k.2.2, this⟩
  have DB : Hid (∀ B W base v l, Ok 8 l → Row1 W base B 8 v l l → Calls Try.prog 13 #[.pointer (some ⟨B, 0, none⟩)] W fun e w' => e = .returned (.slice (some ⟨W.heap.size, 0, none⟩) 8 8) ∧ w'.ownsRow W.heap.size 31 2 (.slice (some ⟨W.heap.size, 0, none⟩) 8 8) 8 (cW (told 8 l)) ∧ Row1 w' base B 8 v [] l ∧ Turn B W w') := fun B W base v l hO h =>
    (deliver_any B 8 l hO W h.b).mono fun e w' k => ⟨k.1, k.2.1, h.now k.2.2, k.2.2.2⟩
  have OK0 : Hid (Ok 8 []) := Ok.nil (by omega)
  have HA1 := hide hact1
  clear hact1
  go_enter Try.func5, Try.ntmps5
  go_wp2_with fail
  refine (NN.out _).mono ?_
  rintro e w2 ⟨rfl, hX, hb⟩
  obtain ⟨B, hXe⟩ : ∃ B, B = w.heap.size := ⟨_, rfl⟩
  rw [← hXe] at hX ⊢
  have hBl : w.heap.size ≤ B := by omega
  have hR0 : Row1 (w2.alloc (.cells #[] 31)) w.heap.size B 8 (.slice (some ⟨w2.heap.size, 0, none⟩) 0 0) [] [] := ⟨hX.below (below1 _ _), lit0 w2 hb.size⟩
  have HX := hide hR0
  have HB2 := hide (below_next hb (below1 w2 (.cells #[] 31)))
  clear hX hXe hR0 hb
  go_upto_block 0 with fail
  go_cut [4] (fun u w' => ∃ l a c, u = .slice a l.length c ∧ Hid (Ok 8 l) ∧ Hid (Row1 w' w.heap.size B 8 u l l) ∧ Below w.heap.size w w')
  case first =>
    go_wp2_with fail
    go_loopw [4, 5] (fun u i wr => ∃ k l a c, u = .slice a (List.length l) c ∧ i = .int .i64 ((k : Nat) : Int) ∧ k ≤ 30 ∧ k ≤ l1 ∧ Hid (Ok 8 l) ∧ Hid (Row1 wr w.heap.size B 8 u l l) ∧ Below w.heap.size w wr) (fun _ i _ => 30 - (intOf i).toNat)
    case atStart => exact ⟨0, [], _, _, rfl, rfl, by omega, by omega, OK0, HX, HB2.out⟩
    case round =>
      clear HX HB2
      obtain ⟨k, l, a, c, rfl, rfl, hk30, hkl, HO, HT, hb⟩ := hrel
      by_cases h1 : k < l1
      · have h1' : (k : Int) < (l1 : Int) := by omega
        by_cases h2 : k < 30
        · have h2' : (k : Int) < 30 := by omega
          have h0' : (0 : Int) ≤ (k : Int) := by omega
          obtain ⟨b2, off2, x, y, rfl, hlt2, p0, p1⟩ := HA1.out k h1
          replace p0 := ((bcell hb).1 _ _ hlt2).trans p0
          replace p1 := ((bcell hb).1 _ _ hlt2).trans p1
          have HC : Hid (∀ W', Turn B wr W' → W'.cell? ⟨b2, off2 + k * 2, none⟩ = some (.int .i64 x) ∧ W'.cell? ⟨b2, off2 + k * 2 + 1, none⟩ = some (.int .i64 y)) := fun W' t => by
            have q := t.block b2 (Nat.lt_of_lt_of_le hlt2 hb.size) (by omega)
            exact ⟨(World.cell?_of_block (a := ⟨b2, _, none⟩) q).trans p0, (World.cell?_of_block (a := ⟨b2, _, none⟩) q).trans p1⟩
          have hl8 : l.length ≤ 8 := HO.out.len
          cases hput : putB 8 l ⟨x, y⟩
          · have HP := hide (PN.out B wr w.heap.size _ l x y HO.out hput HT.out)
            clear hput
            go_wp2_with (go_at_call 9; refine HP.out.mono ?_; rintro e w4 ⟨rfl, ht, hT⟩)
            have HT' := hide hT
            replace hb := turn_next hb ht hBl
            clear hT ht HP HT
            go_roundw
            case rel => exact ⟨k + 1, l, a, c, rfl, by go_num, by omega, by omega, HO, HT', hb⟩
            case measure => simp [intOf]; omega
          · have HP := hide (PY.out B wr w.heap.size _ l x y HO.out hput HT.out)
            have HO' : Hid (Ok 8 (l ++ [⟨x, y⟩])) := by have := HO.out.put ⟨x, y⟩; rw [putL_yes hput] at this; exact this
            clear hput
            go_wp2_with (first | (go_at_call 9; refine HP.out.mono ?_; rintro e w4 ⟨rfl, ht, hT⟩; have HT' := hide hT; have hb4 := turn_next hb ht hBl; obtain ⟨q0, q1⟩ := HC.out _ ht; clear hT ht) | (at_builtin; refine wpList_append_own _ rfl _ _ 22 rfl w.heap.size 31 i0 _ 2 16 Try.underlying22 hi hz0 hz1 hz2 rfl (by decide) (.slice a l.length c) l.length (cW l) rfl (HT'.out.r.alloc _) ⟨w4.heap.size, 0, none⟩ 1 1 [.int .i64 x, .int .i64 y] rfl rfl (new2 (by simp) (by simp)) (by intro u hu; simp at hu; rcases hu with rfl | rfl <;> rfl) (by unfold maxLen; omega) (by omega) (by have := hb4.size; simp; omega) ?_))
            intro v6 w6 hown6 hgrow6 _
            obtain ⟨a6, c6, rfl⟩ := owns_slice hown6
            have HT6 : Hid (Row1 w6 w.heap.size B 8 (.slice a6 (l.length + 1) c6) (l ++ [⟨x, y⟩]) (l ++ [⟨x, y⟩])) := HT'.out.app hown6 hgrow6
            have hb6 : Below w.heap.size w w6 := (hb4.alloc hb4.size _).grown hgrow6 (by have := hb4.size; simp; omega) (fun q hq => (HT'.out.r.lt q hq).1)
            have hll : (l ++ [(⟨x, y⟩ : Wk)]).length = l.length + 1 := by simp
            obtain ⟨L, hL⟩ : ∃ L, L = l ++ [(⟨x, y⟩ : Wk)] := ⟨_, rfl⟩
            rw [← hL] at HT6 HO' hll
            rw [← hll] at HT6 ⊢
            clear hown6 hgrow6 hL hll HT' HT HO HP HC q0 q1 p0 p1 hb hb4
            go_wp2_with fail
            go_roundw
            case rel => exact ⟨k + 1, L, a6, c6, rfl, by go_num, by omega, by omega, HO', HT6, hb6⟩
            case measure => simp [intOf]; omega
        · have h2' : ¬ (k : Int) < 30 := by omega
          go_wp2_with fail
          go_meet
          exact ⟨l, a, c, rfl, HO, HT, hb⟩
      · have h1' : ¬ (k : Int) < (l1 : Int) := by omega
        go_wp2_with fail
        go_meet
        exact ⟨l, a, c, rfl, HO, HT, hb⟩
  case rest =>
    clear HX HB2
    obtain ⟨l, a, c, rfl, HO, HT, hb⟩ := hcut
    go_wp2_with fail
    refine (DB.out B _ _ _ l HO.out HT.out).mono ?_
    rintro e w5 ⟨rfl, hr, hT, ht⟩
    replace hb := turn_next hb ht hBl
    have hl8 : l.length ≤ 8 := HO.out.len
    have HTL : Hid (RowA w5 (some ⟨wc.heap.size, 0, none⟩) (told 8 l)) := by
      have e := told_len hl8
      have h2 : w5.ownsRow wc.heap.size 31 2 (.slice (some ⟨wc.heap.size, 0, none⟩) (told 8 l).length 8) (told 8 l).length (cW (told 8 l)) := by rw [e]; exact hr
      exact owns_rowA h2
    have HQ1 : Hid (∀ W', Below w5.heap.size w5 W' → ∀ i, i < 8 → W'.cell? ⟨wc.heap.size, i * 2, none⟩ = some (.int .i64 (wk l i).t) ∧ W'.cell? ⟨wc.heap.size, i * 2 + 1, none⟩ = some (.int .i64 (wk l i).e)) := fun W' k i hi => by
      have e := told_len hl8
      obtain ⟨g, h1, _, h3⟩ := (HTL.out.below k) (fun e2 => by rw [e2] at e; simp at e)
      cases h1
      have := h3 i (by rw [e]; exact hi)
      rw [told_wk] at this
      exact this
    have HQ2 : Hid (∀ W', Below w5.heap.size w5 W' → RowA W' a l) := fun W' k => (owns_rowA hT.r).below k
    have HOne : Hid (∀ i k, i < l.length → k < i → (wk l k).t ≠ (wk l i).t) := HO.out.one
    have HBB := hide hT.b
    generalize wc.heap.size = g1 at *
    clear hr hT ht HTL HO HT DB PY PN
    obtain ⟨m, hm⟩ : ∃ m, l.length = m := ⟨_, rfl⟩
    have HM := hide hm
    rw [hm] at hl8 HOne ⊢
    clear hm
    have hm8 : ¬ (8 : Int) < (m : Int) := by omega
    go_wp2_with fail
    go_loopw [7] (fun i wr => ∃ k, i = .int .i64 ((k : Nat) : Int) ∧ k ≤ 8 ∧ Below w5.heap.size w5 wr) (fun i _ => 8 - (intOf i).toNat)
    case atStart => exact ⟨0, rfl, by omega, Below.refl _ _⟩
    case round =>
      obtain ⟨k, rfl, hk8, hbr⟩ := hrel
      obtain ⟨wz, hwz⟩ : ∃ W, W = wr := ⟨_, rfl⟩
      subst hwz
      by_cases h2 : k < 8
      · have h2' : (k : Int) < 8 := by omega
        have h0' : (0 : Int) ≤ (k : Int) := by omega
        have hzz := hbr.size
        have HBX : Hid (∀ o x y, Below w5.heap.size w5 (((wz.alloc o).setCell ⟨wz.heap.size, 0, none⟩ x).setCell ⟨wz.heap.size, 1, none⟩ y)) := fun o x y => (((hbr.alloc hzz _).setCell hzz _).setCell hzz _)
        by_cases h1 : k < m
        · have h1' : (k : Int) < (m : Int) := by omega
          have hne : l ≠ [] := fun e => by have := HM.out; rw [e] at this; simp at this; omega
          obtain ⟨g0, ha, hg0, hcs⟩ := (HQ2.out _ (hbr.alloc hzz (.cells #[.int .i64 0, .int .i64 0] 31))) hne
          subst ha
          obtain ⟨p0, p1⟩ := hcs k (by rw [HM.out]; exact h1)
          clear hcs
          have HXY : Hid (wk l k = ⟨(wk l k).t, (wk l k).e⟩) := rfl
          generalize (wk l k).t = X at p0 HXY
          generalize (wk l k).e = Y at p1 HXY
          go_wp2_with fail
          have hbW := hbr.alloc hzz (.cells #[.int .i64 X, .int .i64 Y] 31)
          obtain ⟨q0, q1⟩ := HQ1.out _ hbW k h2
          rw [HXY.out] at q0 q1
          have z0 : (wz.alloc (.cells #[.int .i64 X, .int .i64 Y] 31)).cell? ⟨wz.heap.size, 0, none⟩ = some (.int .i64 X) := Lib.cell_of_heap (heap_alloc_new _ _) 0
          have z1 : (wz.alloc (.cells #[.int .i64 X, .int .i64 Y] 31)).cell? ⟨wz.heap.size, 1, none⟩ = some (.int .i64 Y) := Lib.cell_of_heap (heap_alloc_new _ _) 1
          have t2 : (X == X) = true := by simp
          have t3 : (Y == Y) = true := by simp
          go_quiet (fail)
          go_wp2_with fail
          generalize hwq : World.drewN (wz.alloc (.cells #[.int .i64 X, .int .i64 Y] 31)) _ = wq
          have hbq : Below w5.heap.size w5 wq := by rw [← hwq]; exact hbW.trans (below_drewN _ _)
          clear hwq z0 z1 q0 q1 hbW p0 p1 hbr HBX hzz
          go_loopw [9] (fun j wr => ∃ i, j = .int .i64 ((i : Nat) : Int) ∧ i ≤ k ∧ Below w5.heap.size w5 wr) (fun j _ => 8 - (intOf j).toNat)
          case atStart => exact ⟨0, rfl, by omega, hbq⟩
          case round =>
            obtain ⟨j, rfl, hjk, hbr⟩ := hrel
            by_cases h3 : j < k
            · have h3' : (j : Int) < (k : Int) := by omega
              have h4' : (0 : Int) ≤ (j : Int) := by omega
              have h5' : (j : Int) < (m : Int) := by omega
              obtain ⟨g0', ha, _, hcs⟩ := (HQ2.out _ hbr) hne
              cases ha
              obtain ⟨p0, p1⟩ := hcs k (by rw [HM.out]; exact h1)
              obtain ⟨p2, p3⟩ := hcs j (by rw [HM.out]; omega)
              have hdif := HOne.out k j h1 h3
              rw [HXY.out] at p0 p1 hdif
              simp only at p0 p1 hdif
              generalize (wk l j).t = X2 at p2 hdif
              generalize (wk l j).e = Y2 at p3
              have t4 : (X2 == X) = false := by simpa using hdif
              clear hcs hdif
              go_wp2_with fail
              go_quiet (fail)
              go_wp2_with fail
              go_roundw
              case rel => exact ⟨j + 1, by go_num, by omega, hbr.trans (below_drewN _ _)⟩
              case measure => simp [intOf]; omega
            · have h3' : ¬ (j : Int) < (k : Int) := by omega
              go_wp2_with fail
              go_roundw
              case rel => exact ⟨k + 1, by go_num, by omega, hbr⟩
              case measure => simp [intOf]; omega
        · have h1' : ¬ (k : Int) < (m : Int) := by omega
          have e0 : (wk l k).t = 0 ∧ (wk l k).e = 0 := by rw [wk_ge (by rw [HM.out]; omega)]; exact ⟨rfl, rfl⟩
          go_wp2_with fail
          have hbW := hbr.alloc hzz (.cells #[.int .i64 0, .int .i64 0] 31)
          obtain ⟨q0, q1⟩ := HQ1.out _ hbW k h2
          rw [e0.1] at q0
          rw [e0.2] at q1
          have z0 : (wz.alloc (.cells #[.int .i64 0, .int .i64 0] 31)).cell? ⟨wz.heap.size, 0, none⟩ = some (.int .i64 0) := Lib.cell_of_heap (heap_alloc_new _ _) 0
          have z1 : (wz.alloc (.cells #[.int .i64 0, .int .i64 0] 31)).cell? ⟨wz.heap.size, 1, none⟩ = some (.int .i64 0) := Lib.cell_of_heap (heap_alloc_new _ _) 1
          go_quiet (fail)
          go_wp2_with fail
          generalize hwq : World.drewN (wz.alloc (.cells #[.int .i64 0, .int .i64 0] 31)) _ = wq
          have hbq : Below w5.heap.size w5 wq := by rw [← hwq]; exact hbW.trans (below_drewN _ _)
          clear hwq z0 z1 q0 q1 hbW hbr HBX hzz e0
          go_loopw [9] (fun j wr => j = .int .i64 0 ∧ Below w5.heap.size w5 wr) (fun j _ => 8 - (intOf j).toNat)
          case atStart => exact ⟨rfl, hbq⟩
          case round =>
            obtain ⟨rfl, hbr⟩ := hrel
            by_cases h3 : 0 < k
            · have h3' : (0 : Int) < (k : Int) := by omega
              go_wp2_with fail
              go_roundw
              case rel => exact ⟨k + 1, by go_num, by omega, hbr⟩
              case measure => simp [intOf]; omega
            · have h3' : ¬ (0 : Int) < (k : Int) := by omega
              go_wp2_with fail
              go_roundw
              case rel => exact ⟨k + 1, by go_num, by omega, hbr⟩
              case measure => simp [intOf]; omega
      · have h2' : ¬ (k : Int) < 8 := by omega
        have HB2 : Hid (AtB wz B 8 []) := HBB.out.below hbr
        replace hb := below_next hb hbr
        clear HBB hbr
        go_wp2_with fail
        refine (awake_any _).mono ?_
        rintro e w6 ⟨rfl, hb6⟩
        have HL := hide (len_any B 8 [] w6 (HB2.out.below hb6))
        replace hb := below_next hb hb6
        clear hb6 HB2
        go_wp2_with fail
        refine HL.out.mono ?_
        rintro e w7 ⟨rfl, hw7⟩
        subst hw7
        go_wp2
        go_ret
        exact ⟨rfl, hb⟩

end Go.Proofs.Ytiookbmffdmdeaa
