/-
  What the document's 'one' comes to at a slot's line.
-/
import Derived.Test.YtmhjoomkeidcaaaDoorOLowAll
import Derived.Deep.RegionHeld3
import Derived.Deep.DeepCutAuto
import Derived.Deep.CutBlock
namespace Go.Proofs.YtmhjoomkeidcaaaDoor
open Go.RowKit L2

theorem slot_says (p : Pol) (nm a : ByteArray) : (placeOf p.ds nm < 0 → slotLine p nm a = (4, p)) ∧ (¬ placeOf p.ds nm < 0 → numOf a = none → slotLine p nm a = (2, p)) ∧ (¬ placeOf p.ds nm < 0 → ∀ y, numOf a = some y → slotLine p nm a = (0, { p with ss := p.ss ++ [⟨placeOf p.ds nm, (y : Int)⟩] })) := by
  refine ⟨fun h => if_pos h, fun h h2 => ?_, fun h y h2 => ?_⟩
  · unfold slotLine; rw [if_neg h]; simp [numsOf, h2]
  · unfold slotLine; rw [if_neg h]; simp [numsOf, h2]

set_option linter.unusedSimpArgs false in
set_option maxHeartbeats 4000000 in
set_option maxRecDepth 100000 in
theorem one_slot (a1 a2 a3 : Option Addr) (c1 c2 c3 rb cap : Nat) (p : Pol) (x nm a : ByteArray) (w : World) (hh : Held w a1 a2 a3 c1 c2 c3 p) (hp : p.size ≤ 5000) (hrb : rb < w.heap.size) (h0 : w.cell? ⟨rb, 0, none⟩ = some (.string x)) (h1 : w.cell? ⟨rb, 1, none⟩ = some (.string nm)) (h2 : w.cell? ⟨rb, 2, none⟩ = some (.string a))
    (k1 : (x.toList == [100, 111, 109, 97, 105, 110]) = false) (k2 : (x.toList == [115, 108, 111, 116]) = true) :
    Calls Tryd.prog 36 #[.agg #[.slice a1 p.ds.length c1, .slice a2 p.ss.length c2, .slice a3 p.ls.length c3], .slice (some ⟨rb, 0, none⟩) 3 cap] w (OSaid w (slotLine p nm a)) := by
  obtain ⟨i3, hi, hz0, hz1, hz2⟩ := info_parts info3
  have HH := hid hh
  have hz : rb ≠ w.heap.size := by omega
  have hz' : rb ≠ w.heap.size + 1 := by omega
  have hsz : p.ds.length ≤ 5000 ∧ p.ss.length ≤ 5000 := by have : p.size = p.ds.length + p.ss.length + p.ls.length := rfl; omega
  obtain ⟨hl, hl2⟩ := hsz
  have HF : Hid (∀ W, Below w.heap.size w W → Calls Tryd.prog 28 #[.slice a1 p.ds.length c1, .string nm] W fun e w' => e = .returned (.int .i64 (placeOf p.ds nm)) ∧ w' = W) := fun W hW =>
    find_any a1 p.ds.length c1 p.ds nm W rfl hl (HH.out.below hW).d
  have HSAY := hid (slot_says p nm a)
  generalize slotLine p nm a = RR at *
  generalize placeOf p.ds nm = pl at *
  have HN : Hid (∀ W, Calls Tryd.prog 63 #[.string a] W fun e w' => e = .returned (.int .i64 (numI (numOf a))) ∧ w' = W) := fun W => refNumber_any a W
  have HW : Hid (∀ W, Below w.heap.size w W → W.cell? ⟨rb, 1, none⟩ = some (.string nm) ∧ W.cell? ⟨rb, 2, none⟩ = some (.string a)) := fun W hW => ⟨(hW.cell (p := ⟨rb, 1, none⟩) hrb).trans h1, (hW.cell (p := ⟨rb, 2, none⟩) hrb).trans h2⟩
  have HF0 : Hid (∀ x y z, FR w (((w.alloc (.cells #[.slice a1 p.ds.length c1, .slice a2 p.ss.length c2, .slice a3 p.ls.length c3] 26)).alloc (.cells #[x, y, z] 26)).alloc (.cells #[.int .i64 0, .int .i64 0] 3)) a1 a2 a3 c1 c2 c3 p 0 0) := fun _ _ _ =>
    ⟨(new_three w _ _ _).1, ⟨_, _, _, (new_three w _ _ _).2.1⟩, (new_three w _ _ _).2.2, (((Below.refl _ _).alloc (Nat.le_refl _) _).alloc (by simp) _).alloc (by simp; omega) _⟩
  clear hh hp h1 h2
  go_enter Tryd.func36, Tryd.ntmps36
  go_upto_block 1 with fail
  go_cut [] (fun w' => ¬ pl < 0 ∧ Hid (FR w w' a1 a2 a3 c1 c2 c3 p pl 0))
  case first =>
    go_wp2_with fail
    go_loopw [9] (fun i wr => ∃ k : Nat, i = .int .i64 (k : Int) ∧ k ≤ 1 ∧ (k = 1 → ¬ pl < 0) ∧ Hid (FR w wr a1 a2 a3 c1 c2 c3 p (if k = 1 then pl else 0) 0)) (fun i _ => 1 - (intOf i).toNat)
    case atStart => exact ⟨0, rfl, by omega, by omega, HF0.out _ _ _⟩
    case round =>
      obtain ⟨k, rfl, hk, hpos, HFR⟩ := hrel
      by_cases hlt : k < 1
      · have hk0 : k = 0 := by omega
        subst hk0
        rw [if_neg (by omega)] at HFR
        have d0 : wr.cell? ⟨w.heap.size, 0, none⟩ = some (.slice a1 p.ds.length c1) := Lib.cell_of_heap HFR.out.pb 0
        obtain ⟨e1, _⟩ := HW.out wr HFR.out.b
        have d2 : wr.cell? ⟨w.heap.size + 2, 0, none⟩ = some (.int .i64 0) := Lib.cell_of_heap HFR.out.wh 0
        have f2 : wr.frozen? ⟨w.heap.size + 2, 0, none⟩ = false := Lib.frozen_of_heap HFR.out.wh 0
        have hw1 : IntKind.i64.wrap 1 = 1 := by rfl
        have q1 : (0 : Int) ≤ 1 := by omega
        have q2 : (1 : Int) < 3 := by omega
        have HB := hid HFR.out.b
        clear hpos hk hlt
        go_wp2_with fail
        go_region_held3 (fun w' => w'.cell? ⟨w.heap.size, 0, none⟩ = some (.slice a1 p.ds.length c1) ∧ w'.cell? ⟨rb, 1, none⟩ = some (.string nm)) (first | assumption | (constructor <;> assumption) | exact off_both (by omega) (by omega) (by assumption) | exact off_both (by omega) (by omega) ⟨d0, e1⟩)
          (first | (go_at_call 28; refine (HF.out _ (by exact HB.out.drew)).mono ?_; rintro e w1 ⟨rfl, hw1⟩; have hw1' := hw1.symm; clear hw1; subst hw1'))
        have hF1 : FR w (wr.setCell ⟨w.heap.size + 2, 0, none⟩ (.int .i64 pl)).drew a1 a2 a3 c1 c2 c3 p pl 0 := (HFR.out.who0 pl).drew
        generalize hW1 : World.drew (World.setCell wr ⟨w.heap.size + 2, 0, none⟩ (.int .i64 pl)) = W1 at *
        obtain ⟨r1, r2, r3, ⟨m0, m1, m2⟩, ⟨s0, s1, s2⟩, ⟨n0, n1⟩, _, ⟨t0, t1, t2⟩, _⟩ := hF1.all
        have HF1 := hid hF1
        have HB1 := hid hF1.b
        clear hF1 hW1 HB HFR d0 e1 d2 f2
        by_cases hp0 : pl < 0
        · go_wp2
          refine bodyPost_ret (v := .tuple #[.agg #[.slice a1 p.ds.length c1, .slice a2 p.ss.length c2, .slice a3 p.ls.length c3], .int .i64 4]) (by simp [results, Tryd.f36, go_sem, *]) rfl ?_
          refine osaid_same HH.out (HSAY.out.1 hp0) ?_
          repeat (first | exact HB1.out | refine Below.setCell ?_ (by first | omega | (simp <;> omega)) _ | refine Below.drew ?_)
        · go_wp2_with fail
          go_roundw
          case rel => exact ⟨1, by go_num, by omega, fun _ => hp0, by rw [if_pos rfl]; exact HF1⟩
          case measure => simp [intOf]
      · have hk1 : k = 1 := by omega
        subst hk1
        have hpl0 : ¬ pl < 0 := hpos rfl
        rw [if_pos rfl] at HFR
        go_wp2_with fail
        go_meet
        exact ⟨hpl0, HFR⟩
  case rest =>
    obtain ⟨hpl0, HFR⟩ := hcut
    obtain ⟨wf, hwf⟩ : ∃ wf : Nat → ByteArray, wf = fun _ => a := ⟨_, rfl⟩
    have HWF : Hid (∀ W, Below w.heap.size w W → ∀ k, 2 ≤ k → k < 3 → W.cell? ⟨rb, k, none⟩ = some (.string (wf k))) := fun W hW k h1 h2 => by
      rw [hwf, show k = 2 by omega]; exact (HW.out W hW).2
    have HERR : Hid (∀ k, 2 ≤ k → k < 3 → numOf (wf k) = none → RR = (2, p)) := fun k _ _ h => HSAY.out.2.1 hpl0 (by rw [hwf] at h; exact h)
    have HWA : Hid (wf 2 = a) := by rw [hwf]; rfl
    clear hwf
    go_upto_block 3 with fail
    have HFR2 := hid (HFR.out.below (((Below.refl wc.heap.size wc).alloc (Nat.le_refl _) (.cells #[.string ⟨#[]⟩, .int .i64 0, .int .i64 0, .int .i64 0, .int .i64 0, .int .i64 0] 37)).alloc (by simp) (.cells #[] 3)))
    have hFl0 := HFR.out.lt
    have HL0 : Hid (((wc.alloc (.cells #[.string ⟨#[]⟩, .int .i64 0, .int .i64 0, .int .i64 0, .int .i64 0, .int .i64 0] 37)).alloc (.cells #[] 3)).ownsRow (w.heap.size + 3) 3 1 (.slice (some ⟨wc.heap.size + 1, 0, none⟩) 0 0) 0 []) := by
      have h := World.ownsRow_lit (base := w.heap.size + 3) (e := 3) (size := 1) (wc.alloc (.cells #[.string ⟨#[]⟩, .int .i64 0, .int .i64 0, .int .i64 0, .int .i64 0, .int .i64 0] 37)) #[] 0 (by simp; omega) (by unfold maxLen; omega) rfl
      have e : (wc.alloc (.cells #[.string ⟨#[]⟩, .int .i64 0, .int .i64 0, .int .i64 0, .int .i64 0, .int .i64 0] 37)).heap.size = wc.heap.size + 1 := by simp
      rw [e] at h
      exact h
    go_cut [14] (fun v w' => ∃ (ys : List Nat) (aa : Option Addr) (cc : Nat), v = .slice aa ys.length cc ∧ ys.length = 1 ∧ Hid (w'.ownsRow (w.heap.size + 3) 3 1 v ys.length (cN ys)) ∧ Hid (∀ t, t < ys.length → numOf (wf (2 + t)) = some (ys.getD t 0)) ∧ Hid (FR w w' a1 a2 a3 c1 c2 c3 p pl 0))
    case first =>
      go_wp2_with fail
      go_loopw [11, 14] (fun i v wr => ∃ (k : Nat) (ys : List Nat) (aa : Option Addr) (cc : Nat), i = .int .i64 (k : Int) ∧ k = 2 + ys.length ∧ k ≤ 3 ∧ v = .slice aa ys.length cc ∧ Hid (wr.ownsRow (w.heap.size + 3) 3 1 v ys.length (cN ys)) ∧ Hid (∀ t, t < ys.length → numOf (wf (2 + t)) = some (ys.getD t 0)) ∧ Hid (FR w wr a1 a2 a3 c1 c2 c3 p pl 0)) (fun i _ _ => 3 - (intOf i).toNat)
      case atStart => exact ⟨2, [], _, _, rfl, rfl, by omega, rfl, HL0.out, fun t ht => absurd ht (by simp), HFR2⟩
      case round =>
        obtain ⟨k, ys, aa, cc, rfl, hk, hkm, rfl, HOWN, HNUM, HFR3⟩ := hrel
        have hFl := HFR3.out.lt
        by_cases hlt : k < 3
        · have hlt' : (k : Int) < 3 := by omega
          have h0' : (0 : Int) ≤ (k : Int) := by omega
          have e3 : wr.cell? ⟨rb, k, none⟩ = some (.string (wf k)) := HWF.out wr HFR3.out.b k (by omega) hlt
          have HN := hid (fun W => refNumber_any (wf k) W)
          cases hnum : numOf (wf k) with
          | none =>
            rw [hnum] at HN
            have HERR2 := hid (HERR.out k (by omega) hlt hnum)
            obtain ⟨r1, r2, r3, ⟨m0, m1, m2⟩, ⟨s0, s1, s2⟩, _, _, ⟨t0, t1, t2⟩, _⟩ := HFR3.out.all
            have HB1 := hid HFR3.out.b
            clear HOWN HNUM HFR3 hnum hk
            go_wp2_with (go_at_call 63; refine (HN.out _).mono ?_; rintro e w1 ⟨rfl, hw1⟩; have hw1' := hw1.symm; clear hw1; subst hw1'; simp only [numI])
            refine bodyPost_ret (v := .tuple #[.agg #[.slice a1 p.ds.length c1, .slice a2 p.ss.length c2, .slice a3 p.ls.length c3], .int .i64 2]) (by simp [results, Tryd.f36, go_sem, *]) rfl ?_
            refine osaid_same HH.out HERR2.out ?_
            repeat (first | exact HB1.out | refine Below.setCell ?_ (by first | omega | (simp <;> omega)) _ | refine Below.drew ?_)
          | some y =>
            rw [hnum] at HN
            have HNUM2 : Hid (∀ t, t < (ys ++ [y]).length → numOf (wf (2 + t)) = some ((ys ++ [y]).getD t 0)) := fun t ht => by
              by_cases e : t = ys.length
              · subst e
                rw [← hk, hnum]
                simp [List.getD]
              · have : t < ys.length := by simp at ht; omega
                rw [HNUM.out t this]
                simp [List.getD, List.getElem?_append_left this]
            have hnp : ¬ ((y : Int) < 0) := by omega
            have HK := hid hk
            have hyl : ys.length ≤ 10 := by omega
            clear hnum HNUM hk
            go_wp2_with (first | (go_at_call 63; refine (HN.out _).mono ?_; rintro e w1 ⟨rfl, hw1⟩; have hw1' := hw1.symm; clear hw1; subst hw1'; simp only [numI]) | (at_builtin; refine wpList_append_own _ rfl _ _ 101 rfl (w.heap.size + 3) 3 i3 (.int .i64 0) 1 8 Tryd.underlying101 hi hz0 hz1 hz2 rfl (by decide) (.slice aa ys.length cc) ys.length (cN ys) rfl (HOWN.out.alloc _) ⟨wr.heap.size, 0, none⟩ 1 1 [.int .i64 (y : Int)] rfl rfl (new1 wr _) (by intro u hu; simp at hu; subst hu; rfl) (by unfold maxLen; omega) (by omega) (by simp; omega) ?_))
            intro v6 w6 hown6 hgrow6 _
            obtain ⟨a6, c6, rfl, _⟩ := slice_own hown6
            have HFR6 : Hid (FR w w6 a1 a2 a3 c1 c2 c3 p pl 0) := HFR3.out.grown HOWN.out (Nat.le_refl _) hgrow6
            have hll : (ys ++ [y]).length = ys.length + 1 := by simp
            have HOWN6 : Hid (w6.ownsRow (w.heap.size + 3) 3 1 (.slice a6 (ys ++ [y]).length c6) (ys ++ [y]).length (cN (ys ++ [y]))) := by rw [hll, cN_snoc]; exact hown6
            obtain ⟨zs, hzs⟩ : ∃ zs, zs = ys ++ [y] := ⟨_, rfl⟩
            rw [← hzs] at HOWN6 HNUM2 hll
            rw [← hll]
            clear hown6 hgrow6 HOWN HFR3 HN hzs
            go_wp2_with fail
            go_roundw
            case rel =>
              have hk := HK.out
              exact ⟨k + 1, zs, a6, c6, by go_num, by omega, by omega, rfl, HOWN6, HNUM2, HFR6⟩
            case measure => simp [intOf]; omega
        · have hlt' : ¬ (k : Int) < 3 := by omega
          go_wp2_with fail
          go_meet
          exact ⟨ys, aa, cc, rfl, by omega, HOWN, HNUM, HFR3⟩
    case rest =>
      obtain ⟨ys, aa, cc, rfl, hy1, HOWN, HNUM, HFR3⟩ := hcut
      obtain ⟨y, rfl⟩ : ∃ y, ys = [y] := by
        match ys, hy1 with
        | [y], _ => exact ⟨y, rfl⟩
      have HR0 : Hid (RR = (0, { p with ss := p.ss ++ [⟨pl, (y : Int)⟩] })) := HSAY.out.2.2 hpl0 y (by have := HNUM.out 0 (by simp); rw [← HWA.out]; exact this)
      have hNL := own_lies HOWN.out
      obtain ⟨gn, rfl, hgn, hgc⟩ : ∃ gn, aa = some ⟨gn, 0, none⟩ ∧ w.heap.size + 3 ≤ gn ∧ gn < wc.heap.size := by
        rcases HOWN.out.2 with ⟨_, h⟩ | ⟨g, cap', cur, hv, hb, hh, _⟩
        · simp at h
        · cases hv; exact ⟨g, rfl, hb, (Array.getElem?_eq_some_iff.1 hh).1⟩
      have hyc : wc.cell? ⟨gn, 0, none⟩ = some (.int .i64 (y : Int)) := by
        have := HOWN.out.cellAt 0 (by simp)
        simpa [cN] using this
      obtain ⟨wr, hwr⟩ : ∃ W, W = wc := ⟨_, rfl⟩
      subst hwr
      have HAT : Hid (∀ W', Below wr.heap.size wr W' → FR w W' a1 a2 a3 c1 c2 c3 p pl 0) := fun W' k => HFR3.out.below k
      have HS : Hid (∀ W', Below wr.heap.size wr W' → Below wr.heap.size wr W' ∧ W'.cell? ⟨w.heap.size, 1, none⟩ = some (.slice a2 p.ss.length c2) ∧ W'.cell? ⟨w.heap.size + 2, 0, none⟩ = some (.int .i64 pl) ∧ W'.cell? ⟨gn, 0, none⟩ = some (.int .i64 (y : Int))) := fun W' k => by
        obtain ⟨_, _, _, ⟨_, u1, _⟩, _, ⟨u2, _⟩, _⟩ := (HAT.out W' k).all
        exact ⟨k, u1, u2, (k.cell (p := ⟨gn, 0, none⟩) hgc).trans hyc⟩
      have HLI : Hid (∀ W', Below wr.heap.size wr W' → Lies W' a2 (cellsS p.ss)) := fun W' k => (HH.out.below (below_next HFR3.out.b k)).s
      have HLS : Hid ((cellsS p.ss).length = p.ss.length * 2) := flat_length cS 2 (fun _ => rfl) p.ss
      have hFl := HFR3.out.lt
      have hbs : w.heap.size + 3 ≤ wr.heap.size := by omega
      have E1 := hid (new_lit wr (e := 39) (size := 2) hbs).drew
      have E2 := hid (((new_lit wr (e := 39) (size := 2) hbs).alloc (.cells #[.int .i64 pl, .int .i64 (y : Int)] 39)).drew)
      have E3 := hid (new_lit3 wr (.cells #[.int .i64 pl, .int .i64 (y : Int)] 39) (e := 39) (size := 2) hbs)
      have G2 := hid (lit_at2 wr (.cells #[] 39) (.cells #[.int .i64 pl, .int .i64 (y : Int)] 39))
      have G3 := hid (lit_at3 wr (.cells #[.int .i64 pl, .int .i64 (y : Int)] 39) (.cells #[] 39))
      obtain ⟨i0, hi', hz0', hz1', hz2'⟩ := info_parts info39
      obtain ⟨_, _, _, ⟨m0, m1, m2⟩, _, ⟨n0, n1⟩, _⟩ := HFR3.out.all
      clear HNUM HOWN hNL HERR HN HL0 HFR2 HFR HWF HWA HF hi hz0 hz1 hz2
      go_wp2_with fail
      go_cut [] (fun w' => ∃ (w6 : World) (ad6 : Option Addr) (cap6 : Nat), Hid (w6.ownsRow (w.heap.size + 3) 39 2 (.slice ad6 (p.ss.length + 1) cap6) (p.ss.length + 1) (cellsS p.ss ++ [.int .i64 pl, .int .i64 (y : Int)])) ∧ Hid (Below wr.heap.size wr w6) ∧ w' = w6.setCell ⟨w.heap.size, 1, none⟩ (.slice ad6 (p.ss.length + 1) cap6))
      case first =>
        refine wp_region_noPanic ?_
        refine wp_region_last_drew (L := 14) (S := fun w' => Below wr.heap.size wr w' ∧ w'.cell? ⟨w.heap.size, 1, none⟩ = some (.slice a2 p.ss.length c2) ∧ w'.cell? ⟨w.heap.size + 2, 0, none⟩ = some (.int .i64 pl) ∧ w'.cell? ⟨gn, 0, none⟩ = some (.int .i64 (y : Int))) (by kernel_rfl) ?_ (fun hHeld => ?_)
        · exact HS.out _ (Below.refl _ _).drew
        refine wpAnyL_take (i := 1) (v := ?_) rfl (by kernel_rfl) (by kernel_rfl) (by kernel_rfl) (by kernel_rfl) (fun _ _ _ h => h) (Or.inl ⟨by rfl, ?_⟩) (by first | trivial | assumption) ?_
        rotate_left 1
        · (intro w hSw; (try dsimp only at hSw); go_simp; all_goals with_reducible rfl)
        try simp only [Act.put, List.setIfInBounds_toArray, List.set_cons_zero, List.set_cons_succ]
        refine wpAnyL_take (i := 2) (v := ?_) rfl (by kernel_rfl) (by kernel_rfl) (by kernel_rfl) (by kernel_rfl) (fun _ _ _ h => h) (Or.inl ⟨by rfl, ?_⟩) (by first | trivial | assumption) ?_
        rotate_left 1
        · (intro w hSw; (try dsimp only at hSw); go_simp; all_goals with_reducible rfl)
        try simp only [Act.put, List.setIfInBounds_toArray, List.set_cons_zero, List.set_cons_succ]
        refine wpAnyL_take (i := 4) (v := ?_) rfl (by kernel_rfl) (by kernel_rfl) (by kernel_rfl) (by kernel_rfl) (fun _ _ _ h => h) (Or.inl ⟨by rfl, ?_⟩) (by first | trivial | assumption) ?_
        rotate_left 1
        · (intro w hSw; (try dsimp only at hSw); go_simp; all_goals with_reducible rfl)
        try simp only [Act.put, List.setIfInBounds_toArray, List.set_cons_zero, List.set_cons_succ]
        refine wpAnyL_take (i := 5) (v := ?_) rfl (by kernel_rfl) (by kernel_rfl) (by kernel_rfl) (by kernel_rfl) (fun _ _ _ h => h) (Or.inl ⟨by rfl, ?_⟩) (by first | trivial | assumption) ?_
        rotate_left 1
        · (intro w hSw; (try dsimp only at hSw); go_simp; all_goals with_reducible rfl)
        try simp only [Act.put, List.setIfInBounds_toArray, List.set_cons_zero, List.set_cons_succ]
        refine wpAnyL_take (i := 6) (v := ?_) rfl (by kernel_rfl) (by kernel_rfl) (by kernel_rfl) (by kernel_rfl) (fun _ _ _ h => h) (Or.inl ⟨by rfl, ?_⟩) (by first | trivial | assumption) ?_
        rotate_left 1
        · (intro w hSw; (try dsimp only at hSw); go_simp; all_goals with_reducible rfl)
        try simp only [Act.put, List.setIfInBounds_toArray, List.set_cons_zero, List.set_cons_succ]
        refine wpAnyL_take (i := 7) (v := ?_) rfl (by kernel_rfl) (by kernel_rfl) (by kernel_rfl) (by kernel_rfl) (fun _ _ _ h => h) (Or.inl ⟨by rfl, ?_⟩) (by first | trivial | assumption) ?_
        rotate_left 1
        · (intro w hSw; (try dsimp only at hSw); go_simp; all_goals with_reducible rfl)
        try simp only [Act.put, List.setIfInBounds_toArray, List.set_cons_zero, List.set_cons_succ]
        refine wpAnyL_take (i := 8) (v := ?_) rfl (by kernel_rfl) (by kernel_rfl) (by kernel_rfl) (by kernel_rfl) (fun _ _ _ h => h) (Or.inl ⟨by rfl, ?_⟩) (by first | trivial | assumption) ?_
        rotate_left 1
        · (intro w hSw; (try dsimp only at hSw); go_simp; all_goals with_reducible rfl)
        try simp only [Act.put, List.setIfInBounds_toArray, List.set_cons_zero, List.set_cons_succ]
        refine wpAnyL_take (i := 9) (v := ?_) rfl (by kernel_rfl) (by kernel_rfl) (by kernel_rfl) (by kernel_rfl) (fun _ _ _ h => h) (Or.inl ⟨by rfl, ?_⟩) (by first | trivial | assumption) ?_
        rotate_left 1
        · (intro w hSw; (try dsimp only at hSw); go_simp; all_goals with_reducible rfl)
        try simp only [Act.put, List.setIfInBounds_toArray, List.set_cons_zero, List.set_cons_succ]
        refine wpAnyL_take (i := 10) (v := ?_) rfl (by kernel_rfl) (by kernel_rfl) (by kernel_rfl) (by kernel_rfl) (fun _ _ _ h => h) (Or.inl ⟨by rfl, ?_⟩) (by first | trivial | assumption) ?_
        rotate_left 1
        · (intro w hSw; (try dsimp only at hSw); go_simp; all_goals with_reducible rfl)
        try simp only [Act.put, List.setIfInBounds_toArray, List.set_cons_zero, List.set_cons_succ]
        refine wpAnyL_ready (rs := [0, 11]) (by kernel_rfl) (by simp) ?_
        refine AllReadyL.cons rfl (fun K hK => ?_) ?_
        · go_simp
          refine hK.out _ _ ?_ (fun hHeld => ?_)
          · (first | assumption | (refine HS.out _ ?_; repeat (first | assumption | exact Below.refl _ _ | refine Below.alloc ?_ (by first | omega | (simp <;> omega)) _ | refine Below.drew ?_)))
          clear hK K
          try simp only [Act.put, List.setIfInBounds_toArray, List.set_cons_zero, List.set_cons_succ]
          refine wpAnyL_ready (rs := [3, 11]) (by kernel_rfl) (by simp) ?_
          refine AllReadyL.cons rfl (fun K hK => ?_) ?_
          · (refine step_copy_lie _ (by rfl) _ _ _ (by rfl) (w.heap.size + 3) 39 i0 _ 2 16 Tryd.underlying23 hi' hz0' hz1' hz2' rfl (by omega) (.slice (some ⟨_, 0, none⟩) 0 0) (by rfl) (by first | exact E1.out | exact E2.out | exact E3.out) a2 p.ss.length c2 (cellsS p.ss) (by rfl) HLS.out (HLI.out _ (left_of hHeld)) (onesS _) (by unfold maxLen; omega) (by omega) (by first | exact hbs | (simp; omega)) ?_; intro ad5 cap5 w5 hown5 hgrow5 hat5; have hB5 : Below wr.heap.size wr w5 := Below.grown (left_of hHeld) hgrow5 (by first | omega | (simp <;> omega)) (by intro q hq; simp [Value.ownBlock] at hq; omega); have hz5 := hB5.size; have hq5 : ∀ q, (Value.slice ad5 p.ss.length cap5).ownBlock = some q → wr.heap.size ≤ q := (by intro q hq; rcases hat5 with h | h <;> (rw [hq] at h; simp [Value.ownBlock] at h; omega)))
            refine hK.out _ _ ?_ (fun hHeld => ?_)
            · (first | assumption | (refine HS.out _ ?_; repeat (first | assumption | exact Below.refl _ _ | refine Below.alloc ?_ (by first | omega | (simp <;> omega)) _ | refine Below.drew ?_)))
            clear hK K
            try simp only [Act.put, List.setIfInBounds_toArray, List.set_cons_zero, List.set_cons_succ]
            refine wpAnyL_ready (rs := [11]) (by kernel_rfl) (by simp) ?_
            refine AllReadyL.cons rfl (fun K hK => ?_) ?_
            · go_simp
              refine hK.out _ _ ?_ (fun hHeld => ?_)
              · (first | assumption | (refine HS.out _ ?_; repeat (first | assumption | exact Below.refl _ _ | refine Below.alloc ?_ (by first | omega | (simp <;> omega)) _ | refine Below.drew ?_)))
              clear hK K
              try simp only [Act.put, List.setIfInBounds_toArray, List.set_cons_zero, List.set_cons_succ]
              refine wpAnyL_ready (rs := [12]) (by kernel_rfl) (by simp) ?_
              refine AllReadyL.cons rfl (fun K hK => ?_) ?_
              · (refine step_append_lie _ (by rfl) _ _ _ (by rfl) (w.heap.size + 3) 39 i0 _ 2 16 Tryd.underlying23 hi' hz0' hz1' hz2' rfl (by omega) (.slice ad5 p.ss.length cap5) p.ss.length (cellsS p.ss) (by rfl) (by first | exact hown5 | exact hown5.alloc _) (some ⟨_, 0, none⟩) 1 1 [.int .i64 pl, .int .i64 (y : Int)] (by rfl) rfl (by first | exact lies_blk (alloc_at _ _) | exact lies_blk ((hgrow5.block _ (by first | (simp; done) | (simp; omega)) (by first | (simp [Value.ownBlock]; done) | (simp [Value.ownBlock]; omega))).trans G2.out) | exact lies_blk ((hgrow5.block _ (by first | (simp; done) | (simp; omega)) (by first | (simp [Value.ownBlock]; done) | (simp [Value.ownBlock]; omega))).trans G3.out)) (ones2 _ _) (by unfold maxLen; omega) (by omega) (by first | omega | (simp; omega)) ?_; intro ad6 cap6 w6 hown6 hgrow6 hat6; have hB6 : Below wr.heap.size wr w6 := Below.grown (left_of hHeld) hgrow6 (by first | omega | (simp; omega)) (by intro q hq; exact hq5 q hq); obtain ⟨_, _, _, ⟨x0, x1, x2⟩, _, _, ⟨y0, y1, y2⟩, _⟩ := (HAT.out _ hB6).all)
                refine hK.out _ _ ?_ (fun hHeld => ?_)
                · (first | assumption | (refine HS.out _ ?_; repeat (first | assumption | exact Below.refl _ _ | refine Below.alloc ?_ (by first | omega | (simp <;> omega)) _ | refine Below.drew ?_)))
                clear hK K
                try simp only [Act.put, List.setIfInBounds_toArray, List.set_cons_zero, List.set_cons_succ]
                refine wpAnyL_take (i := 13) (v := ?_) rfl (by kernel_rfl) (by kernel_rfl) (by kernel_rfl) (by kernel_rfl) (fun _ _ _ h => h) (Or.inl ⟨by rfl, ?_⟩) (by first | trivial | assumption) ?_
                rotate_left 1
                · (intro w hSw; (try dsimp only at hSw); go_simp; all_goals with_reducible rfl)
                try simp only [Act.put, List.setIfInBounds_toArray, List.set_cons_zero, List.set_cons_succ]
                refine wpAnyL_ready (rs := [14]) (by kernel_rfl) (by simp) ?_
                refine AllReadyL.last rfl (fun K hK => ?_)
                go_simp
                refine hK.out _ _ ?_
                clear hK K
                try simp only [Act.put, List.setIfInBounds_toArray, List.set_cons_zero, List.set_cons_succ]
                refine wpAnyL_done (by kernel_rfl) ?_ _
                (refine NoPanic.normal ?_; go_wp2_with fail; go_meet; exact ⟨w6, ad6, cap6, hid hown6, hid hB6, rfl⟩)
              exact AllReadyL.nil
            exact AllReadyL.nil
          refine AllReadyL.cons rfl (fun K hK => ?_) ?_
          · go_simp
            refine hK.out _ _ ?_ (fun hHeld => ?_)
            · (first | assumption | (refine HS.out _ ?_; repeat (first | assumption | exact Below.refl _ _ | refine Below.alloc ?_ (by first | omega | (simp <;> omega)) _ | refine Below.drew ?_)))
            clear hK K
            try simp only [Act.put, List.setIfInBounds_toArray, List.set_cons_zero, List.set_cons_succ]
            refine wpAnyL_ready (rs := [3]) (by kernel_rfl) (by simp) ?_
            refine AllReadyL.cons rfl (fun K hK => ?_) ?_
            · (refine step_copy_lie _ (by rfl) _ _ _ (by rfl) (w.heap.size + 3) 39 i0 _ 2 16 Tryd.underlying23 hi' hz0' hz1' hz2' rfl (by omega) (.slice (some ⟨_, 0, none⟩) 0 0) (by rfl) (by first | exact E1.out | exact E2.out | exact E3.out) a2 p.ss.length c2 (cellsS p.ss) (by rfl) HLS.out (HLI.out _ (left_of hHeld)) (onesS _) (by unfold maxLen; omega) (by omega) (by first | exact hbs | (simp; omega)) ?_; intro ad5 cap5 w5 hown5 hgrow5 hat5; have hB5 : Below wr.heap.size wr w5 := Below.grown (left_of hHeld) hgrow5 (by first | omega | (simp <;> omega)) (by intro q hq; simp [Value.ownBlock] at hq; omega); have hz5 := hB5.size; have hq5 : ∀ q, (Value.slice ad5 p.ss.length cap5).ownBlock = some q → wr.heap.size ≤ q := (by intro q hq; rcases hat5 with h | h <;> (rw [hq] at h; simp [Value.ownBlock] at h; omega)))
              refine hK.out _ _ ?_ (fun hHeld => ?_)
              · (first | assumption | (refine HS.out _ ?_; repeat (first | assumption | exact Below.refl _ _ | refine Below.alloc ?_ (by first | omega | (simp <;> omega)) _ | refine Below.drew ?_)))
              clear hK K
              try simp only [Act.put, List.setIfInBounds_toArray, List.set_cons_zero, List.set_cons_succ]
              refine wpAnyL_ready (rs := [12]) (by kernel_rfl) (by simp) ?_
              refine AllReadyL.cons rfl (fun K hK => ?_) ?_
              · (refine step_append_lie _ (by rfl) _ _ _ (by rfl) (w.heap.size + 3) 39 i0 _ 2 16 Tryd.underlying23 hi' hz0' hz1' hz2' rfl (by omega) (.slice ad5 p.ss.length cap5) p.ss.length (cellsS p.ss) (by rfl) (by first | exact hown5 | exact hown5.alloc _) (some ⟨_, 0, none⟩) 1 1 [.int .i64 pl, .int .i64 (y : Int)] (by rfl) rfl (by first | exact lies_blk (alloc_at _ _) | exact lies_blk ((hgrow5.block _ (by first | (simp; done) | (simp; omega)) (by first | (simp [Value.ownBlock]; done) | (simp [Value.ownBlock]; omega))).trans G2.out) | exact lies_blk ((hgrow5.block _ (by first | (simp; done) | (simp; omega)) (by first | (simp [Value.ownBlock]; done) | (simp [Value.ownBlock]; omega))).trans G3.out)) (ones2 _ _) (by unfold maxLen; omega) (by omega) (by first | omega | (simp; omega)) ?_; intro ad6 cap6 w6 hown6 hgrow6 hat6; have hB6 : Below wr.heap.size wr w6 := Below.grown (left_of hHeld) hgrow6 (by first | omega | (simp; omega)) (by intro q hq; exact hq5 q hq); obtain ⟨_, _, _, ⟨x0, x1, x2⟩, _, _, ⟨y0, y1, y2⟩, _⟩ := (HAT.out _ hB6).all)
                refine hK.out _ _ ?_ (fun hHeld => ?_)
                · (first | assumption | (refine HS.out _ ?_; repeat (first | assumption | exact Below.refl _ _ | refine Below.alloc ?_ (by first | omega | (simp <;> omega)) _ | refine Below.drew ?_)))
                clear hK K
                try simp only [Act.put, List.setIfInBounds_toArray, List.set_cons_zero, List.set_cons_succ]
                refine wpAnyL_take (i := 13) (v := ?_) rfl (by kernel_rfl) (by kernel_rfl) (by kernel_rfl) (by kernel_rfl) (fun _ _ _ h => h) (Or.inl ⟨by rfl, ?_⟩) (by first | trivial | assumption) ?_
                rotate_left 1
                · (intro w hSw; (try dsimp only at hSw); go_simp; all_goals with_reducible rfl)
                try simp only [Act.put, List.setIfInBounds_toArray, List.set_cons_zero, List.set_cons_succ]
                refine wpAnyL_ready (rs := [14]) (by kernel_rfl) (by simp) ?_
                refine AllReadyL.last rfl (fun K hK => ?_)
                go_simp
                refine hK.out _ _ ?_
                clear hK K
                try simp only [Act.put, List.setIfInBounds_toArray, List.set_cons_zero, List.set_cons_succ]
                refine wpAnyL_done (by kernel_rfl) ?_ _
                (refine NoPanic.normal ?_; go_wp2_with fail; go_meet; exact ⟨w6, ad6, cap6, hid hown6, hid hB6, rfl⟩)
              exact AllReadyL.nil
            exact AllReadyL.nil
          exact AllReadyL.nil
        refine AllReadyL.cons rfl (fun K hK => ?_) ?_
        · go_simp
          refine hK.out _ _ ?_ (fun hHeld => ?_)
          · (first | assumption | (refine HS.out _ ?_; repeat (first | assumption | exact Below.refl _ _ | refine Below.alloc ?_ (by first | omega | (simp <;> omega)) _ | refine Below.drew ?_)))
          clear hK K
          try simp only [Act.put, List.setIfInBounds_toArray, List.set_cons_zero, List.set_cons_succ]
          refine wpAnyL_ready (rs := [0]) (by kernel_rfl) (by simp) ?_
          refine AllReadyL.cons rfl (fun K hK => ?_) ?_
          · go_simp
            refine hK.out _ _ ?_ (fun hHeld => ?_)
            · (first | assumption | (refine HS.out _ ?_; repeat (first | assumption | exact Below.refl _ _ | refine Below.alloc ?_ (by first | omega | (simp <;> omega)) _ | refine Below.drew ?_)))
            clear hK K
            try simp only [Act.put, List.setIfInBounds_toArray, List.set_cons_zero, List.set_cons_succ]
            refine wpAnyL_ready (rs := [3]) (by kernel_rfl) (by simp) ?_
            refine AllReadyL.cons rfl (fun K hK => ?_) ?_
            · (refine step_copy_lie _ (by rfl) _ _ _ (by rfl) (w.heap.size + 3) 39 i0 _ 2 16 Tryd.underlying23 hi' hz0' hz1' hz2' rfl (by omega) (.slice (some ⟨_, 0, none⟩) 0 0) (by rfl) (by first | exact E1.out | exact E2.out | exact E3.out) a2 p.ss.length c2 (cellsS p.ss) (by rfl) HLS.out (HLI.out _ (left_of hHeld)) (onesS _) (by unfold maxLen; omega) (by omega) (by first | exact hbs | (simp; omega)) ?_; intro ad5 cap5 w5 hown5 hgrow5 hat5; have hB5 : Below wr.heap.size wr w5 := Below.grown (left_of hHeld) hgrow5 (by first | omega | (simp <;> omega)) (by intro q hq; simp [Value.ownBlock] at hq; omega); have hz5 := hB5.size; have hq5 : ∀ q, (Value.slice ad5 p.ss.length cap5).ownBlock = some q → wr.heap.size ≤ q := (by intro q hq; rcases hat5 with h | h <;> (rw [hq] at h; simp [Value.ownBlock] at h; omega)))
              refine hK.out _ _ ?_ (fun hHeld => ?_)
              · (first | assumption | (refine HS.out _ ?_; repeat (first | assumption | exact Below.refl _ _ | refine Below.alloc ?_ (by first | omega | (simp <;> omega)) _ | refine Below.drew ?_)))
              clear hK K
              try simp only [Act.put, List.setIfInBounds_toArray, List.set_cons_zero, List.set_cons_succ]
              refine wpAnyL_ready (rs := [12]) (by kernel_rfl) (by simp) ?_
              refine AllReadyL.cons rfl (fun K hK => ?_) ?_
              · (refine step_append_lie _ (by rfl) _ _ _ (by rfl) (w.heap.size + 3) 39 i0 _ 2 16 Tryd.underlying23 hi' hz0' hz1' hz2' rfl (by omega) (.slice ad5 p.ss.length cap5) p.ss.length (cellsS p.ss) (by rfl) (by first | exact hown5 | exact hown5.alloc _) (some ⟨_, 0, none⟩) 1 1 [.int .i64 pl, .int .i64 (y : Int)] (by rfl) rfl (by first | exact lies_blk (alloc_at _ _) | exact lies_blk ((hgrow5.block _ (by first | (simp; done) | (simp; omega)) (by first | (simp [Value.ownBlock]; done) | (simp [Value.ownBlock]; omega))).trans G2.out) | exact lies_blk ((hgrow5.block _ (by first | (simp; done) | (simp; omega)) (by first | (simp [Value.ownBlock]; done) | (simp [Value.ownBlock]; omega))).trans G3.out)) (ones2 _ _) (by unfold maxLen; omega) (by omega) (by first | omega | (simp; omega)) ?_; intro ad6 cap6 w6 hown6 hgrow6 hat6; have hB6 : Below wr.heap.size wr w6 := Below.grown (left_of hHeld) hgrow6 (by first | omega | (simp; omega)) (by intro q hq; exact hq5 q hq); obtain ⟨_, _, _, ⟨x0, x1, x2⟩, _, _, ⟨y0, y1, y2⟩, _⟩ := (HAT.out _ hB6).all)
                refine hK.out _ _ ?_ (fun hHeld => ?_)
                · (first | assumption | (refine HS.out _ ?_; repeat (first | assumption | exact Below.refl _ _ | refine Below.alloc ?_ (by first | omega | (simp <;> omega)) _ | refine Below.drew ?_)))
                clear hK K
                try simp only [Act.put, List.setIfInBounds_toArray, List.set_cons_zero, List.set_cons_succ]
                refine wpAnyL_take (i := 13) (v := ?_) rfl (by kernel_rfl) (by kernel_rfl) (by kernel_rfl) (by kernel_rfl) (fun _ _ _ h => h) (Or.inl ⟨by rfl, ?_⟩) (by first | trivial | assumption) ?_
                rotate_left 1
                · (intro w hSw; (try dsimp only at hSw); go_simp; all_goals with_reducible rfl)
                try simp only [Act.put, List.setIfInBounds_toArray, List.set_cons_zero, List.set_cons_succ]
                refine wpAnyL_ready (rs := [14]) (by kernel_rfl) (by simp) ?_
                refine AllReadyL.last rfl (fun K hK => ?_)
                go_simp
                refine hK.out _ _ ?_
                clear hK K
                try simp only [Act.put, List.setIfInBounds_toArray, List.set_cons_zero, List.set_cons_succ]
                refine wpAnyL_done (by kernel_rfl) ?_ _
                (refine NoPanic.normal ?_; go_wp2_with fail; go_meet; exact ⟨w6, ad6, cap6, hid hown6, hid hB6, rfl⟩)
              exact AllReadyL.nil
            exact AllReadyL.nil
          exact AllReadyL.nil
        exact AllReadyL.nil
      case rest =>
        obtain ⟨w6, ad6, cap6, HO6, HB6, rfl⟩ := hcut
        have hF6 := HAT.out w6 HB6.out
        obtain ⟨r1, r2, r3, ⟨x0, x1, x2⟩, ⟨s0, s1, s2⟩, _, ⟨f0, f1, f2⟩, ⟨t0, t1, t2⟩, _⟩ := hF6.all
        have HBW := hid hF6.b
        have HEND : Hid (∀ W7, (∀ b, w.heap.size + 3 ≤ b → W7.heap[b]? = w6.heap[b]?) → Below w.heap.size w W7 → OSaid w RR (.returned (.tuple #[.agg #[.slice a1 p.ds.length c1, .slice ad6 (p.ss.length + 1) cap6, .slice a3 p.ls.length c3], .int .i64 0])) W7) := fun W7 h1 h2 => by
          have hL := own_lies HO6.out
          rw [HR0.out]
          have hh7 := HH.out.below h2
          refine ⟨a1, ad6, a3, c1, cap6, c3, by simp, ⟨hh7.d, ?_, hh7.l, hh7.dc, ?_, hh7.lc⟩, h2⟩
          · have := hL.2 W7 h1
            simpa [cellsS, cS] using this
          · have := hL.1
            simpa using this
        clear m0 m1 m2 n0 n1 E1 E2 E3 G2 G3 HLI HLS HS HAT HSAY hF6
        go_wp2_with fail
        refine bodyPost_ret (v := .tuple #[.agg #[.slice a1 p.ds.length c1, .slice ad6 (p.ss.length + 1) cap6, .slice a3 p.ls.length c3], .int .i64 0]) (by simp [results, Tryd.f36, go_sem, *]) rfl ?_
        refine HEND.out _ far3 ?_
        repeat (first | exact HBW.out | refine Below.setCell ?_ (by first | omega | (simp <;> omega)) _ | refine Below.drew ?_)

end Go.Proofs.YtmhjoomkeidcaaaDoor
