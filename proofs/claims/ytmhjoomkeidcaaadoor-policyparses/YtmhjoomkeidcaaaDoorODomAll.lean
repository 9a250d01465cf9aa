/-
  What the document's 'one' comes to at a domain's line.
-/
import Derived.Test.YtmhjoomkeidcaaaDoorOLowAll
import Derived.Deep.RegionHeld3
import Derived.Deep.DeepCutAuto
import Derived.Deep.CutBlock
namespace Go.Proofs.YtmhjoomkeidcaaaDoor
open Go.RowKit L2

theorem undrew4 {W a : World} (h : Below W.drew.heap.size W.drew a) : Below W.heap.size W a := ⟨h.os, h.tape, h.output, h.size, h.block⟩
theorem refRead_all (s : ByteArray) (hs : s.size ≤ 9223372036854775807) (w : World) : Calls Tryd.prog 62 #[.string s] w fun e w' => e = .returned (.tuple #[.agg #[.int .i64 (labL (refRead s)), .int .i64 (labC (refRead s))], .int .i64 (labE (refRead s))]) ∧ Below w.heap.size w w' := by
  cases h : refOK s
  · rw [refRead_not s h]; exact refRead_bad s hs h w
  · exact refRead_good s h w
theorem dom_says (p : Pol) (nm lb a b c : ByteArray) : ((nameB nm = false ∨ 0 ≤ placeOf p.ds nm) → domLine p nm lb a b c = (4, p)) ∧ (nameB nm = true → ¬ 0 ≤ placeOf p.ds nm → refRead lb = none → domLine p nm lb a b c = (3, p)) ∧
    (nameB nm = true → ¬ 0 ≤ placeOf p.ds nm → ∀ l k, refRead lb = some (l, k) → (numOf a = none ∨ numOf b = none ∨ numOf c = none) → domLine p nm lb a b c = (2, p)) ∧
    (nameB nm = true → ¬ 0 ≤ placeOf p.ds nm → ∀ l k x y z, refRead lb = some (l, k) → numOf a = some x → numOf b = some y → numOf c = some z → domLine p nm lb a b c = (0, { p with ds := p.ds ++ [⟨nm, (l : Int), (k : Int), (x : Int), (y : Int), (z : Int)⟩] })) := by
  refine ⟨fun h => ?_, fun h h1 h2 => ?_, fun h h1 l k h2 h3 => ?_, fun h h1 l k x y z h2 h3 h4 h5 => ?_⟩
  · unfold domLine; rw [if_pos (by rcases h with h | h <;> simp [h])]
  · unfold domLine; rw [if_neg (by simp [h]; omega), h2]
  · unfold domLine; rw [if_neg (by simp [h]; omega), h2]
    have hn : numsOf [a, b, c] 3 = none := by
      rcases h3 with h3 | h3 | h3
      · simp [numsOf, h3]
      · simp only [numsOf, List.getD_cons_zero, List.getD_cons_succ, h3]; cases numOf a <;> rfl
      · simp only [numsOf, List.getD_cons_zero, List.getD_cons_succ, h3]; cases numOf a <;> cases numOf b <;> rfl
    simp only [hn]
  · unfold domLine; rw [if_neg (by simp [h]; omega), h2]
    have hn : numsOf [a, b, c] 3 = some [x, y, z] := by simp [numsOf, h3, h4, h5]
    simp only [hn]

set_option linter.unusedSimpArgs false in
set_option maxHeartbeats 8000000 in
set_option maxRecDepth 100000 in
theorem one_domain (a1 a2 a3 : Option Addr) (c1 c2 c3 rb cap : Nat) (p : Pol) (x nm lb a b c : ByteArray) (w : World) (hh : Held w a1 a2 a3 c1 c2 c3 p) (hp : p.size ≤ 5000) (hnz : nm.size ≤ 4096) (hlz : lb.size ≤ 4096) (hrb : rb < w.heap.size) (h0 : w.cell? ⟨rb, 0, none⟩ = some (.string x)) (h1 : w.cell? ⟨rb, 1, none⟩ = some (.string nm)) (h2 : w.cell? ⟨rb, 2, none⟩ = some (.string lb)) (h3 : w.cell? ⟨rb, 3, none⟩ = some (.string a)) (h4 : w.cell? ⟨rb, 4, none⟩ = some (.string b)) (h5 : w.cell? ⟨rb, 5, none⟩ = some (.string c))
    (k1 : (x.toList == [100, 111, 109, 97, 105, 110]) = true) :
    Calls Tryd.prog 36 #[.agg #[.slice a1 p.ds.length c1, .slice a2 p.ss.length c2, .slice a3 p.ls.length c3], .slice (some ⟨rb, 0, none⟩) 6 cap] w (OSaid w (domLine p nm lb a b c)) := by
  obtain ⟨i3, hi, hz0, hz1, hz2⟩ := info_parts info3
  have HH := hid hh
  have hz : rb ≠ w.heap.size := by omega
  have hz' : rb ≠ w.heap.size + 1 := by omega
  have hl : p.ds.length ≤ 5000 := by have : p.size = p.ds.length + p.ss.length + p.ls.length := rfl; omega
  have HF : Hid (∀ W, Below w.heap.size w W → Calls Tryd.prog 28 #[.slice a1 p.ds.length c1, .string nm] W fun e w' => e = .returned (.int .i64 (placeOf p.ds nm)) ∧ w' = W) := fun W hW =>
    find_any a1 p.ds.length c1 p.ds nm W rfl hl (HH.out.below hW).d
  have HNM := hid (fun W => refName_any nm (by omega) W)
  have HRD := hid (fun W => refRead_all lb (by omega) W)
  have HSAY := hid (dom_says p nm lb a b c)
  have HL7 : Hid (∀ l k, refRead lb = some (l, k) → l ≤ 7 ∧ k < 65536) := fun l k h => ⟨(refRead_text lb l k h).1, (refRead_text lb l k h).2.1⟩
  generalize domLine p nm lb a b c = RR at *
  generalize placeOf p.ds nm = pl at *
  generalize nameB nm = nb at *
  generalize refRead lb = rl at *
  have HW : Hid (∀ W, Below w.heap.size w W → W.cell? ⟨rb, 1, none⟩ = some (.string nm) ∧ W.cell? ⟨rb, 2, none⟩ = some (.string lb) ∧ W.cell? ⟨rb, 3, none⟩ = some (.string a) ∧ W.cell? ⟨rb, 4, none⟩ = some (.string b) ∧ W.cell? ⟨rb, 5, none⟩ = some (.string c)) := fun W hW =>
    ⟨(hW.cell (p := ⟨rb, 1, none⟩) hrb).trans h1, (hW.cell (p := ⟨rb, 2, none⟩) hrb).trans h2, (hW.cell (p := ⟨rb, 3, none⟩) hrb).trans h3, (hW.cell (p := ⟨rb, 4, none⟩) hrb).trans h4, (hW.cell (p := ⟨rb, 5, none⟩) hrb).trans h5⟩
  have HFS : Hid (∀ x y z, FR w (((w.alloc (.cells #[.slice a1 p.ds.length c1, .slice a2 p.ss.length c2, .slice a3 p.ls.length c3] 26)).alloc (.cells #[x, y, z] 26)).alloc (.cells #[.int .i64 0, .int .i64 0] 3)) a1 a2 a3 c1 c2 c3 p 0 0) := fun _ _ _ =>
    ⟨(new_three w _ _ _).1, ⟨_, _, _, (new_three w _ _ _).2.1⟩, (new_three w _ _ _).2.2, (((Below.refl _ _).alloc (Nat.le_refl _) _).alloc (by simp) _).alloc (by simp; omega) _⟩
  clear hh hp h1 h2 h3 h4 h5 hnz hlz
  go_enter Tryd.func36, Tryd.ntmps36
  go_upto_block 1 with fail
  go_cut [] (fun w' => Hid (FR w w' a1 a2 a3 c1 c2 c3 p 0 0))
  case first =>
    go_wp2_with fail
    go_loopw [9] (fun i wr => i = .int .i64 0 ∧ Hid (FR w wr a1 a2 a3 c1 c2 c3 p 0 0)) (fun i _ => 2 - (intOf i).toNat)
    case atStart => exact ⟨rfl, HFS.out _ _ _⟩
    case round =>
      obtain ⟨rfl, HFR⟩ := hrel
      go_wp2_with fail
      go_meet
      exact HFR
  case rest =>
    have HFR0 := hcut
    clear hcut
    go_wp2_with fail
    obtain ⟨wz, hwz⟩ : ∃ W, W = wc.alloc (.cells #[.string ⟨#[]⟩, .int .i64 0, .int .i64 0, .int .i64 0, .int .i64 0, .int .i64 0] 37) := ⟨_, rfl⟩
    obtain ⟨bd, hbd⟩ : ∃ bd, bd = wc.heap.size := ⟨_, rfl⟩
    have HFR : Hid (FR w wz a1 a2 a3 c1 c2 c3 p 0 0) := hwz ▸ HFR0.out.below ((Below.refl _ _).alloc (Nat.le_refl _) _)
    have HD : Hid (wz.heap[bd]? = some (.cells #[.string ⟨#[]⟩, .int .i64 0, .int .i64 0, .int .i64 0, .int .i64 0, .int .i64 0] 37 (0, 0))) := hbd ▸ hwz ▸ alloc_at _ _
    have hFl := HFR0.out.lt
    have hbdl : w.heap.size + 3 ≤ bd := by omega
    have hbdz : bd < wz.heap.size := by rw [hwz, hbd]; simp
    rw [← hwz, ← hbd]
    clear hwz hbd HFR0 hFl
    have d0 : wz.cell? ⟨w.heap.size, 0, none⟩ = some (.slice a1 p.ds.length c1) := Lib.cell_of_heap HFR.out.pb 0
    have e1 := (HW.out wz HFR.out.b).1
    have HC : Hid (∀ W', Below wz.heap.size wz W' → W'.cell? ⟨w.heap.size, 0, none⟩ = some (.slice a1 p.ds.length c1) ∧ W'.cell? ⟨rb, 1, none⟩ = some (.string nm)) := fun W' k => ⟨Lib.cell_of_heap (HFR.out.below k).pb 0, (HW.out W' (HFR.out.below k).b).1⟩
    cases nb
    · skip
      refine wp_region_noPanic ?_
      refine wp_region_held_drew (S := fun w' => w'.cell? ⟨w.heap.size, 0, none⟩ = some (.slice a1 p.ds.length c1) ∧ w'.cell? ⟨rb, 1, none⟩ = some (.string nm)) (by kernel_rfl) ?_ (fun hHeld => ?_)
      · exact ⟨d0, e1⟩
      refine wpAnyH_take (i := 0) (v := ?_) rfl (by kernel_rfl) (by kernel_rfl) (by kernel_rfl) (fun _ _ _ h => h) (Or.inl ⟨by rfl, ?_⟩) (by first | trivial | assumption) ?_
      rotate_left 1
      · (intro w hSw; (try dsimp only at hSw); go_simp; all_goals with_reducible rfl)
      try simp only [Act.put, List.setIfInBounds_toArray, List.set_cons_zero, List.set_cons_succ]
      refine wpAnyH_take (i := 1) (v := ?_) rfl (by kernel_rfl) (by kernel_rfl) (by kernel_rfl) (fun _ _ _ h => h) (Or.inl ⟨by rfl, ?_⟩) (by first | trivial | assumption) ?_
      rotate_left 1
      · (intro w hSw; (try dsimp only at hSw); go_simp; all_goals with_reducible rfl)
      try simp only [Act.put, List.setIfInBounds_toArray, List.set_cons_zero, List.set_cons_succ]
      refine wpAnyH_take (i := 2) (v := ?_) rfl (by kernel_rfl) (by kernel_rfl) (by kernel_rfl) (fun _ _ _ h => h) (Or.inl ⟨by rfl, ?_⟩) (by first | trivial | assumption) ?_
      rotate_left 1
      · (intro w hSw; (try dsimp only at hSw); go_simp; all_goals with_reducible rfl)
      try simp only [Act.put, List.setIfInBounds_toArray, List.set_cons_zero, List.set_cons_succ]
      refine wpAnyH_ready (rs := [3]) (by kernel_rfl) (by simp) ?_
      refine AllReadyH.cons rfl (fun K hK => ?_) ?_
      · (go_simp; go_at_call 27; refine (HNM.out _).mono ?_; rintro e w1 ⟨rfl, hb1⟩; have hB1 := undrew4 hb1; have hcl := HC.out _ hB1)
        refine hK.out _ _ ?_ (fun hHeld => ?_)
        · (first | exact hcl | assumption)
        clear hK K
        try simp only [Act.put, List.setIfInBounds_toArray, List.set_cons_zero, List.set_cons_succ]
        refine wpAnyH_take (i := 4) (v := ?_) rfl (by kernel_rfl) (by kernel_rfl) (by kernel_rfl) (fun _ _ _ h => h) (Or.inl ⟨by rfl, ?_⟩) (by first | trivial | assumption) ?_
        rotate_left 1
        · (intro w hSw; (try dsimp only at hSw); go_simp; all_goals with_reducible rfl)
        try simp only [Act.put, List.setIfInBounds_toArray, List.set_cons_zero, List.set_cons_succ]
        refine wpAnyH_take (i := 5) (v := ?_) rfl (by kernel_rfl) (by kernel_rfl) (by kernel_rfl) (fun _ _ _ h => h) (Or.inl ⟨by rfl, ?_⟩) (by first | trivial | assumption) ?_
        rotate_left 1
        · (intro w hSw; (try dsimp only at hSw); go_simp; all_goals with_reducible rfl)
        try simp only [Act.put, List.setIfInBounds_toArray, List.set_cons_zero, List.set_cons_succ]
        refine wpAnyH_take (i := 6) (v := undef) rfl (by kernel_rfl) (by kernel_rfl) (by kernel_rfl) (fun _ _ _ h => h) (Or.inr ⟨by kernel_rfl, rfl⟩) (by first | trivial | assumption) ?_
        try simp only [Act.put, List.setIfInBounds_toArray, List.set_cons_zero, List.set_cons_succ]
        refine wpAnyH_take (i := 7) (v := undef) rfl (by kernel_rfl) (by kernel_rfl) (by kernel_rfl) (fun _ _ _ h => h) (Or.inr ⟨by kernel_rfl, rfl⟩) (by first | trivial | assumption) ?_
        try simp only [Act.put, List.setIfInBounds_toArray, List.set_cons_zero, List.set_cons_succ]
        refine wpAnyH_take (i := 8) (v := undef) rfl (by kernel_rfl) (by kernel_rfl) (by kernel_rfl) (fun _ _ _ h => h) (Or.inr ⟨by kernel_rfl, rfl⟩) (by first | trivial | assumption) ?_
        try simp only [Act.put, List.setIfInBounds_toArray, List.set_cons_zero, List.set_cons_succ]
        refine wpAnyH_take (i := 9) (v := undef) rfl (by kernel_rfl) (by kernel_rfl) (by kernel_rfl) (fun _ _ _ h => h) (Or.inr ⟨by kernel_rfl, rfl⟩) (by first | trivial | assumption) ?_
        try simp only [Act.put, List.setIfInBounds_toArray, List.set_cons_zero, List.set_cons_succ]
        refine wpAnyH_take (i := 10) (v := undef) rfl (by kernel_rfl) (by kernel_rfl) (by kernel_rfl) (fun _ _ _ h => h) (Or.inr ⟨by kernel_rfl, rfl⟩) (by first | trivial | assumption) ?_
        try simp only [Act.put, List.setIfInBounds_toArray, List.set_cons_zero, List.set_cons_succ]
        refine wpAnyH_take (i := 11) (v := undef) rfl (by kernel_rfl) (by kernel_rfl) (by kernel_rfl) (fun _ _ _ h => h) (Or.inr ⟨by kernel_rfl, rfl⟩) (by first | trivial | assumption) ?_
        try simp only [Act.put, List.setIfInBounds_toArray, List.set_cons_zero, List.set_cons_succ]
        refine wpAnyH_take (i := 12) (v := undef) rfl (by kernel_rfl) (by kernel_rfl) (by kernel_rfl) (fun _ _ _ h => h) (Or.inr ⟨by kernel_rfl, rfl⟩) (by first | trivial | assumption) ?_
        try simp only [Act.put, List.setIfInBounds_toArray, List.set_cons_zero, List.set_cons_succ]
        refine wpAnyH_ready (rs := [13]) (by kernel_rfl) (by simp) ?_
        refine AllReadyH.cons rfl (fun K hK => ?_) ?_
        · go_simp
          refine hK.out _ _ ?_ (fun hHeld => ?_)
          · (first | exact hcl | assumption)
          clear hK K
          try simp only [Act.put, List.setIfInBounds_toArray, List.set_cons_zero, List.set_cons_succ]
          refine wpAnyH_done (by kernel_rfl) ?_ _
          refine NoPanic.normal ?_
          clear hHeld
          have hF1 := HFR.out.below hB1
          obtain ⟨r1, r2, r3, ⟨m0, m1, m2⟩, ⟨s0, s1, s2⟩, _, _, ⟨t0, t1, t2⟩, _⟩ := hF1.all
          have HB1 := hid hF1.b
          clear hF1 d0 e1
          go_wp2
          refine bodyPost_ret (v := .tuple #[.agg #[.slice a1 p.ds.length c1, .slice a2 p.ss.length c2, .slice a3 p.ls.length c3], .int .i64 4]) (by simp [results, Tryd.f36, go_sem, *]) rfl ?_
          refine osaid_same HH.out (HSAY.out.1 (by simp)) ?_
          repeat (first | exact HB1.out | refine Below.setCell ?_ (by first | omega | (simp <;> omega)) _ | refine Below.drew ?_)
        exact AllReadyH.nil
      exact AllReadyH.nil
    · go_region_held3 (fun w' => w'.cell? ⟨w.heap.size, 0, none⟩ = some (.slice a1 p.ds.length c1) ∧ w'.cell? ⟨rb, 1, none⟩ = some (.string nm)) (first | assumption | exact hcl | exact ⟨d0, e1⟩ | (constructor <;> assumption))
        (first | (go_at_call 27; refine (HNM.out _).mono ?_; rintro e w1 ⟨rfl, hb1⟩; have hB1 := undrew4 hb1; have hcl := HC.out _ hB1; have hBw := (HFR.out.below hB1).b) | (go_at_call 28; refine (HF.out _ hBw).mono ?_; rintro e w2 ⟨rfl, hw2⟩; have hw2' := hw2.symm; clear hw2; subst hw2'))
      have hF1 := HFR.out.below hB1
      have HFR1 := hid hF1
      have HD1 : Hid (w1.heap[bd]? = some (.cells #[.string ⟨#[]⟩, .int .i64 0, .int .i64 0, .int .i64 0, .int .i64 0, .int .i64 0] 37 (0, 0))) := (hB1.block bd hbdz).trans HD.out
      have hbd1 : bd < w1.heap.size := Nat.lt_of_lt_of_le hbdz hB1.size
      obtain ⟨r1, r2, r3, ⟨m0, m1, m2⟩, ⟨s0, s1, s2⟩, _, _, ⟨t0, t1, t2⟩, _⟩ := hF1.all
      have HB1 := hid hF1.b
      have e2 := (HW.out w1 hF1.b).2.1
      clear hF1 d0 e1 hcl hB1 hb1 hBw HC HD HFR hbdz
      by_cases hpl : 0 ≤ pl
      · go_wp2
        refine bodyPost_ret (v := .tuple #[.agg #[.slice a1 p.ds.length c1, .slice a2 p.ss.length c2, .slice a3 p.ls.length c3], .int .i64 4]) (by simp [results, Tryd.f36, go_sem, *]) rfl ?_
        refine osaid_same HH.out (HSAY.out.1 (by simp; omega)) ?_
        repeat (first | exact HB1.out | refine Below.setCell ?_ (by first | omega | (simp <;> omega)) _ | refine Below.drew ?_)
      · have hpl' : ¬ (0 : Int) ≤ pl := hpl
        cases rl with
        | none =>
          have HR3 := hid (HSAY.out.2.1 (by simp) (by omega) (by simp))
          go_wp2_with fail
          refine (HRD.out _).mono ?_
          rintro e w2 ⟨rfl, hb2⟩
          simp only [labL, labC, labE]
          have hF2 := (HFR1.out.below hb2).below ((Below.refl _ _).alloc (Nat.le_refl _) (.cells #[.int .i64 0, .int .i64 0] 35))
          obtain ⟨r1, r2, r3, ⟨m0, m1, m2⟩, ⟨s0, s1, s2⟩, _, _, ⟨t0, t1, t2⟩, _⟩ := hF2.all
          replace HB1 := hid hF2.b
          clear hF2 hb2 e2
          go_wp2
          refine bodyPost_ret (v := .tuple #[.agg #[.slice a1 p.ds.length c1, .slice a2 p.ss.length c2, .slice a3 p.ls.length c3], .int .i64 3]) (by simp [results, Tryd.f36, go_sem, *]) rfl ?_
          refine osaid_same HH.out HR3.out ?_
          repeat (first | exact HB1.out | refine Below.setCell ?_ (by first | omega | (simp <;> omega)) _ | refine Below.drew ?_)
        | some lk =>
          obtain ⟨l, k⟩ := lk
          obtain ⟨l7, k6⟩ := HL7.out l k rfl
          go_wp2_with fail
          refine (HRD.out _).mono ?_
          rintro e w2 ⟨rfl, hb2⟩
          simp only [labL, labC, labE]
          obtain ⟨w3, hw3⟩ : ∃ W, W = w2.alloc (.cells #[.int .i64 (l : Int), .int .i64 (k : Int)] 35) := ⟨_, rfl⟩
          obtain ⟨bl, hbl⟩ : ∃ b, b = w2.heap.size := ⟨_, rfl⟩
          have hb3 : Below w1.heap.size w1 w3 := by rw [hw3]; exact (hb2.alloc hb2.size _)
          have hbl1 : w1.heap.size ≤ bl := by rw [hbl]; exact hb2.size
          have HLB : Hid (w3.heap[bl]? = some (.cells #[.int .i64 (l : Int), .int .i64 (k : Int)] 35 (0, 0))) := hbl ▸ hw3 ▸ alloc_at _ _
          have hbl3 : bl < w3.heap.size := by rw [hw3, hbl]; simp
          have hF3 := HFR1.out.below hb3
          have HFR3 := hid hF3
          have HD3 : Hid (w3.heap[bd]? = some (.cells #[.string ⟨#[]⟩, .int .i64 0, .int .i64 0, .int .i64 0, .int .i64 0, .int .i64 0] 37 (0, 0))) := (hb3.block bd hbd1).trans HD1.out
          have e1 := (HW.out w3 hF3.b).1
          have l0 : w3.cell? ⟨bl, 0, none⟩ = some (.int .i64 (l : Int)) := Lib.cell_of_heap HLB.out 0
          have l1 : w3.cell? ⟨bl, 1, none⟩ = some (.int .i64 (k : Int)) := Lib.cell_of_heap HLB.out 1
          have v0 : w3.cell? ⟨bd, 0, none⟩ = some (.string ⟨#[]⟩) := Lib.cell_of_heap HD3.out 0
          have v1 : w3.cell? ⟨bd, 1, none⟩ = some (.int .i64 0) := Lib.cell_of_heap HD3.out 1
          have v2 : w3.cell? ⟨bd, 2, none⟩ = some (.int .i64 0) := Lib.cell_of_heap HD3.out 2
          have g0 : w3.frozen? ⟨bd, 0, none⟩ = false := Lib.frozen_of_heap HD3.out 0
          have g1 : w3.frozen? ⟨bd, 1, none⟩ = false := Lib.frozen_of_heap HD3.out 1
          have g2 : w3.frozen? ⟨bd, 2, none⟩ = false := Lib.frozen_of_heap HD3.out 2
          have hrbd : rb ≠ bd := by omega
          have hbdl2 : bl ≠ bd := by omega
          clear hF3 hb2 hb3 e2 m0 m1 m2 s0 s1 s2 t0 t1 t2 HD1 HFR1 HB1
          go_wp2_with fail
          rw [← hw3, ← hbl]
          clear hw3 hbl
          go_region_held3 (fun w' => w'.cell? ⟨rb, 1, none⟩ = some (.string nm) ∧ w'.cell? ⟨bl, 0, none⟩ = some (.int .i64 (l : Int)) ∧ w'.cell? ⟨bl, 1, none⟩ = some (.int .i64 (k : Int))) (first | assumption | exact ⟨e1, l0, l1⟩ | exact off3 hrbd hbdl2 ⟨e1, l0, l1⟩ | exact off3 hrbd hbdl2 (by assumption) | exact off3 hrbd hbdl2 (off3 hrbd hbdl2 (by assumption))) (fail)
          have hF4 := (((HFR3.out.far (b := bd) (i := 0) hbdl (.string nm)).far (b := bd) (i := 1) hbdl (.int .i64 (l : Int))).far (b := bd) (i := 2) hbdl (.int .i64 (k : Int))).drew
          have hD4 := dom_three (x' := .string nm) (y' := .int .i64 (l : Int)) (z' := .int .i64 (k : Int)) HD3.out
          have hz4 : bl < (World.drew (((w3.setCell ⟨bd, 0, none⟩ (.string nm)).setCell ⟨bd, 1, none⟩ (.int .i64 (l : Int))).setCell ⟨bd, 2, none⟩ (.int .i64 (k : Int)))).heap.size := by simp; omega
          obtain ⟨w4, hw4⟩ : ∃ W, W = World.drew (((w3.setCell ⟨bd, 0, none⟩ (.string nm)).setCell ⟨bd, 1, none⟩ (.int .i64 (l : Int))).setCell ⟨bd, 2, none⟩ (.int .i64 (k : Int))) := ⟨_, rfl⟩
          rw [← hw4] at hF4 hz4
          have HD4 : Hid (w4.heap[bd]? = some (.cells #[.string nm, .int .i64 (l : Int), .int .i64 (k : Int), .int .i64 0, .int .i64 0, .int .i64 0] 37 (0, 0))) := hw4 ▸ hD4
          have HFR4 := hid hF4
          generalize hw5 : World.drew (((w3.setCell ⟨bd, 0, none⟩ (.string nm)).setCell ⟨bd, 1, none⟩ (.int .i64 (l : Int))).setCell ⟨bd, 2, none⟩ (.int .i64 (k : Int))) = w5 at *
          rw [← hw4]
          clear hw4 hw5 hF4 hD4 e1 l0 l1 v0 v1 v2 g0 g1 g2 HD3 HFR3 HLB
          obtain ⟨BB, hBB⟩ : ∃ b, b = w4.heap.size := ⟨_, rfl⟩
          have hB3 : w.heap.size + 3 ≤ BB := by omega
          have hbB : bd < BB := by omega
          obtain ⟨wf, hwf⟩ : ∃ wf : Nat → ByteArray, wf = fun i => if i = 3 then a else if i = 4 then b else c := ⟨_, rfl⟩
          have HWA : Hid (wf 3 = a ∧ wf 4 = b ∧ wf 5 = c) := by rw [hwf]; exact ⟨rfl, rfl, rfl⟩
          have HWF : Hid (∀ W, Below w.heap.size w W → ∀ k, 3 ≤ k → k < 6 → W.cell? ⟨rb, k, none⟩ = some (.string (wf k))) := fun W hW k h1 h2 => by
            obtain ⟨_, _, x3, x4, x5⟩ := HW.out W hW
            rcases (show k = 3 ∨ k = 4 ∨ k = 5 by omega) with e | e | e <;> subst e
            · rw [HWA.out.1]; exact x3
            · rw [HWA.out.2.1]; exact x4
            · rw [HWA.out.2.2]; exact x5
          have HERR : Hid (∀ k, 3 ≤ k → k < 6 → numOf (wf k) = none → RR = (2, p)) := fun k' h1 h2 h3 => HSAY.out.2.2.1 (by simp) (by omega) l k rfl (by
            rcases (show k' = 3 ∨ k' = 4 ∨ k' = 5 by omega) with e | e | e <;> subst e
            · left; rw [← HWA.out.1]; exact h3
            · right; left; rw [← HWA.out.2.1]; exact h3
            · right; right; rw [← HWA.out.2.2]; exact h3)
          have HGOOD : Hid (∀ x y z, numOf (wf 3) = some x → numOf (wf 4) = some y → numOf (wf 5) = some z → RR = (0, { p with ds := p.ds ++ [⟨nm, (l : Int), (k : Int), (x : Int), (y : Int), (z : Int)⟩] })) := fun x y z h1 h2 h3 => HSAY.out.2.2.2 (by simp) (by omega) l k x y z rfl (by rw [← HWA.out.1]; exact h1) (by rw [← HWA.out.2.1]; exact h2) (by rw [← HWA.out.2.2]; exact h3)
          have HFR2 := hid (HFR4.out.below ((Below.refl w4.heap.size w4).alloc (Nat.le_refl _) (.cells #[] 3)))
          have HL0 : Hid ((w4.alloc (.cells #[] 3)).ownsRow BB 3 1 (.slice (some ⟨w4.heap.size, 0, none⟩) 0 0) 0 []) := World.ownsRow_lit w4 #[] 0 (by omega) (by unfold maxLen; omega) (by simp)
          have HKP0 : Hid (BB ≤ (w4.alloc (.cells #[] 3)).heap.size ∧ ∀ j, j < BB → (w4.alloc (.cells #[] 3)).heap[j]? = w4.heap[j]?) := ⟨by simp; omega, fun j hj => Lib.alloc_old _ _ _ (by omega)⟩
          clear hwf HF HNM HRD HSAY HL7 hpl hpl' l7 k6 HFS
          clear hBB
          go_upto_block 3 with fail
          go_cut [14] (fun v w' => ∃ (ys : List Nat) (aa : Option Addr) (cc : Nat), v = .slice aa ys.length cc ∧ ys.length = 3 ∧ Hid (w'.ownsRow (BB) 3 1 v ys.length (cN ys)) ∧ Hid (∀ t, t < ys.length → numOf (wf (3 + t)) = some (ys.getD t 0)) ∧ Hid (FR w w' a1 a2 a3 c1 c2 c3 p 0 0) ∧ Hid (BB ≤ w'.heap.size ∧ ∀ j, j < BB → w'.heap[j]? = w4.heap[j]?))
          case first =>
            go_wp2_with fail
            go_loopw [11, 14] (fun i v wr => ∃ (k : Nat) (ys : List Nat) (aa : Option Addr) (cc : Nat), i = .int .i64 (k : Int) ∧ k = 3 + ys.length ∧ k ≤ 6 ∧ v = .slice aa ys.length cc ∧ Hid (wr.ownsRow (BB) 3 1 v ys.length (cN ys)) ∧ Hid (∀ t, t < ys.length → numOf (wf (3 + t)) = some (ys.getD t 0)) ∧ Hid (FR w wr a1 a2 a3 c1 c2 c3 p 0 0) ∧ Hid (BB ≤ wr.heap.size ∧ ∀ j, j < BB → wr.heap[j]? = w4.heap[j]?)) (fun i _ _ => 6 - (intOf i).toNat)
            case atStart => exact ⟨3, [], _, _, rfl, rfl, by omega, rfl, HL0.out, fun t ht => absurd ht (by simp), HFR2, HKP0⟩
            case round =>
              obtain ⟨k, ys, aa, cc, rfl, hk, hkm, rfl, HOWN, HNUM, HFR3, HKP3⟩ := hrel
              have hFl := HFR3.out.lt
              have hBBr := HKP3.out.1
              by_cases hlt : k < 6
              · have hlt' : (k : Int) < 6 := by omega
                have h0' : (0 : Int) ≤ (k : Int) := by omega
                have e3 : wr.cell? ⟨rb, k, none⟩ = some (.string (wf k)) := HWF.out wr HFR3.out.b k (by omega) hlt
                have HN := hid (fun W => refNumber_any (wf k) W)
                cases hnum : numOf (wf k) with
                | none =>
                  rw [hnum] at HN
                  have HERR2 := hid (HERR.out k (by omega) hlt hnum)
                  obtain ⟨r1, r2, r3, ⟨m0, m1, m2⟩, ⟨s0, s1, s2⟩, _, _, ⟨t0, t1, t2⟩, _⟩ := HFR3.out.all
                  have HB1 := hid HFR3.out.b
                  clear HOWN HNUM HFR3 hnum hk
                  go_wp2_with (go_at_call 63; refine (HN.out _).mono ?_; rintro e w1 ⟨rfl, hw1⟩; have hw1' := hw1.symm; clear hw1; subst hw1'; simp only [numI])
                  refine bodyPost_ret (v := .tuple #[.agg #[.slice a1 p.ds.length c1, .slice a2 p.ss.length c2, .slice a3 p.ls.length c3], .int .i64 2]) (by simp [results, Tryd.f36, go_sem, *]) rfl ?_
                  refine osaid_same HH.out HERR2.out ?_
                  repeat (first | exact HB1.out | refine Below.setCell ?_ (by first | omega | (simp <;> omega)) _ | refine Below.drew ?_)
                | some y =>
                  rw [hnum] at HN
                  have HNUM2 : Hid (∀ t, t < (ys ++ [y]).length → numOf (wf (3 + t)) = some ((ys ++ [y]).getD t 0)) := fun t ht => by
                    by_cases e : t = ys.length
                    · subst e
                      rw [← hk, hnum]
                      simp [List.getD]
                    · have : t < ys.length := by simp at ht; omega
                      rw [HNUM.out t this]
                      simp [List.getD, List.getElem?_append_left this]
                  have hnp : ¬ ((y : Int) < 0) := by omega
                  have HK := hid hk
                  have hyl : ys.length ≤ 10 := by omega
                  clear hnum HNUM hk
                  go_wp2_with (first | (go_at_call 63; refine (HN.out _).mono ?_; rintro e w1 ⟨rfl, hw1⟩; have hw1' := hw1.symm; clear hw1; subst hw1'; simp only [numI]) | (at_builtin; refine wpList_append_own _ rfl _ _ 101 rfl (BB) 3 i3 (.int .i64 0) 1 8 Tryd.underlying101 hi hz0 hz1 hz2 rfl (by decide) (.slice aa ys.length cc) ys.length (cN ys) rfl (HOWN.out.alloc _) ⟨wr.heap.size, 0, none⟩ 1 1 [.int .i64 (y : Int)] rfl rfl (new1 wr _) (by intro u hu; simp at hu; subst hu; rfl) (by unfold maxLen; omega) (by omega) (by simp; omega) ?_))
                  intro v6 w6 hown6 hgrow6 _
                  obtain ⟨a6, c6, rfl, _⟩ := slice_own hown6
                  have HFR6 : Hid (FR w w6 a1 a2 a3 c1 c2 c3 p 0 0) := HFR3.out.grown HOWN.out (by omega) hgrow6
                  have HKP6 := hid (keep_more HKP3.out HOWN.out hgrow6)
                  have hll : (ys ++ [y]).length = ys.length + 1 := by simp
                  have HOWN6 : Hid (w6.ownsRow (BB) 3 1 (.slice a6 (ys ++ [y]).length c6) (ys ++ [y]).length (cN (ys ++ [y]))) := by rw [hll, cN_snoc]; exact hown6
                  obtain ⟨zs, hzs⟩ : ∃ zs, zs = ys ++ [y] := ⟨_, rfl⟩
                  rw [← hzs] at HOWN6 HNUM2 hll
                  rw [← hll]
                  clear hown6 hgrow6 HOWN HFR3 HN hzs
                  go_wp2_with fail
                  go_roundw
                  case rel =>
                    have hk := HK.out
                    exact ⟨k + 1, zs, a6, c6, by go_num, by omega, by omega, rfl, HOWN6, HNUM2, HFR6, HKP6⟩
                  case measure => simp [intOf]; omega
              · have hlt' : ¬ (k : Int) < 6 := by omega
                go_wp2_with fail
                go_meet
                exact ⟨ys, aa, cc, rfl, by omega, HOWN, HNUM, HFR3, HKP3⟩
          case rest =>
            obtain ⟨ys, aa, cc, rfl, hy1, HOWN, HNUM, HFR5, HKP5⟩ := hcut
            obtain ⟨y0, y1, y2, rfl⟩ : ∃ y0 y1 y2, ys = [y0, y1, y2] := by
              match ys, hy1 with
              | [y0, y1, y2], _ => exact ⟨y0, y1, y2, rfl⟩
            have HR0 := hid (HGOOD.out y0 y1 y2 (HNUM.out 0 (by simp)) (HNUM.out 1 (by simp)) (HNUM.out 2 (by simp)))
            obtain ⟨gn, rfl, hgn, hgc⟩ : ∃ gn, aa = some ⟨gn, 0, none⟩ ∧ BB ≤ gn ∧ gn < wc.heap.size := by
              rcases HOWN.out.2 with ⟨_, h⟩ | ⟨g, cap', cur, hv, hb, hh, _⟩
              · simp at h
              · cases hv; exact ⟨g, rfl, hb, (Array.getElem?_eq_some_iff.1 hh).1⟩
            have n0 : wc.cell? ⟨gn, 0, none⟩ = some (.int .i64 (y0 : Int)) := by
              have := HOWN.out.cellAt 0 (by simp)
              simpa [cN] using this
            have n1 : wc.cell? ⟨gn, 1, none⟩ = some (.int .i64 (y1 : Int)) := by
              have := HOWN.out.cellAt 1 (by simp)
              simpa [cN] using this
            have n2 : wc.cell? ⟨gn, 2, none⟩ = some (.int .i64 (y2 : Int)) := by
              have := HOWN.out.cellAt 2 (by simp)
              simpa [cN] using this
            have HD5 : Hid (wc.heap[bd]? = some (.cells #[.string nm, .int .i64 (l : Int), .int .i64 (k : Int), .int .i64 0, .int .i64 0, .int .i64 0] 37 (0, 0))) := (HKP5.out.2 bd hbB).trans HD4.out
            have v3 : wc.cell? ⟨bd, 3, none⟩ = some (.int .i64 0) := Lib.cell_of_heap HD5.out 3
            have v4 : wc.cell? ⟨bd, 4, none⟩ = some (.int .i64 0) := Lib.cell_of_heap HD5.out 4
            have v5 : wc.cell? ⟨bd, 5, none⟩ = some (.int .i64 0) := Lib.cell_of_heap HD5.out 5
            have g3 : wc.frozen? ⟨bd, 3, none⟩ = false := Lib.frozen_of_heap HD5.out 3
            have g4 : wc.frozen? ⟨bd, 4, none⟩ = false := Lib.frozen_of_heap HD5.out 4
            have g5 : wc.frozen? ⟨bd, 5, none⟩ = false := Lib.frozen_of_heap HD5.out 5
            have hgb : gn ≠ bd := by omega
            clear HNUM HOWN HERR HL0 HFR2 HWF HWA hi hz0 hz1 hz2 HKP0 HKP5 HGOOD HD4 HFR4
            go_wp2_with fail
            go_region_held3 (fun w' => w'.cell? ⟨gn, 0, none⟩ = some (.int .i64 (y0 : Int)) ∧ w'.cell? ⟨gn, 1, none⟩ = some (.int .i64 (y1 : Int)) ∧ w'.cell? ⟨gn, 2, none⟩ = some (.int .i64 (y2 : Int))) (first | assumption | exact ⟨n0, n1, n2⟩ | exact off3 hgb hgb ⟨n0, n1, n2⟩ | exact off3 hgb hgb (by assumption) | exact off3 hgb hgb (off3 hgb hgb (by assumption))) (fail)
            have hF6 := (((HFR5.out.far (b := bd) (i := 3) hbdl (.int .i64 (y0 : Int))).far (b := bd) (i := 4) hbdl (.int .i64 (y1 : Int))).far (b := bd) (i := 5) hbdl (.int .i64 (y2 : Int))).drew
            have hD6 := dom_rest (u' := .int .i64 (y0 : Int)) (v' := .int .i64 (y1 : Int)) (t' := .int .i64 (y2 : Int)) HD5.out
            obtain ⟨wr, hwr⟩ : ∃ W, W = World.drew (((wc.setCell ⟨bd, 3, none⟩ (.int .i64 (y0 : Int))).setCell ⟨bd, 4, none⟩ (.int .i64 (y1 : Int))).setCell ⟨bd, 5, none⟩ (.int .i64 (y2 : Int))) := ⟨_, rfl⟩
            rw [← hwr] at hF6
            have HD6 : Hid (wr.heap[bd]? = some (.cells #[.string nm, .int .i64 (l : Int), .int .i64 (k : Int), .int .i64 (y0 : Int), .int .i64 (y1 : Int), .int .i64 (y2 : Int)] 37 (0, 0))) := hwr ▸ hD6
            generalize hwr2 : World.drew (((wc.setCell ⟨bd, 3, none⟩ (.int .i64 (y0 : Int))).setCell ⟨bd, 4, none⟩ (.int .i64 (y1 : Int))).setCell ⟨bd, 5, none⟩ (.int .i64 (y2 : Int))) = wr2 at *
            rw [← hwr]
            clear hwr hwr2 hD6 n0 n1 n2 v3 v4 v5 g3 g4 g5 HD5 HFR5
            have hbd6 : bd < wr.heap.size := (Array.getElem?_eq_some_iff.1 HD6.out).1
            have HAT : Hid (∀ W', Below wr.heap.size wr W' → FR w W' a1 a2 a3 c1 c2 c3 p 0 0) := fun W' k => hF6.below k
            have HS : Hid (∀ W', Below wr.heap.size wr W' → Below wr.heap.size wr W' ∧ W'.cell? ⟨w.heap.size, 0, none⟩ = some (.slice a1 p.ds.length c1) ∧ W'.cell? ⟨bd, 0, none⟩ = some (.string nm) ∧ W'.cell? ⟨bd, 1, none⟩ = some (.int .i64 (l : Int)) ∧ W'.cell? ⟨bd, 2, none⟩ = some (.int .i64 (k : Int)) ∧ W'.cell? ⟨bd, 3, none⟩ = some (.int .i64 (y0 : Int)) ∧ W'.cell? ⟨bd, 4, none⟩ = some (.int .i64 (y1 : Int)) ∧ W'.cell? ⟨bd, 5, none⟩ = some (.int .i64 (y2 : Int))) := fun W' k' => by
              obtain ⟨_, _, _, ⟨u0, _, _⟩, _⟩ := (HAT.out W' k').all
              have hb := (k'.block bd hbd6).trans HD6.out
              exact ⟨k', u0, Lib.cell_of_heap hb 0, Lib.cell_of_heap hb 1, Lib.cell_of_heap hb 2, Lib.cell_of_heap hb 3, Lib.cell_of_heap hb 4, Lib.cell_of_heap hb 5⟩
            have HLI : Hid (∀ W', Below wr.heap.size wr W' → Lies W' a1 (cellsD p.ds)) := fun W' k => (HH.out.below (below_next hF6.b k)).d
            have HLS : Hid ((cellsD p.ds).length = p.ds.length * 6) := flat_length cD 6 (fun _ => rfl) p.ds
            have hFl := hF6.lt
            have hbs : w.heap.size + 3 ≤ wr.heap.size := by omega
            have E1 := hid (new_lit wr (e := 37) (size := 6) hbs).drew
            have E2 := hid (((new_lit wr (e := 37) (size := 6) hbs).alloc (.cells #[.string nm, .int .i64 (l : Int), .int .i64 (k : Int), .int .i64 (y0 : Int), .int .i64 (y1 : Int), .int .i64 (y2 : Int)] 37)).drew)
            have E3 := hid (new_lit3 wr (.cells #[.string nm, .int .i64 (l : Int), .int .i64 (k : Int), .int .i64 (y0 : Int), .int .i64 (y1 : Int), .int .i64 (y2 : Int)] 37) (e := 37) (size := 6) hbs)
            have G2 := hid (lit_at2 wr (.cells #[] 37) (.cells #[.string nm, .int .i64 (l : Int), .int .i64 (k : Int), .int .i64 (y0 : Int), .int .i64 (y1 : Int), .int .i64 (y2 : Int)] 37))
            have G3 := hid (lit_at3 wr (.cells #[.string nm, .int .i64 (l : Int), .int .i64 (k : Int), .int .i64 (y0 : Int), .int .i64 (y1 : Int), .int .i64 (y2 : Int)] 37) (.cells #[] 37))
            obtain ⟨i0, hi', hz0', hz1', hz2'⟩ := info_parts info37
            obtain ⟨_, b0, b1, b2, b3, b4, b5, b6⟩ := HS.out wr (Below.refl _ _)
            clear hF6
            go_wp2_with fail
            go_cut [] (fun w' => ∃ (w6 : World) (ad6 : Option Addr) (cap6 : Nat), Hid (w6.ownsRow (w.heap.size + 3) 37 6 (.slice ad6 (p.ds.length + 1) cap6) (p.ds.length + 1) (cellsD p.ds ++ [.string nm, .int .i64 (l : Int), .int .i64 (k : Int), .int .i64 (y0 : Int), .int .i64 (y1 : Int), .int .i64 (y2 : Int)])) ∧ Hid (Below wr.heap.size wr w6) ∧ w' = w6.setCell ⟨w.heap.size, 0, none⟩ (.slice ad6 (p.ds.length + 1) cap6))
            case first =>
              refine wp_region_noPanic ?_
              refine wp_region_last_drew (L := 8) (S := fun w' => Below wr.heap.size wr w' ∧ w'.cell? ⟨w.heap.size, 0, none⟩ = some (.slice a1 p.ds.length c1) ∧ w'.cell? ⟨bd, 0, none⟩ = some (.string nm) ∧ w'.cell? ⟨bd, 1, none⟩ = some (.int .i64 (l : Int)) ∧ w'.cell? ⟨bd, 2, none⟩ = some (.int .i64 (k : Int)) ∧ w'.cell? ⟨bd, 3, none⟩ = some (.int .i64 (y0 : Int)) ∧ w'.cell? ⟨bd, 4, none⟩ = some (.int .i64 (y1 : Int)) ∧ w'.cell? ⟨bd, 5, none⟩ = some (.int .i64 (y2 : Int))) (by kernel_rfl) ?_ (fun hHeld => ?_)
              · exact HS.out _ (Below.refl _ _).drew
              refine wpAnyL_take (i := 1) (v := ?_) rfl (by kernel_rfl) (by kernel_rfl) (by kernel_rfl) (by kernel_rfl) (fun _ _ _ h => h) (Or.inl ⟨by rfl, ?_⟩) (by first | trivial | assumption) ?_
              rotate_left 1
              · (intro w hSw; (try dsimp only at hSw); go_simp; all_goals with_reducible rfl)
              try simp only [Act.put, List.setIfInBounds_toArray, List.set_cons_zero, List.set_cons_succ]
              refine wpAnyL_take (i := 2) (v := ?_) rfl (by kernel_rfl) (by kernel_rfl) (by kernel_rfl) (by kernel_rfl) (fun _ _ _ h => h) (Or.inl ⟨by rfl, ?_⟩) (by first | trivial | assumption) ?_
              rotate_left 1
              · (intro w hSw; (try dsimp only at hSw); go_simp; all_goals with_reducible rfl)
              try simp only [Act.put, List.setIfInBounds_toArray, List.set_cons_zero, List.set_cons_succ]
              refine wpAnyL_take (i := 4) (v := ?_) rfl (by kernel_rfl) (by kernel_rfl) (by kernel_rfl) (by kernel_rfl) (fun _ _ _ h => h) (Or.inl ⟨by rfl, ?_⟩) (by first | trivial | assumption) ?_
              rotate_left 1
              · (intro w hSw; (try dsimp only at hSw); go_simp; all_goals with_reducible rfl)
              try simp only [Act.put, List.setIfInBounds_toArray, List.set_cons_zero, List.set_cons_succ]
              refine wpAnyL_ready (rs := [0, 5]) (by kernel_rfl) (by simp) ?_
              refine AllReadyL.cons rfl (fun K hK => ?_) ?_
              · go_simp
                refine hK.out _ _ ?_ (fun hHeld => ?_)
                · (first | assumption | (refine HS.out _ ?_; repeat (first | assumption | exact Below.refl _ _ | refine Below.alloc ?_ (by first | omega | (simp <;> omega)) _ | refine Below.drew ?_)))
                clear hK K
                try simp only [Act.put, List.setIfInBounds_toArray, List.set_cons_zero, List.set_cons_succ]
                refine wpAnyL_ready (rs := [3, 5]) (by kernel_rfl) (by simp) ?_
                refine AllReadyL.cons rfl (fun K hK => ?_) ?_
                · (refine step_copy_lie _ (by rfl) _ _ _ (by rfl) (w.heap.size + 3) 37 i0 _ 6 56 Tryd.underlying22 hi' hz0' hz1' hz2' rfl (by omega) (.slice (some ⟨_, 0, none⟩) 0 0) (by rfl) (by first | exact E1.out | exact E2.out | exact E3.out) a1 p.ds.length c1 (cellsD p.ds) (by rfl) HLS.out (HLI.out _ (left_of hHeld)) (onesD _) (by unfold maxLen; omega) (by omega) (by first | exact hbs | (simp; omega)) ?_; intro ad5 cap5 w5 hown5 hgrow5 hat5; have hB5 : Below wr.heap.size wr w5 := Below.grown (left_of hHeld) hgrow5 (by first | omega | (simp <;> omega)) (by intro q hq; simp [Value.ownBlock] at hq; omega); have hz5 := hB5.size; have hq5 : ∀ q, (Value.slice ad5 p.ds.length cap5).ownBlock = some q → wr.heap.size ≤ q := (by intro q hq; rcases hat5 with h | h <;> (rw [hq] at h; simp [Value.ownBlock] at h; omega)))
                  refine hK.out _ _ ?_ (fun hHeld => ?_)
                  · (first | assumption | (refine HS.out _ ?_; repeat (first | assumption | exact Below.refl _ _ | refine Below.alloc ?_ (by first | omega | (simp <;> omega)) _ | refine Below.drew ?_)))
                  clear hK K
                  try simp only [Act.put, List.setIfInBounds_toArray, List.set_cons_zero, List.set_cons_succ]
                  refine wpAnyL_ready (rs := [5]) (by kernel_rfl) (by simp) ?_
                  refine AllReadyL.cons rfl (fun K hK => ?_) ?_
                  · go_simp
                    refine hK.out _ _ ?_ (fun hHeld => ?_)
                    · (first | assumption | (refine HS.out _ ?_; repeat (first | assumption | exact Below.refl _ _ | refine Below.alloc ?_ (by first | omega | (simp <;> omega)) _ | refine Below.drew ?_)))
                    clear hK K
                    try simp only [Act.put, List.setIfInBounds_toArray, List.set_cons_zero, List.set_cons_succ]
                    refine wpAnyL_ready (rs := [6]) (by kernel_rfl) (by simp) ?_
                    refine AllReadyL.cons rfl (fun K hK => ?_) ?_
                    · (refine step_append_lie _ (by rfl) _ _ _ (by rfl) (w.heap.size + 3) 37 i0 _ 6 56 Tryd.underlying22 hi' hz0' hz1' hz2' rfl (by omega) (.slice ad5 p.ds.length cap5) p.ds.length (cellsD p.ds) (by rfl) (by first | exact hown5 | exact hown5.alloc _) (some ⟨_, 0, none⟩) 1 1 [.string nm, .int .i64 (l : Int), .int .i64 (k : Int), .int .i64 (y0 : Int), .int .i64 (y1 : Int), .int .i64 (y2 : Int)] (by rfl) rfl (by first | exact lies_blk (alloc_at _ _) | exact lies_blk ((hgrow5.block _ (by first | (simp; done) | (simp; omega)) (by first | (simp [Value.ownBlock]; done) | (simp [Value.ownBlock]; omega))).trans G2.out) | exact lies_blk ((hgrow5.block _ (by first | (simp; done) | (simp; omega)) (by first | (simp [Value.ownBlock]; done) | (simp [Value.ownBlock]; omega))).trans G3.out)) (ones6 _ _ _ _ _ _) (by unfold maxLen; omega) (by omega) (by first | omega | (simp; omega)) ?_; intro ad6 cap6 w6 hown6 hgrow6 hat6; have hB6 : Below wr.heap.size wr w6 := Below.grown (left_of hHeld) hgrow6 (by first | omega | (simp; omega)) (by intro q hq; exact hq5 q hq); obtain ⟨_, _, _, ⟨x0, x1, x2⟩, _, _, ⟨y0, y1, y2⟩, _⟩ := (HAT.out _ hB6).all)
                      refine hK.out _ _ ?_ (fun hHeld => ?_)
                      · (first | assumption | (refine HS.out _ ?_; repeat (first | assumption | exact Below.refl _ _ | refine Below.alloc ?_ (by first | omega | (simp <;> omega)) _ | refine Below.drew ?_)))
                      clear hK K
                      try simp only [Act.put, List.setIfInBounds_toArray, List.set_cons_zero, List.set_cons_succ]
                      refine wpAnyL_take (i := 7) (v := ?_) rfl (by kernel_rfl) (by kernel_rfl) (by kernel_rfl) (by kernel_rfl) (fun _ _ _ h => h) (Or.inl ⟨by rfl, ?_⟩) (by first | trivial | assumption) ?_
                      rotate_left 1
                      · (intro w hSw; (try dsimp only at hSw); go_simp; all_goals with_reducible rfl)
                      try simp only [Act.put, List.setIfInBounds_toArray, List.set_cons_zero, List.set_cons_succ]
                      refine wpAnyL_ready (rs := [8]) (by kernel_rfl) (by simp) ?_
                      refine AllReadyL.last rfl (fun K hK => ?_)
                      go_simp
                      refine hK.out _ _ ?_
                      clear hK K
                      try simp only [Act.put, List.setIfInBounds_toArray, List.set_cons_zero, List.set_cons_succ]
                      refine wpAnyL_done (by kernel_rfl) ?_ _
                      (refine NoPanic.normal ?_; go_wp2_with fail; go_meet; exact ⟨w6, ad6, cap6, hid hown6, hid hB6, rfl⟩)
                    exact AllReadyL.nil
                  exact AllReadyL.nil
                refine AllReadyL.cons rfl (fun K hK => ?_) ?_
                · go_simp
                  refine hK.out _ _ ?_ (fun hHeld => ?_)
                  · (first | assumption | (refine HS.out _ ?_; repeat (first | assumption | exact Below.refl _ _ | refine Below.alloc ?_ (by first | omega | (simp <;> omega)) _ | refine Below.drew ?_)))
                  clear hK K
                  try simp only [Act.put, List.setIfInBounds_toArray, List.set_cons_zero, List.set_cons_succ]
                  refine wpAnyL_ready (rs := [3]) (by kernel_rfl) (by simp) ?_
                  refine AllReadyL.cons rfl (fun K hK => ?_) ?_
                  · (refine step_copy_lie _ (by rfl) _ _ _ (by rfl) (w.heap.size + 3) 37 i0 _ 6 56 Tryd.underlying22 hi' hz0' hz1' hz2' rfl (by omega) (.slice (some ⟨_, 0, none⟩) 0 0) (by rfl) (by first | exact E1.out | exact E2.out | exact E3.out) a1 p.ds.length c1 (cellsD p.ds) (by rfl) HLS.out (HLI.out _ (left_of hHeld)) (onesD _) (by unfold maxLen; omega) (by omega) (by first | exact hbs | (simp; omega)) ?_; intro ad5 cap5 w5 hown5 hgrow5 hat5; have hB5 : Below wr.heap.size wr w5 := Below.grown (left_of hHeld) hgrow5 (by first | omega | (simp <;> omega)) (by intro q hq; simp [Value.ownBlock] at hq; omega); have hz5 := hB5.size; have hq5 : ∀ q, (Value.slice ad5 p.ds.length cap5).ownBlock = some q → wr.heap.size ≤ q := (by intro q hq; rcases hat5 with h | h <;> (rw [hq] at h; simp [Value.ownBlock] at h; omega)))
                    refine hK.out _ _ ?_ (fun hHeld => ?_)
                    · (first | assumption | (refine HS.out _ ?_; repeat (first | assumption | exact Below.refl _ _ | refine Below.alloc ?_ (by first | omega | (simp <;> omega)) _ | refine Below.drew ?_)))
                    clear hK K
                    try simp only [Act.put, List.setIfInBounds_toArray, List.set_cons_zero, List.set_cons_succ]
                    refine wpAnyL_ready (rs := [6]) (by kernel_rfl) (by simp) ?_
                    refine AllReadyL.cons rfl (fun K hK => ?_) ?_
                    · (refine step_append_lie _ (by rfl) _ _ _ (by rfl) (w.heap.size + 3) 37 i0 _ 6 56 Tryd.underlying22 hi' hz0' hz1' hz2' rfl (by omega) (.slice ad5 p.ds.length cap5) p.ds.length (cellsD p.ds) (by rfl) (by first | exact hown5 | exact hown5.alloc _) (some ⟨_, 0, none⟩) 1 1 [.string nm, .int .i64 (l : Int), .int .i64 (k : Int), .int .i64 (y0 : Int), .int .i64 (y1 : Int), .int .i64 (y2 : Int)] (by rfl) rfl (by first | exact lies_blk (alloc_at _ _) | exact lies_blk ((hgrow5.block _ (by first | (simp; done) | (simp; omega)) (by first | (simp [Value.ownBlock]; done) | (simp [Value.ownBlock]; omega))).trans G2.out) | exact lies_blk ((hgrow5.block _ (by first | (simp; done) | (simp; omega)) (by first | (simp [Value.ownBlock]; done) | (simp [Value.ownBlock]; omega))).trans G3.out)) (ones6 _ _ _ _ _ _) (by unfold maxLen; omega) (by omega) (by first | omega | (simp; omega)) ?_; intro ad6 cap6 w6 hown6 hgrow6 hat6; have hB6 : Below wr.heap.size wr w6 := Below.grown (left_of hHeld) hgrow6 (by first | omega | (simp; omega)) (by intro q hq; exact hq5 q hq); obtain ⟨_, _, _, ⟨x0, x1, x2⟩, _, _, ⟨y0, y1, y2⟩, _⟩ := (HAT.out _ hB6).all)
                      refine hK.out _ _ ?_ (fun hHeld => ?_)
                      · (first | assumption | (refine HS.out _ ?_; repeat (first | assumption | exact Below.refl _ _ | refine Below.alloc ?_ (by first | omega | (simp <;> omega)) _ | refine Below.drew ?_)))
                      clear hK K
                      try simp only [Act.put, List.setIfInBounds_toArray, List.set_cons_zero, List.set_cons_succ]
                      refine wpAnyL_take (i := 7) (v := ?_) rfl (by kernel_rfl) (by kernel_rfl) (by kernel_rfl) (by kernel_rfl) (fun _ _ _ h => h) (Or.inl ⟨by rfl, ?_⟩) (by first | trivial | assumption) ?_
                      rotate_left 1
                      · (intro w hSw; (try dsimp only at hSw); go_simp; all_goals with_reducible rfl)
                      try simp only [Act.put, List.setIfInBounds_toArray, List.set_cons_zero, List.set_cons_succ]
                      refine wpAnyL_ready (rs := [8]) (by kernel_rfl) (by simp) ?_
                      refine AllReadyL.last rfl (fun K hK => ?_)
                      go_simp
                      refine hK.out _ _ ?_
                      clear hK K
                      try simp only [Act.put, List.setIfInBounds_toArray, List.set_cons_zero, List.set_cons_succ]
                      refine wpAnyL_done (by kernel_rfl) ?_ _
                      (refine NoPanic.normal ?_; go_wp2_with fail; go_meet; exact ⟨w6, ad6, cap6, hid hown6, hid hB6, rfl⟩)
                    exact AllReadyL.nil
                  exact AllReadyL.nil
                exact AllReadyL.nil
              refine AllReadyL.cons rfl (fun K hK => ?_) ?_
              · go_simp
                refine hK.out _ _ ?_ (fun hHeld => ?_)
                · (first | assumption | (refine HS.out _ ?_; repeat (first | assumption | exact Below.refl _ _ | refine Below.alloc ?_ (by first | omega | (simp <;> omega)) _ | refine Below.drew ?_)))
                clear hK K
                try simp only [Act.put, List.setIfInBounds_toArray, List.set_cons_zero, List.set_cons_succ]
                refine wpAnyL_ready (rs := [0]) (by kernel_rfl) (by simp) ?_
                refine AllReadyL.cons rfl (fun K hK => ?_) ?_
                · go_simp
                  refine hK.out _ _ ?_ (fun hHeld => ?_)
                  · (first | assumption | (refine HS.out _ ?_; repeat (first | assumption | exact Below.refl _ _ | refine Below.alloc ?_ (by first | omega | (simp <;> omega)) _ | refine Below.drew ?_)))
                  clear hK K
                  try simp only [Act.put, List.setIfInBounds_toArray, List.set_cons_zero, List.set_cons_succ]
                  refine wpAnyL_ready (rs := [3]) (by kernel_rfl) (by simp) ?_
                  refine AllReadyL.cons rfl (fun K hK => ?_) ?_
                  · (refine step_copy_lie _ (by rfl) _ _ _ (by rfl) (w.heap.size + 3) 37 i0 _ 6 56 Tryd.underlying22 hi' hz0' hz1' hz2' rfl (by omega) (.slice (some ⟨_, 0, none⟩) 0 0) (by rfl) (by first | exact E1.out | exact E2.out | exact E3.out) a1 p.ds.length c1 (cellsD p.ds) (by rfl) HLS.out (HLI.out _ (left_of hHeld)) (onesD _) (by unfold maxLen; omega) (by omega) (by first | exact hbs | (simp; omega)) ?_; intro ad5 cap5 w5 hown5 hgrow5 hat5; have hB5 : Below wr.heap.size wr w5 := Below.grown (left_of hHeld) hgrow5 (by first | omega | (simp <;> omega)) (by intro q hq; simp [Value.ownBlock] at hq; omega); have hz5 := hB5.size; have hq5 : ∀ q, (Value.slice ad5 p.ds.length cap5).ownBlock = some q → wr.heap.size ≤ q := (by intro q hq; rcases hat5 with h | h <;> (rw [hq] at h; simp [Value.ownBlock] at h; omega)))
                    refine hK.out _ _ ?_ (fun hHeld => ?_)
                    · (first | assumption | (refine HS.out _ ?_; repeat (first | assumption | exact Below.refl _ _ | refine Below.alloc ?_ (by first | omega | (simp <;> omega)) _ | refine Below.drew ?_)))
                    clear hK K
                    try simp only [Act.put, List.setIfInBounds_toArray, List.set_cons_zero, List.set_cons_succ]
                    refine wpAnyL_ready (rs := [6]) (by kernel_rfl) (by simp) ?_
                    refine AllReadyL.cons rfl (fun K hK => ?_) ?_
                    · (refine step_append_lie _ (by rfl) _ _ _ (by rfl) (w.heap.size + 3) 37 i0 _ 6 56 Tryd.underlying22 hi' hz0' hz1' hz2' rfl (by omega) (.slice ad5 p.ds.length cap5) p.ds.length (cellsD p.ds) (by rfl) (by first | exact hown5 | exact hown5.alloc _) (some ⟨_, 0, none⟩) 1 1 [.string nm, .int .i64 (l : Int), .int .i64 (k : Int), .int .i64 (y0 : Int), .int .i64 (y1 : Int), .int .i64 (y2 : Int)] (by rfl) rfl (by first | exact lies_blk (alloc_at _ _) | exact lies_blk ((hgrow5.block _ (by first | (simp; done) | (simp; omega)) (by first | (simp [Value.ownBlock]; done) | (simp [Value.ownBlock]; omega))).trans G2.out) | exact lies_blk ((hgrow5.block _ (by first | (simp; done) | (simp; omega)) (by first | (simp [Value.ownBlock]; done) | (simp [Value.ownBlock]; omega))).trans G3.out)) (ones6 _ _ _ _ _ _) (by unfold maxLen; omega) (by omega) (by first | omega | (simp; omega)) ?_; intro ad6 cap6 w6 hown6 hgrow6 hat6; have hB6 : Below wr.heap.size wr w6 := Below.grown (left_of hHeld) hgrow6 (by first | omega | (simp; omega)) (by intro q hq; exact hq5 q hq); obtain ⟨_, _, _, ⟨x0, x1, x2⟩, _, _, ⟨y0, y1, y2⟩, _⟩ := (HAT.out _ hB6).all)
                      refine hK.out _ _ ?_ (fun hHeld => ?_)
                      · (first | assumption | (refine HS.out _ ?_; repeat (first | assumption | exact Below.refl _ _ | refine Below.alloc ?_ (by first | omega | (simp <;> omega)) _ | refine Below.drew ?_)))
                      clear hK K
                      try simp only [Act.put, List.setIfInBounds_toArray, List.set_cons_zero, List.set_cons_succ]
                      refine wpAnyL_take (i := 7) (v := ?_) rfl (by kernel_rfl) (by kernel_rfl) (by kernel_rfl) (by kernel_rfl) (fun _ _ _ h => h) (Or.inl ⟨by rfl, ?_⟩) (by first | trivial | assumption) ?_
                      rotate_left 1
                      · (intro w hSw; (try dsimp only at hSw); go_simp; all_goals with_reducible rfl)
                      try simp only [Act.put, List.setIfInBounds_toArray, List.set_cons_zero, List.set_cons_succ]
                      refine wpAnyL_ready (rs := [8]) (by kernel_rfl) (by simp) ?_
                      refine AllReadyL.last rfl (fun K hK => ?_)
                      go_simp
                      refine hK.out _ _ ?_
                      clear hK K
                      try simp only [Act.put, List.setIfInBounds_toArray, List.set_cons_zero, List.set_cons_succ]
                      refine wpAnyL_done (by kernel_rfl) ?_ _
                      (refine NoPanic.normal ?_; go_wp2_with fail; go_meet; exact ⟨w6, ad6, cap6, hid hown6, hid hB6, rfl⟩)
                    exact AllReadyL.nil
                  exact AllReadyL.nil
                exact AllReadyL.nil
              exact AllReadyL.nil
            case rest =>
              obtain ⟨w6, ad6, cap6, HO6, HB6, rfl⟩ := hcut
              have hF6 := HAT.out w6 HB6.out
              obtain ⟨r1, r2, r3, ⟨x0, x1, x2⟩, ⟨s0, s1, s2⟩, _, ⟨f0, f1, f2⟩, ⟨t0, t1, t2⟩, _⟩ := hF6.all
              have HBW := hid hF6.b
              have HEND : Hid (∀ W7, (∀ b, w.heap.size + 3 ≤ b → W7.heap[b]? = w6.heap[b]?) → Below w.heap.size w W7 → OSaid w RR (.returned (.tuple #[.agg #[.slice ad6 (p.ds.length + 1) cap6, .slice a2 p.ss.length c2, .slice a3 p.ls.length c3], .int .i64 0])) W7) := fun W7 h1 h2 => by
                have hL := own_lies HO6.out
                rw [HR0.out]
                have hh7 := HH.out.below h2
                refine ⟨ad6, a2, a3, cap6, c2, c3, by simp, ⟨?_, hh7.s, hh7.l, ?_, hh7.sc, hh7.lc⟩, h2⟩
                · have := hL.2 W7 h1
                  simpa [cellsD, cD] using this
                · have := hL.1
                  simpa using this
              clear b0 b1 b2 b3 b4 b5 b6 E1 E2 E3 G2 G3 HLI HLS HS HAT hF6 HD6
              go_wp2_with fail
              refine bodyPost_ret (v := .tuple #[.agg #[.slice ad6 (p.ds.length + 1) cap6, .slice a2 p.ss.length c2, .slice a3 p.ls.length c3], .int .i64 0]) (by simp [results, Tryd.f36, go_sem, *]) rfl ?_
              refine HEND.out _ far3 ?_
              repeat (first | exact HBW.out | refine Below.setCell ?_ (by first | omega | (simp <;> omega)) _ | refine Below.drew ?_)

end Go.Proofs.YtmhjoomkeidcaaaDoor
