/-
  What the document's Want comes to.
-/
import Derived.Test.YtggfndokmdpaeaaRead
namespace Go.Proofs.Ytggfndokmdpaeaa
open Go.RowKit

theorem fin_row2 {w wc w4 : World} {R base : Nat} {u u' : Value} {l l2 : List Wn} (h : AtR w R base u l) (hbs : base ≤ w.heap.size) (hb0 : Below w.heap.size w wc) (hb : Below wc.heap.size wc w4) (ho : w4.ownsRow wc.heap.size 61 3 u' l2.length (cO l2)) : NowR R base u l2 w (w4.setCell ⟨R, 0, none⟩ u') :=
  NowR.next (Mov.of_below hb0) (fun _ hk => Or.inr hk) (fin_row (h.below hb0) (Nat.le_trans hbs hb0.size) hb ho)
theorem want_here {l : List Wn} {t : Int} (h1 : ¬ t < 1) (hb : inZ (ts l) t = true) (b wt : Bool) : wantE l t b wt = 11 ∧ wantL l t b wt = l := ⟨(if_neg h1).trans (if_pos hb), (if_neg h1).trans (if_pos hb)⟩
theorem want_free {l : List Wn} {t : Int} (h1 : ¬ t < 1) (hb : inZ (ts l) t = false) {b : Bool} (wt : Bool) (hf : freeB l b = true) : wantE l t b wt = 0 ∧ wantL l t b wt = l ++ [⟨t, b, true⟩] := by
  have h2 : ¬ inZ (ts l) t = true := by rw [hb]; simp
  exact ⟨((if_neg h1).trans (if_neg h2)).trans (if_pos hf), ((if_neg h1).trans (if_neg h2)).trans ((if_pos (by rw [hf]; rfl)).trans (by rw [hf]))⟩
theorem want_busy {l : List Wn} {t : Int} (h1 : ¬ t < 1) (hb : inZ (ts l) t = false) {b : Bool} (hf : freeB l b = false) : wantE l t b true = 14 ∧ wantL l t b true = l ++ [⟨t, b, false⟩] ∧ wantE l t b false = 12 ∧ wantL l t b false = l := by
  have h2 : ¬ inZ (ts l) t = true := by rw [hb]; simp
  have h3 : ¬ freeB l b = true := by rw [hf]; simp
  exact ⟨((if_neg h1).trans (if_neg h2)).trans ((if_neg h3).trans (if_pos rfl)), ((if_neg h1).trans (if_neg h2)).trans ((if_pos (by rw [hf]; rfl)).trans (by rw [hf])), ((if_neg h1).trans (if_neg h2)).trans ((if_neg h3).trans (if_neg (by simp))), ((if_neg h1).trans (if_neg h2)).trans (if_neg (by rw [hf]; simp))⟩
theorem free_yes {l : List Wn} {b : Bool} (h1 : wrO l = 0) (h2 : kinds l (!b) b = []) : freeB l b = true := by
  unfold freeB
  rw [decide_eq_true h1, decide_eq_true h2]
  rfl
theorem free_no {l : List Wn} {b : Bool} (h : wrO l ≠ 0 ∨ kinds l (!b) b ≠ []) : freeB l b = false := by
  unfold freeB
  rcases h with h | h
  · rw [decide_eq_false h, Bool.false_and]
  · rw [decide_eq_false h, Bool.and_false]

set_option maxHeartbeats 1000000 in
theorem want_little (R base : Nat) (u : Value) (l : List Wn) (t : Int) (b wt : Bool) (h1 : t < 1) (w : World) (hR : AtR w R base u l) :
    Calls Try.prog 24 #[.pointer (some ⟨R, 0, none⟩), .int .i64 t, .bool b, .bool wt] w fun e w' => e = .returned (.int .i64 (wantE l t b wt)) ∧ NowR R base u (wantL l t b wt) w w' := by
  rw [show wantE l t b wt = 1 from if_pos h1, show wantL l t b wt = l from if_pos h1]
  have HR := hide hR
  clear hR
  go_enter Try.func24, Try.ntmps24
  go_wp2
  go_ret
  exact ⟨rfl, NowR.same HR.out (Below.refl _ _)⟩
set_option maxHeartbeats 1000000 in
theorem want_twice (R base : Nat) (u : Value) (l : List Wn) (hl : l.length ≤ 1000) (t : Int) (b wt : Bool) (h1 : ¬ t < 1) (hb : inZ (ts l) t = true) (w : World) (hR : AtR w R base u l) :
    Calls Try.prog 24 #[.pointer (some ⟨R, 0, none⟩), .int .i64 t, .bool b, .bool wt] w fun e w' => e = .returned (.int .i64 (wantE l t b wt)) ∧ NowR R base u (wantL l t b wt) w w' := by
  rw [(want_here h1 hb b wt).1, (want_here h1 hb b wt).2]
  have A := at_any R base u l hl t w hR
  rw [(idx_here hb).2.2] at A
  have HA := hide A
  have HR := hide hR
  have i0 : (0 : Int) ≤ (idxN l t : Int) := by omega
  clear hR A hb
  generalize idxN l t = k at *
  go_enter Try.func24, Try.ntmps24
  go_wp2_with fail
  refine HA.out.mono ?_
  rintro e w2 ⟨rfl, hw2⟩
  subst hw2
  go_wp2
  go_ret
  exact ⟨rfl, NowR.same HR.out (Below.refl _ _)⟩

set_option maxHeartbeats 2000000 in
theorem want_w_waitW (R base : Nat) (u : Value) (l : List Wn) (hl : l.length ≤ 1000) (t : Int) (h1 : ¬ t < 1) (hb : inZ (ts l) t = false) (hx : wrO l ≠ 0) (w : World) (hR : AtR w R base u l) (hbs : base ≤ w.heap.size) :
    Calls Try.prog 24 #[.pointer (some ⟨R, 0, none⟩), .int .i64 t, .bool true, .bool true] w fun e w' => e = .returned (.int .i64 (wantE l t true true)) ∧ NowR R base u (wantL l t true true) w w' := by
  have hf : freeB l true = false := free_no (Or.inl hx)
  rw [(want_busy h1 hb hf).1, (want_busy h1 hb hf).2.1]
  have A := at_any R base u l hl t w hR
  rw [idx_out hb] at A
  have HA := hide A
  have HW := hide (rwriter_any R base u l hl w hR)
  have HR := hide hR
  have hx' : (wrO l == 0) = false := by simpa using hx
  generalize wrO l = X at *
  clear hR A hb hf hx
  go_enter Try.func24, Try.ntmps24
  go_wp2_with fail
  refine HA.out.mono ?_
  rintro e w2 ⟨rfl, hw2⟩
  subst hw2
  go_wp2_with fail
  refine HW.out.mono ?_
  rintro e wc ⟨rfl, hbc⟩
  have HBD := hide hbc
  clear hbc HW
  have HRc := hide (HR.out.below HBD.out)
  obtain ⟨av, ac, hv⟩ := owns_slice HRc.out.row
  have HZ : Hid (RowO wc av l) := hide (owns_rowO (by have := HRc.out.row; rw [hv] at this; exact this))
  obtain ⟨c0, cf⟩ := HRc.out.cells
  have cf0 := cf 0
  rw [hv] at c0
  have hRl := HRc.out.lt
  obtain ⟨L, hL⟩ : ∃ L, l.length = L := ⟨_, rfl⟩
  rw [hL] at c0 hl
  have HL := hide hL
  have hl0 := lit0O wc
  have hb0 := below1 wc (.cells #[] 61)
  have fin : Hid (∀ a4 c4 w4, Below wc.heap.size wc w4 → w4.ownsRow wc.heap.size 61 3 (.slice a4 (L + 1) c4) (L + 1) (cO (l ++ [⟨t, true, false⟩])) → NowR R base u (l ++ [⟨t, true, false⟩]) w2 (w4.setCell ⟨R, 0, none⟩ (.slice a4 (L + 1) c4))) := hide fun a4 c4 w4 hb4 ho4 =>
    fin_row2 HR.out hbs HBD.out hb4 (by rw [List.length_append, HL.out]; exact ho4)
  clear cf hv hL
  go_wp2_with (at_builtin; refine wpList_append_o _ rfl _ _ rfl wc.heap.size _ 0 [] rfl hl0 av L ac l rfl HL.out (HZ.out.below hb0) (by omega) (by simp) ?_)
  intro a3 c3 w3 ho3 hg3 _
  have hb3 : Below wc.heap.size wc w3 := below_ownO hb0 hl0 hg3
  have hz3 := hb3.size
  have hl1 := ho3.alloc (.cells #[.int .i64 t, .bool true, .bool false] 61)
  have hb5 := hb3.alloc hz3 (.cells #[.int .i64 t, .bool true, .bool false] 61)
  go_wp2_with (at_builtin; refine wpList_append_o _ rfl _ _ rfl wc.heap.size _ L l rfl hl1 (some ⟨w3.heap.size, 0, none⟩) 1 1 [⟨t, true, false⟩] rfl rfl (one_o (by simp) (by simp) (by simp) (by simp)) (by omega) (by simp; omega) ?_)
  intro a4 c4 w4 ho4 hg4 _
  have hb4 : Below wc.heap.size wc w4 := below_ownO hb5 hl1 hg4
  have HF := hide (fin.out a4 c4 w4 hb4 ho4)
  obtain ⟨d0, df⟩ := (HRc.out.below hb4).cells
  have df0 := df 0
  have hRl4 : R < w4.heap.size := Nat.lt_of_lt_of_le hRl hb4.size
  clear hg3 ho3 hg4 ho4 hb3 hz3 hb4 df fin HR HRc HZ hl0 hl1 hb0 hb5 HA c0 cf0 hRl
  go_wp2
  go_ret
  refine ⟨rfl, ?_⟩
  exact HF.out

set_option maxHeartbeats 2000000 in
theorem want_w_tryW (R base : Nat) (u : Value) (l : List Wn) (hl : l.length ≤ 1000) (t : Int) (h1 : ¬ t < 1) (hb : inZ (ts l) t = false) (hx : wrO l ≠ 0) (w : World) (hR : AtR w R base u l) (hbs : base ≤ w.heap.size) :
    Calls Try.prog 24 #[.pointer (some ⟨R, 0, none⟩), .int .i64 t, .bool true, .bool false] w fun e w' => e = .returned (.int .i64 (wantE l t true false)) ∧ NowR R base u (wantL l t true false) w w' := by
  have hf : freeB l true = false := free_no (Or.inl hx)
  rw [(want_busy h1 hb hf).2.2.1, (want_busy h1 hb hf).2.2.2]
  have A := at_any R base u l hl t w hR
  rw [idx_out hb] at A
  have HA := hide A
  have HW := hide (rwriter_any R base u l hl w hR)
  have HR := hide hR
  have hx' : (wrO l == 0) = false := by simpa using hx
  generalize wrO l = X at *
  clear hR A hb hf hx
  go_enter Try.func24, Try.ntmps24
  go_wp2_with fail
  refine HA.out.mono ?_
  rintro e w2 ⟨rfl, hw2⟩
  subst hw2
  go_wp2_with fail
  refine HW.out.mono ?_
  rintro e wc ⟨rfl, hbc⟩
  have HBD := hide hbc
  clear hbc HW
  go_wp2
  go_ret
  exact ⟨rfl, NowR.same HR.out HBD.out⟩

set_option maxHeartbeats 2000000 in
theorem want_k_waitW (R base : Nat) (u : Value) (l : List Wn) (hl : l.length ≤ 1000) (t : Int) (h1 : ¬ t < 1) (hb : inZ (ts l) t = false) (hx : wrO l = 0) (hy : kinds l false true ≠ []) (w : World) (hR : AtR w R base u l) (hbs : base ≤ w.heap.size) :
    Calls Try.prog 24 #[.pointer (some ⟨R, 0, none⟩), .int .i64 t, .bool true, .bool true] w fun e w' => e = .returned (.int .i64 (wantE l t true true)) ∧ NowR R base u (wantL l t true true) w w' := by
  have hf : freeB l true = false := free_no (Or.inr hy)
  rw [(want_busy h1 hb hf).1, (want_busy h1 hb hf).2.1]
  have A := at_any R base u l hl t w hR
  rw [idx_out hb] at A
  have HA := hide A
  have HW := hide (rwriter_any R base u l hl w hR)
  have HT := hide (fun W (k : Below w.heap.size w W) => tasks_any R base u l hl false true W (hR.below k))
  have HR := hide hR
  rw [hx] at HW
  have hp := List.length_pos_iff.2 hy
  have hy' : (((kinds l false true).length : Int) == 0) = false := by simp; omega
  have HH := hide (hy')
  clear hR A hb hf hx hy hy' hp
  go_enter Try.func24, Try.ntmps24
  go_wp2_with fail
  refine HA.out.mono ?_
  rintro e w2 ⟨rfl, hw2⟩
  subst hw2
  go_wp2_with fail
  refine HW.out.mono ?_
  rintro e wc ⟨rfl, hbc⟩
  have HBC := hide hbc
  clear hbc HW
  go_wp2_with fail
  refine (HT.out _ HBC.out).mono ?_
  rintro e wd ⟨r, rfl, ho, hbd⟩
  obtain ⟨ra, rc, rfl⟩ := owns_slice ho
  have HBD := hide (below_next HBC.out hbd)
  have hn := HH.out
  clear ho hbd HBC HT HH
  generalize (kinds l false true).length = N at *
  have HRc := hide (HR.out.below HBD.out)
  obtain ⟨av, ac, hv⟩ := owns_slice HRc.out.row
  have HZ : Hid (RowO wd av l) := hide (owns_rowO (by have := HRc.out.row; rw [hv] at this; exact this))
  obtain ⟨c0, cf⟩ := HRc.out.cells
  have cf0 := cf 0
  rw [hv] at c0
  have hRl := HRc.out.lt
  obtain ⟨L, hL⟩ : ∃ L, l.length = L := ⟨_, rfl⟩
  rw [hL] at c0 hl
  have HL := hide hL
  have hl0 := lit0O wd
  have hb0 := below1 wd (.cells #[] 61)
  have fin : Hid (∀ a4 c4 w4, Below wd.heap.size wd w4 → w4.ownsRow wd.heap.size 61 3 (.slice a4 (L + 1) c4) (L + 1) (cO (l ++ [⟨t, true, false⟩])) → NowR R base u (l ++ [⟨t, true, false⟩]) w2 (w4.setCell ⟨R, 0, none⟩ (.slice a4 (L + 1) c4))) := hide fun a4 c4 w4 hb4 ho4 =>
    fin_row2 HR.out hbs HBD.out hb4 (by rw [List.length_append, HL.out]; exact ho4)
  clear cf hv hL
  go_wp2_with (at_builtin; refine wpList_append_o _ rfl _ _ rfl wd.heap.size _ 0 [] rfl hl0 av L ac l rfl HL.out (HZ.out.below hb0) (by omega) (by simp) ?_)
  intro a3 c3 w3 ho3 hg3 _
  have hb3 : Below wd.heap.size wd w3 := below_ownO hb0 hl0 hg3
  have hz3 := hb3.size
  have hl1 := ho3.alloc (.cells #[.int .i64 t, .bool true, .bool false] 61)
  have hb5 := hb3.alloc hz3 (.cells #[.int .i64 t, .bool true, .bool false] 61)
  go_wp2_with (at_builtin; refine wpList_append_o _ rfl _ _ rfl wd.heap.size _ L l rfl hl1 (some ⟨w3.heap.size, 0, none⟩) 1 1 [⟨t, true, false⟩] rfl rfl (one_o (by simp) (by simp) (by simp) (by simp)) (by omega) (by simp; omega) ?_)
  intro a4 c4 w4 ho4 hg4 _
  have hb4 : Below wd.heap.size wd w4 := below_ownO hb5 hl1 hg4
  have HF := hide (fin.out a4 c4 w4 hb4 ho4)
  obtain ⟨d0, df⟩ := (HRc.out.below hb4).cells
  have df0 := df 0
  have hRl4 : R < w4.heap.size := Nat.lt_of_lt_of_le hRl hb4.size
  clear hg3 ho3 hg4 ho4 hb3 hz3 hb4 df fin HR HRc HZ hl0 hl1 hb0 hb5 HA c0 cf0 hRl
  go_wp2
  go_ret
  refine ⟨rfl, ?_⟩
  exact HF.out

set_option maxHeartbeats 2000000 in
theorem want_k_tryW (R base : Nat) (u : Value) (l : List Wn) (hl : l.length ≤ 1000) (t : Int) (h1 : ¬ t < 1) (hb : inZ (ts l) t = false) (hx : wrO l = 0) (hy : kinds l false true ≠ []) (w : World) (hR : AtR w R base u l) (hbs : base ≤ w.heap.size) :
    Calls Try.prog 24 #[.pointer (some ⟨R, 0, none⟩), .int .i64 t, .bool true, .bool false] w fun e w' => e = .returned (.int .i64 (wantE l t true false)) ∧ NowR R base u (wantL l t true false) w w' := by
  have hf : freeB l true = false := free_no (Or.inr hy)
  rw [(want_busy h1 hb hf).2.2.1, (want_busy h1 hb hf).2.2.2]
  have A := at_any R base u l hl t w hR
  rw [idx_out hb] at A
  have HA := hide A
  have HW := hide (rwriter_any R base u l hl w hR)
  have HT := hide (fun W (k : Below w.heap.size w W) => tasks_any R base u l hl false true W (hR.below k))
  have HR := hide hR
  rw [hx] at HW
  have hp := List.length_pos_iff.2 hy
  have hy' : (((kinds l false true).length : Int) == 0) = false := by simp; omega
  have HH := hide (hy')
  clear hR A hb hf hx hy hy' hp
  go_enter Try.func24, Try.ntmps24
  go_wp2_with fail
  refine HA.out.mono ?_
  rintro e w2 ⟨rfl, hw2⟩
  subst hw2
  go_wp2_with fail
  refine HW.out.mono ?_
  rintro e wc ⟨rfl, hbc⟩
  have HBC := hide hbc
  clear hbc HW
  go_wp2_with fail
  refine (HT.out _ HBC.out).mono ?_
  rintro e wd ⟨r, rfl, ho, hbd⟩
  obtain ⟨ra, rc, rfl⟩ := owns_slice ho
  have HBD := hide (below_next HBC.out hbd)
  have hn := HH.out
  clear ho hbd HBC HT HH
  generalize (kinds l false true).length = N at *
  go_wp2
  go_ret
  exact ⟨rfl, NowR.same HR.out HBD.out⟩

set_option maxHeartbeats 2000000 in
theorem want_fW (R base : Nat) (u : Value) (l : List Wn) (hl : l.length ≤ 1000) (t : Int) (wt : Bool) (h1 : ¬ t < 1) (hb : inZ (ts l) t = false) (hx : wrO l = 0) (hy : kinds l false true = []) (w : World) (hR : AtR w R base u l) (hbs : base ≤ w.heap.size) :
    Calls Try.prog 24 #[.pointer (some ⟨R, 0, none⟩), .int .i64 t, .bool true, .bool wt] w fun e w' => e = .returned (.int .i64 (wantE l t true wt)) ∧ NowR R base u (wantL l t true wt) w w' := by
  have hf : freeB l true = true := free_yes hx hy
  rw [(want_free h1 hb wt hf).1, (want_free h1 hb wt hf).2]
  have A := at_any R base u l hl t w hR
  rw [idx_out hb] at A
  have HA := hide A
  have HW := hide (rwriter_any R base u l hl w hR)
  have HT := hide (fun W (k : Below w.heap.size w W) => tasks_any R base u l hl false true W (hR.below k))
  have HR := hide hR
  rw [hx] at HW
  have hy' : (kinds l false true).length = 0 := by rw [hy]; rfl
  have HH := hide (hy')
  clear hR A hb hf hx hy hy'
  go_enter Try.func24, Try.ntmps24
  go_wp2_with fail
  refine HA.out.mono ?_
  rintro e w2 ⟨rfl, hw2⟩
  subst hw2
  go_wp2_with fail
  refine HW.out.mono ?_
  rintro e wc ⟨rfl, hbc⟩
  have HBC := hide hbc
  clear hbc HW
  go_wp2_with fail
  refine (HT.out _ HBC.out).mono ?_
  rintro e wd ⟨r, rfl, ho, hbd⟩
  obtain ⟨ra, rc, rfl⟩ := owns_slice ho
  have HBD := hide (below_next HBC.out hbd)
  have hn := HH.out
  clear ho hbd HBC HT HH
  generalize (kinds l false true).length = N at *
  subst hn
  have HRc := hide (HR.out.below HBD.out)
  obtain ⟨av, ac, hv⟩ := owns_slice HRc.out.row
  have HZ : Hid (RowO wd av l) := hide (owns_rowO (by have := HRc.out.row; rw [hv] at this; exact this))
  obtain ⟨c0, cf⟩ := HRc.out.cells
  have cf0 := cf 0
  rw [hv] at c0
  have hRl := HRc.out.lt
  obtain ⟨L, hL⟩ : ∃ L, l.length = L := ⟨_, rfl⟩
  rw [hL] at c0 hl
  have HL := hide hL
  have hl0 := lit0O wd
  have hb0 := below1 wd (.cells #[] 61)
  have fin : Hid (∀ a4 c4 w4, Below wd.heap.size wd w4 → w4.ownsRow wd.heap.size 61 3 (.slice a4 (L + 1) c4) (L + 1) (cO (l ++ [⟨t, true, true⟩])) → NowR R base u (l ++ [⟨t, true, true⟩]) w2 (w4.setCell ⟨R, 0, none⟩ (.slice a4 (L + 1) c4))) := hide fun a4 c4 w4 hb4 ho4 =>
    fin_row2 HR.out hbs HBD.out hb4 (by rw [List.length_append, HL.out]; exact ho4)
  clear cf hv hL
  go_wp2_with (at_builtin; refine wpList_append_o _ rfl _ _ rfl wd.heap.size _ 0 [] rfl hl0 av L ac l rfl HL.out (HZ.out.below hb0) (by omega) (by simp) ?_)
  intro a3 c3 w3 ho3 hg3 _
  have hb3 : Below wd.heap.size wd w3 := below_ownO hb0 hl0 hg3
  have hz3 := hb3.size
  have hl1 := ho3.alloc (.cells #[.int .i64 t, .bool true, .bool true] 61)
  have hb5 := hb3.alloc hz3 (.cells #[.int .i64 t, .bool true, .bool true] 61)
  go_wp2_with (at_builtin; refine wpList_append_o _ rfl _ _ rfl wd.heap.size _ L l rfl hl1 (some ⟨w3.heap.size, 0, none⟩) 1 1 [⟨t, true, true⟩] rfl rfl (one_o (by simp) (by simp) (by simp) (by simp)) (by omega) (by simp; omega) ?_)
  intro a4 c4 w4 ho4 hg4 _
  have hb4 : Below wd.heap.size wd w4 := below_ownO hb5 hl1 hg4
  have HF := hide (fin.out a4 c4 w4 hb4 ho4)
  obtain ⟨d0, df⟩ := (HRc.out.below hb4).cells
  have df0 := df 0
  have hRl4 : R < w4.heap.size := Nat.lt_of_lt_of_le hRl hb4.size
  clear hg3 ho3 hg4 ho4 hb3 hz3 hb4 df fin HR HRc HZ hl0 hl1 hb0 hb5 HA c0 cf0 hRl
  go_wp2
  go_ret
  refine ⟨rfl, ?_⟩
  exact HF.out

set_option maxHeartbeats 2000000 in
theorem want_w_waitR (R base : Nat) (u : Value) (l : List Wn) (hl : l.length ≤ 1000) (t : Int) (h1 : ¬ t < 1) (hb : inZ (ts l) t = false) (hx : wrO l ≠ 0) (w : World) (hR : AtR w R base u l) (hbs : base ≤ w.heap.size) :
    Calls Try.prog 24 #[.pointer (some ⟨R, 0, none⟩), .int .i64 t, .bool false, .bool true] w fun e w' => e = .returned (.int .i64 (wantE l t false true)) ∧ NowR R base u (wantL l t false true) w w' := by
  have hf : freeB l false = false := free_no (Or.inl hx)
  rw [(want_busy h1 hb hf).1, (want_busy h1 hb hf).2.1]
  have A := at_any R base u l hl t w hR
  rw [idx_out hb] at A
  have HA := hide A
  have HW := hide (rwriter_any R base u l hl w hR)
  have HR := hide hR
  have hx' : (wrO l == 0) = false := by simpa using hx
  generalize wrO l = X at *
  clear hR A hb hf hx
  go_enter Try.func24, Try.ntmps24
  go_wp2_with fail
  refine HA.out.mono ?_
  rintro e w2 ⟨rfl, hw2⟩
  subst hw2
  go_wp2_with fail
  refine HW.out.mono ?_
  rintro e wc ⟨rfl, hbc⟩
  have HBD := hide hbc
  clear hbc HW
  have HRc := hide (HR.out.below HBD.out)
  obtain ⟨av, ac, hv⟩ := owns_slice HRc.out.row
  have HZ : Hid (RowO wc av l) := hide (owns_rowO (by have := HRc.out.row; rw [hv] at this; exact this))
  obtain ⟨c0, cf⟩ := HRc.out.cells
  have cf0 := cf 0
  rw [hv] at c0
  have hRl := HRc.out.lt
  obtain ⟨L, hL⟩ : ∃ L, l.length = L := ⟨_, rfl⟩
  rw [hL] at c0 hl
  have HL := hide hL
  have hl0 := lit0O wc
  have hb0 := below1 wc (.cells #[] 61)
  have fin : Hid (∀ a4 c4 w4, Below wc.heap.size wc w4 → w4.ownsRow wc.heap.size 61 3 (.slice a4 (L + 1) c4) (L + 1) (cO (l ++ [⟨t, false, false⟩])) → NowR R base u (l ++ [⟨t, false, false⟩]) w2 (w4.setCell ⟨R, 0, none⟩ (.slice a4 (L + 1) c4))) := hide fun a4 c4 w4 hb4 ho4 =>
    fin_row2 HR.out hbs HBD.out hb4 (by rw [List.length_append, HL.out]; exact ho4)
  clear cf hv hL
  go_wp2_with (at_builtin; refine wpList_append_o _ rfl _ _ rfl wc.heap.size _ 0 [] rfl hl0 av L ac l rfl HL.out (HZ.out.below hb0) (by omega) (by simp) ?_)
  intro a3 c3 w3 ho3 hg3 _
  have hb3 : Below wc.heap.size wc w3 := below_ownO hb0 hl0 hg3
  have hz3 := hb3.size
  have hl1 := ho3.alloc (.cells #[.int .i64 t, .bool false, .bool false] 61)
  have hb5 := hb3.alloc hz3 (.cells #[.int .i64 t, .bool false, .bool false] 61)
  go_wp2_with (at_builtin; refine wpList_append_o _ rfl _ _ rfl wc.heap.size _ L l rfl hl1 (some ⟨w3.heap.size, 0, none⟩) 1 1 [⟨t, false, false⟩] rfl rfl (one_o (by simp) (by simp) (by simp) (by simp)) (by omega) (by simp; omega) ?_)
  intro a4 c4 w4 ho4 hg4 _
  have hb4 : Below wc.heap.size wc w4 := below_ownO hb5 hl1 hg4
  have HF := hide (fin.out a4 c4 w4 hb4 ho4)
  obtain ⟨d0, df⟩ := (HRc.out.below hb4).cells
  have df0 := df 0
  have hRl4 : R < w4.heap.size := Nat.lt_of_lt_of_le hRl hb4.size
  clear hg3 ho3 hg4 ho4 hb3 hz3 hb4 df fin HR HRc HZ hl0 hl1 hb0 hb5 HA c0 cf0 hRl
  go_wp2
  go_ret
  refine ⟨rfl, ?_⟩
  exact HF.out

set_option maxHeartbeats 2000000 in
theorem want_w_tryR (R base : Nat) (u : Value) (l : List Wn) (hl : l.length ≤ 1000) (t : Int) (h1 : ¬ t < 1) (hb : inZ (ts l) t = false) (hx : wrO l ≠ 0) (w : World) (hR : AtR w R base u l) (hbs : base ≤ w.heap.size) :
    Calls Try.prog 24 #[.pointer (some ⟨R, 0, none⟩), .int .i64 t, .bool false, .bool false] w fun e w' => e = .returned (.int .i64 (wantE l t false false)) ∧ NowR R base u (wantL l t false false) w w' := by
  have hf : freeB l false = false := free_no (Or.inl hx)
  rw [(want_busy h1 hb hf).2.2.1, (want_busy h1 hb hf).2.2.2]
  have A := at_any R base u l hl t w hR
  rw [idx_out hb] at A
  have HA := hide A
  have HW := hide (rwriter_any R base u l hl w hR)
  have HR := hide hR
  have hx' : (wrO l == 0) = false := by simpa using hx
  generalize wrO l = X at *
  clear hR A hb hf hx
  go_enter Try.func24, Try.ntmps24
  go_wp2_with fail
  refine HA.out.mono ?_
  rintro e w2 ⟨rfl, hw2⟩
  subst hw2
  go_wp2_with fail
  refine HW.out.mono ?_
  rintro e wc ⟨rfl, hbc⟩
  have HBD := hide hbc
  clear hbc HW
  go_wp2
  go_ret
  exact ⟨rfl, NowR.same HR.out HBD.out⟩

set_option maxHeartbeats 2000000 in
theorem want_k_waitR (R base : Nat) (u : Value) (l : List Wn) (hl : l.length ≤ 1000) (t : Int) (h1 : ¬ t < 1) (hb : inZ (ts l) t = false) (hx : wrO l = 0) (hy : kinds l true false ≠ []) (w : World) (hR : AtR w R base u l) (hbs : base ≤ w.heap.size) :
    Calls Try.prog 24 #[.pointer (some ⟨R, 0, none⟩), .int .i64 t, .bool false, .bool true] w fun e w' => e = .returned (.int .i64 (wantE l t false true)) ∧ NowR R base u (wantL l t false true) w w' := by
  have hf : freeB l false = false := free_no (Or.inr hy)
  rw [(want_busy h1 hb hf).1, (want_busy h1 hb hf).2.1]
  have A := at_any R base u l hl t w hR
  rw [idx_out hb] at A
  have HA := hide A
  have HW := hide (rwriter_any R base u l hl w hR)
  have HT := hide (fun W (k : Below w.heap.size w W) => tasks_any R base u l hl true false W (hR.below k))
  have HR := hide hR
  rw [hx] at HW
  have hp := List.length_pos_iff.2 hy
  have hy' : (((kinds l true false).length : Int) == 0) = false := by simp; omega
  have HH := hide (hy')
  clear hR A hb hf hx hy hy' hp
  go_enter Try.func24, Try.ntmps24
  go_wp2_with fail
  refine HA.out.mono ?_
  rintro e w2 ⟨rfl, hw2⟩
  subst hw2
  go_wp2_with fail
  refine HW.out.mono ?_
  rintro e wc ⟨rfl, hbc⟩
  have HBC := hide hbc
  clear hbc HW
  go_wp2_with fail
  refine (HT.out _ HBC.out).mono ?_
  rintro e wd ⟨r, rfl, ho, hbd⟩
  obtain ⟨ra, rc, rfl⟩ := owns_slice ho
  have HBD := hide (below_next HBC.out hbd)
  have hn := HH.out
  clear ho hbd HBC HT HH
  generalize (kinds l true false).length = N at *
  have HRc := hide (HR.out.below HBD.out)
  obtain ⟨av, ac, hv⟩ := owns_slice HRc.out.row
  have HZ : Hid (RowO wd av l) := hide (owns_rowO (by have := HRc.out.row; rw [hv] at this; exact this))
  obtain ⟨c0, cf⟩ := HRc.out.cells
  have cf0 := cf 0
  rw [hv] at c0
  have hRl := HRc.out.lt
  obtain ⟨L, hL⟩ : ∃ L, l.length = L := ⟨_, rfl⟩
  rw [hL] at c0 hl
  have HL := hide hL
  have hl0 := lit0O wd
  have hb0 := below1 wd (.cells #[] 61)
  have fin : Hid (∀ a4 c4 w4, Below wd.heap.size wd w4 → w4.ownsRow wd.heap.size 61 3 (.slice a4 (L + 1) c4) (L + 1) (cO (l ++ [⟨t, false, false⟩])) → NowR R base u (l ++ [⟨t, false, false⟩]) w2 (w4.setCell ⟨R, 0, none⟩ (.slice a4 (L + 1) c4))) := hide fun a4 c4 w4 hb4 ho4 =>
    fin_row2 HR.out hbs HBD.out hb4 (by rw [List.length_append, HL.out]; exact ho4)
  clear cf hv hL
  go_wp2_with (at_builtin; refine wpList_append_o _ rfl _ _ rfl wd.heap.size _ 0 [] rfl hl0 av L ac l rfl HL.out (HZ.out.below hb0) (by omega) (by simp) ?_)
  intro a3 c3 w3 ho3 hg3 _
  have hb3 : Below wd.heap.size wd w3 := below_ownO hb0 hl0 hg3
  have hz3 := hb3.size
  have hl1 := ho3.alloc (.cells #[.int .i64 t, .bool false, .bool false] 61)
  have hb5 := hb3.alloc hz3 (.cells #[.int .i64 t, .bool false, .bool false] 61)
  go_wp2_with (at_builtin; refine wpList_append_o _ rfl _ _ rfl wd.heap.size _ L l rfl hl1 (some ⟨w3.heap.size, 0, none⟩) 1 1 [⟨t, false, false⟩] rfl rfl (one_o (by simp) (by simp) (by simp) (by simp)) (by omega) (by simp; omega) ?_)
  intro a4 c4 w4 ho4 hg4 _
  have hb4 : Below wd.heap.size wd w4 := below_ownO hb5 hl1 hg4
  have HF := hide (fin.out a4 c4 w4 hb4 ho4)
  obtain ⟨d0, df⟩ := (HRc.out.below hb4).cells
  have df0 := df 0
  have hRl4 : R < w4.heap.size := Nat.lt_of_lt_of_le hRl hb4.size
  clear hg3 ho3 hg4 ho4 hb3 hz3 hb4 df fin HR HRc HZ hl0 hl1 hb0 hb5 HA c0 cf0 hRl
  go_wp2
  go_ret
  refine ⟨rfl, ?_⟩
  exact HF.out

set_option maxHeartbeats 2000000 in
theorem want_k_tryR (R base : Nat) (u : Value) (l : List Wn) (hl : l.length ≤ 1000) (t : Int) (h1 : ¬ t < 1) (hb : inZ (ts l) t = false) (hx : wrO l = 0) (hy : kinds l true false ≠ []) (w : World) (hR : AtR w R base u l) (hbs : base ≤ w.heap.size) :
    Calls Try.prog 24 #[.pointer (some ⟨R, 0, none⟩), .int .i64 t, .bool false, .bool false] w fun e w' => e = .returned (.int .i64 (wantE l t false false)) ∧ NowR R base u (wantL l t false false) w w' := by
  have hf : freeB l false = false := free_no (Or.inr hy)
  rw [(want_busy h1 hb hf).2.2.1, (want_busy h1 hb hf).2.2.2]
  have A := at_any R base u l hl t w hR
  rw [idx_out hb] at A
  have HA := hide A
  have HW := hide (rwriter_any R base u l hl w hR)
  have HT := hide (fun W (k : Below w.heap.size w W) => tasks_any R base u l hl true false W (hR.below k))
  have HR := hide hR
  rw [hx] at HW
  have hp := List.length_pos_iff.2 hy
  have hy' : (((kinds l true false).length : Int) == 0) = false := by simp; omega
  have HH := hide (hy')
  clear hR A hb hf hx hy hy' hp
  go_enter Try.func24, Try.ntmps24
  go_wp2_with fail
  refine HA.out.mono ?_
  rintro e w2 ⟨rfl, hw2⟩
  subst hw2
  go_wp2_with fail
  refine HW.out.mono ?_
  rintro e wc ⟨rfl, hbc⟩
  have HBC := hide hbc
  clear hbc HW
  go_wp2_with fail
  refine (HT.out _ HBC.out).mono ?_
  rintro e wd ⟨r, rfl, ho, hbd⟩
  obtain ⟨ra, rc, rfl⟩ := owns_slice ho
  have HBD := hide (below_next HBC.out hbd)
  have hn := HH.out
  clear ho hbd HBC HT HH
  generalize (kinds l true false).length = N at *
  go_wp2
  go_ret
  exact ⟨rfl, NowR.same HR.out HBD.out⟩

set_option maxHeartbeats 2000000 in
theorem want_fR (R base : Nat) (u : Value) (l : List Wn) (hl : l.length ≤ 1000) (t : Int) (wt : Bool) (h1 : ¬ t < 1) (hb : inZ (ts l) t = false) (hx : wrO l = 0) (hy : kinds l true false = []) (w : World) (hR : AtR w R base u l) (hbs : base ≤ w.heap.size) :
    Calls Try.prog 24 #[.pointer (some ⟨R, 0, none⟩), .int .i64 t, .bool false, .bool wt] w fun e w' => e = .returned (.int .i64 (wantE l t false wt)) ∧ NowR R base u (wantL l t false wt) w w' := by
  have hf : freeB l false = true := free_yes hx hy
  rw [(want_free h1 hb wt hf).1, (want_free h1 hb wt hf).2]
  have A := at_any R base u l hl t w hR
  rw [idx_out hb] at A
  have HA := hide A
  have HW := hide (rwriter_any R base u l hl w hR)
  have HT := hide (fun W (k : Below w.heap.size w W) => tasks_any R base u l hl true false W (hR.below k))
  have HR := hide hR
  rw [hx] at HW
  have hy' : (kinds l true false).length = 0 := by rw [hy]; rfl
  have HH := hide (hy')
  clear hR A hb hf hx hy hy'
  go_enter Try.func24, Try.ntmps24
  go_wp2_with fail
  refine HA.out.mono ?_
  rintro e w2 ⟨rfl, hw2⟩
  subst hw2
  go_wp2_with fail
  refine HW.out.mono ?_
  rintro e wc ⟨rfl, hbc⟩
  have HBC := hide hbc
  clear hbc HW
  go_wp2_with fail
  refine (HT.out _ HBC.out).mono ?_
  rintro e wd ⟨r, rfl, ho, hbd⟩
  obtain ⟨ra, rc, rfl⟩ := owns_slice ho
  have HBD := hide (below_next HBC.out hbd)
  have hn := HH.out
  clear ho hbd HBC HT HH
  generalize (kinds l true false).length = N at *
  subst hn
  have HRc := hide (HR.out.below HBD.out)
  obtain ⟨av, ac, hv⟩ := owns_slice HRc.out.row
  have HZ : Hid (RowO wd av l) := hide (owns_rowO (by have := HRc.out.row; rw [hv] at this; exact this))
  obtain ⟨c0, cf⟩ := HRc.out.cells
  have cf0 := cf 0
  rw [hv] at c0
  have hRl := HRc.out.lt
  obtain ⟨L, hL⟩ : ∃ L, l.length = L := ⟨_, rfl⟩
  rw [hL] at c0 hl
  have HL := hide hL
  have hl0 := lit0O wd
  have hb0 := below1 wd (.cells #[] 61)
  have fin : Hid (∀ a4 c4 w4, Below wd.heap.size wd w4 → w4.ownsRow wd.heap.size 61 3 (.slice a4 (L + 1) c4) (L + 1) (cO (l ++ [⟨t, false, true⟩])) → NowR R base u (l ++ [⟨t, false, true⟩]) w2 (w4.setCell ⟨R, 0, none⟩ (.slice a4 (L + 1) c4))) := hide fun a4 c4 w4 hb4 ho4 =>
    fin_row2 HR.out hbs HBD.out hb4 (by rw [List.length_append, HL.out]; exact ho4)
  clear cf hv hL
  go_wp2_with (at_builtin; refine wpList_append_o _ rfl _ _ rfl wd.heap.size _ 0 [] rfl hl0 av L ac l rfl HL.out (HZ.out.below hb0) (by omega) (by simp) ?_)
  intro a3 c3 w3 ho3 hg3 _
  have hb3 : Below wd.heap.size wd w3 := below_ownO hb0 hl0 hg3
  have hz3 := hb3.size
  have hl1 := ho3.alloc (.cells #[.int .i64 t, .bool false, .bool true] 61)
  have hb5 := hb3.alloc hz3 (.cells #[.int .i64 t, .bool false, .bool true] 61)
  go_wp2_with (at_builtin; refine wpList_append_o _ rfl _ _ rfl wd.heap.size _ L l rfl hl1 (some ⟨w3.heap.size, 0, none⟩) 1 1 [⟨t, false, true⟩] rfl rfl (one_o (by simp) (by simp) (by simp) (by simp)) (by omega) (by simp; omega) ?_)
  intro a4 c4 w4 ho4 hg4 _
  have hb4 : Below wd.heap.size wd w4 := below_ownO hb5 hl1 hg4
  have HF := hide (fin.out a4 c4 w4 hb4 ho4)
  obtain ⟨d0, df⟩ := (HRc.out.below hb4).cells
  have df0 := df 0
  have hRl4 : R < w4.heap.size := Nat.lt_of_lt_of_le hRl hb4.size
  clear hg3 ho3 hg4 ho4 hb3 hz3 hb4 df fin HR HRc HZ hl0 hl1 hb0 hb5 HA c0 cf0 hRl
  go_wp2
  go_ret
  refine ⟨rfl, ?_⟩
  exact HF.out

theorem want_any (R base : Nat) (u : Value) (l : List Wn) (hl : l.length ≤ 1000) (t : Int) (b wt : Bool) (w : World) (hR : AtR w R base u l) (hbs : base ≤ w.heap.size) :
    Calls Try.prog 24 #[.pointer (some ⟨R, 0, none⟩), .int .i64 t, .bool b, .bool wt] w fun e w' => e = .returned (.int .i64 (wantE l t b wt)) ∧ NowR R base u (wantL l t b wt) w w' := by
  by_cases h1 : t < 1
  · exact want_little R base u l t b wt h1 w hR
  · cases hb : inZ (ts l) t
    · by_cases hx : wrO l = 0
      · cases b
        · by_cases hy : kinds l true false = []
          · exact want_fR R base u l hl t wt h1 hb hx hy w hR hbs
          · cases wt
            · exact want_k_tryR R base u l hl t h1 hb hx hy w hR hbs
            · exact want_k_waitR R base u l hl t h1 hb hx hy w hR hbs
        · by_cases hy : kinds l false true = []
          · exact want_fW R base u l hl t wt h1 hb hx hy w hR hbs
          · cases wt
            · exact want_k_tryW R base u l hl t h1 hb hx hy w hR hbs
            · exact want_k_waitW R base u l hl t h1 hb hx hy w hR hbs
      · cases b
        · cases wt
          · exact want_w_tryR R base u l hl t h1 hb hx w hR hbs
          · exact want_w_waitR R base u l hl t h1 hb hx w hR hbs
        · cases wt
          · exact want_w_tryW R base u l hl t h1 hb hx w hR hbs
          · exact want_w_waitW R base u l hl t h1 hb hx w hR hbs
    · exact want_twice R base u l hl t b wt h1 hb w hR

end Go.Proofs.Ytggfndokmdpaeaa
