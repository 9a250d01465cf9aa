/-
  What the document's Drop comes to.
-/
import Derived.Test.YtgfkleaekaggoaaRefAdd
import Derived.Test.YtgfkleaekaggoaaLast
namespace Go.Proofs.Ytgfkleaekaggoaa
open Go.RowKit

theorem left_of {A R : Prop} (h : A ∧ R) : A := h.1
theorem own_zero {w : World} {base m : Nat} {a : Option Addr} {c : Nat} {ys : List Int} (h : w.ownsRow base 3 1 (.slice a (0 + m) c) (0 + m) (cZ ([] ++ ys))) : w.ownsRow base 3 1 (.slice a m c) m (cZ ys) := by
  rw [Nat.zero_add, List.nil_append] at h
  exact h
theorem rm_at {l : List Int} (h : Okz l) {t : Int} {k : Nat} (h2 : k < l.length) (h3 : gz l k = t) : rmZ l t = l.take k ++ l.drop (k + 1) := by
  rw [rm_erase h.nd h2 h3, List.eraseIdx_eq_take_drop_succ]

theorem step_copy_z (w : World) {ops : Array Oper} {o : Oper} {a : Act} {K : Act → World → Prop} {Q : Exit → Act → World → Prop} {E : Prop} (hgd : o.guard = none) (s x : Operand)
    (ho : o.op = .call { callee := .builtin .append, args := #[s, x], argTypes := #[26, 26] })
    (base : Nat) (v : Value) (hs : a.eval s = v) (hown : w.ownsRow base 3 1 v 0 (cZ []))
    (b : Option Addr) (m c : Nat) (ys : List Int) (hx : a.eval x = .slice b m c) (hm : ys.length = m) (hz : RowZ w b ys)
    (h63 : m ≤ 100000) (hbase : base ≤ w.heap.size)
    (h : ∀ ad' cap' w', w'.ownsRow base 3 1 (.slice ad' m cap') m (cZ ys) → w.grownBy w' v.ownBlock → K (a.put o.dst (.slice ad' m cap')) w') :
    if Region.wanted o (yielded ops a.tmps) = true then Oper.wp Try.prog o a w K Q else E := by
  refine step_append_z w hgd s x ho base v 0 [] hs hown b m c ys hx hm hz (by omega) hbase ?_
  intro ad' cap' w' h2 h3
  simp only [Nat.zero_add, List.nil_append] at h2 ⊢
  exact h ad' cap' w' h2 h3
theorem take_z {w : World} {g off : Nat} {l : List Int} (h : RowZ w (some ⟨g, off, none⟩) l) (hn : 0 < l.length) (k : Nat) : RowZ w (some ⟨g, off, none⟩) (l.take k) := fun _ => by
  obtain ⟨g', o', e, h2, h3⟩ := h (List.length_pos_iff.1 hn)
  cases e
  refine ⟨g, off, rfl, h2, fun j hj => ?_⟩
  rw [List.length_take] at hj
  rw [h3 j (by omega)]
  congr 2
  unfold gz
  rw [List.getD_eq_getElem?_getD, List.getD_eq_getElem?_getD, List.getElem?_take, if_pos (by omega)]
theorem drop_z {w : World} {g off : Nat} {l : List Int} (h : RowZ w (some ⟨g, off, none⟩) l) (hn : 0 < l.length) (k : Nat) : RowZ w (some ⟨g, off + k, none⟩) (l.drop k) := fun _ => by
  obtain ⟨g', o', e, h2, h3⟩ := h (List.length_pos_iff.1 hn)
  cases e
  refine ⟨g, off + k, rfl, h2, fun j hj => ?_⟩
  rw [List.length_drop] at hj
  rw [Nat.add_assoc, h3 (k + j) (by omega)]
  congr 2
  unfold gz
  rw [List.getD_eq_getElem?_getD, List.getD_eq_getElem?_getD, List.getElem?_drop]

set_option maxHeartbeats 4000000 in
set_option linter.unusedSimpArgs false in
theorem refDrop_last (R base g k : Nat) (o c : Int) (l : List Int) (hl : (k + 1) ≤ 1000) (t : Int) (_hk : k < (k + 1)) (hL : Hid (l.length = (k + 1))) (hA : Hid (idxZ l t = (k : Int))) (_hac : (k + 1) ≤ (k + 1)) (_hmx : (k + 1) ≤ 9223372036854775807) (w : World)
    (hR : AtR w R base (.slice (some ⟨g, 0, none⟩) (k + 1) (k + 1)) o c l) (hbs : base ≤ w.heap.size) :
    Calls Try.prog 10 #[.pointer (some ⟨R, 0, none⟩), .int .i64 t] w fun e w' => e = .returned (.bool true) ∧ NowR R base (.slice (some ⟨g, 0, none⟩) (k + 1) (k + 1)) o c (l.take k ++ l.drop (k + 1)) w w' := by
  have A := at_any R base _ o c l (by rw [hL.out]; exact hl) t w hR
  rw [hA.out] at A
  have HA := hide A
  have HR := hide hR
  have hk0 : ¬ ((k : Int) < 0) := by omega
  have hrow := hR.row
  have hZ := hide (owns_rowZ (a := some ⟨g, 0, none⟩) (c := (k + 1)) (l := l) (by rw [hL.out] at hrow ⊢; exact hrow))
  have hRl := hR.lt
  have hLn := hL.out
  have HT : Hid ((l.take k).length = k) := by show _ = _; rw [List.length_take]; omega
  have HD : Hid ((l.drop (k + 1)).length = 0) := by show _ = _; rw [List.length_drop]; omega
  have HF0 : Hid ((l.take k ++ l.drop (k + 1)).length = k + (0)) := by show _ = _; rw [List.length_append, HT.out, HD.out]
  clear A hR hLn hrow
  go_enter Try.func10, Try.ntmps10
  go_wp2_with fail
  refine HA.out.mono ?_
  rintro e wr ⟨rfl, hwr⟩
  subst hwr
  go_wp2_with fail
  clear HA
  have q1 : IntKind.i64.wrap ((k : Int) + 1) = (k : Int) + 1 := wrapB (by omega)
  have q2 : ((k : Int) + 1).toNat = k + 1 := by omega
  have q3 : (k : Int) ≤ (((k + 1) : Nat) : Int) := by omega
  have q4 : (k : Int) + 1 ≤ (((k + 1) : Nat) : Int) := by omega
  have q5 : (0 : Int) ≤ (k : Int) + 1 := by omega
  have q6 : (k : Int) ≤ (k : Int) + 1 := by omega
  have HS : Hid (∀ W', Below wr.heap.size wr W' → Below wr.heap.size wr W' ∧ W'.cell? ⟨R, 2, none⟩ = some (.slice (some ⟨g, 0, none⟩) (k + 1) (k + 1))) := hide fun W' q => ⟨q, (HR.out.below q).cells.2.2.1⟩
  have HZ1 : Hid (RowZ wr (some ⟨g, 0, none⟩) (l.take k)) := hide (take_z hZ.out (by rw [hL.out]; omega) k)
  have HZ2 : Hid (RowZ wr (some ⟨g, 0, none⟩) (l.drop (k + 1))) := fun hn => absurd (List.length_eq_zero_iff.1 HD.out) hn
  have E1 := hide (lit0 wr).drew
  have fin : Hid (∀ a4 c4 w4, Below wr.heap.size wr w4 → w4.ownsRow wr.heap.size 3 1 (.slice a4 (k + (0)) c4) (k + (0)) (cZ (l.take k ++ l.drop (k + 1))) → NowR R base (.slice (some ⟨g, 0, none⟩) (k + 1) (k + 1)) o c (l.take k ++ l.drop (k + 1)) wr (w4.setCell ⟨R, 2, none⟩ (.slice a4 (k + (0)) c4))) := hide fun a4 c4 w4 hb4 ho4 =>
    fin_row HR.out hbs hb4 (by rw [HF0.out]; exact ho4)
  refine wp_region_noPanic ?_
  refine wp_region_last_drew (L := 19) (S := fun w' => Below wr.heap.size wr w' ∧ w'.cell? ⟨R, 2, none⟩ = some (.slice (some ⟨g, 0, none⟩) (k + 1) (k + 1))) (by kernel_rfl) ?_ (fun hHeld => ?_)
  · exact HS.out _ (Below.refl _ _).drew
  refine wpAnyL_take (i := 0) (v := ?_) rfl (by kernel_rfl) (by kernel_rfl) (by kernel_rfl) (by kernel_rfl) (fun _ _ _ h => h) (Or.inl ⟨by rfl, ?_⟩) (by first | trivial | assumption) ?_
  rotate_left 1
  · (intro w hSw; (try dsimp only at hSw); go_simp; all_goals with_reducible rfl)
  try simp only [Act.put, List.setIfInBounds_toArray, List.set_cons_zero, List.set_cons_succ]
  refine wpAnyL_take (i := 2) (v := ?_) rfl (by kernel_rfl) (by kernel_rfl) (by kernel_rfl) (by kernel_rfl) (fun _ _ _ h => h) (Or.inl ⟨by rfl, ?_⟩) (by first | trivial | assumption) ?_
  rotate_left 1
  · (intro w hSw; (try dsimp only at hSw); go_simp; all_goals with_reducible rfl)
  try simp only [Act.put, List.setIfInBounds_toArray, List.set_cons_zero, List.set_cons_succ]
  refine wpAnyL_take (i := 3) (v := ?_) rfl (by kernel_rfl) (by kernel_rfl) (by kernel_rfl) (by kernel_rfl) (fun _ _ _ h => h) (Or.inl ⟨by rfl, ?_⟩) (by first | trivial | assumption) ?_
  rotate_left 1
  · (intro w hSw; (try dsimp only at hSw); go_simp; all_goals with_reducible rfl)
  try simp only [Act.put, List.setIfInBounds_toArray, List.set_cons_zero, List.set_cons_succ]
  refine wpAnyL_take (i := 4) (v := ?_) rfl (by kernel_rfl) (by kernel_rfl) (by kernel_rfl) (by kernel_rfl) (fun _ _ _ h => h) (Or.inl ⟨by rfl, ?_⟩) (by first | trivial | assumption) ?_
  rotate_left 1
  · (intro w hSw; (try dsimp only at hSw); go_simp; all_goals with_reducible rfl)
  try simp only [Act.put, List.setIfInBounds_toArray, List.set_cons_zero, List.set_cons_succ]
  refine wpAnyL_take (i := 5) (v := ?_) rfl (by kernel_rfl) (by kernel_rfl) (by kernel_rfl) (by kernel_rfl) (fun _ _ _ h => h) (Or.inl ⟨by rfl, ?_⟩) (by first | trivial | assumption) ?_
  rotate_left 1
  · (intro w hSw; (try dsimp only at hSw); go_simp; all_goals with_reducible rfl)
  try simp only [Act.put, List.setIfInBounds_toArray, List.set_cons_zero, List.set_cons_succ]
  refine wpAnyL_take (i := 6) (v := ?_) rfl (by kernel_rfl) (by kernel_rfl) (by kernel_rfl) (by kernel_rfl) (fun _ _ _ h => h) (Or.inl ⟨by rfl, ?_⟩) (by first | trivial | assumption) ?_
  rotate_left 1
  · (intro w hSw; (try dsimp only at hSw); go_simp; all_goals with_reducible rfl)
  try simp only [Act.put, List.setIfInBounds_toArray, List.set_cons_zero, List.set_cons_succ]
  refine wpAnyL_take (i := 7) (v := ?_) rfl (by kernel_rfl) (by kernel_rfl) (by kernel_rfl) (by kernel_rfl) (fun _ _ _ h => h) (Or.inl ⟨by rfl, ?_⟩) (by first | trivial | assumption) ?_
  rotate_left 1
  · (intro w hSw; (try dsimp only at hSw); go_simp; all_goals with_reducible rfl)
  try simp only [Act.put, List.setIfInBounds_toArray, List.set_cons_zero, List.set_cons_succ]
  refine wpAnyL_take (i := 9) (v := ?_) rfl (by kernel_rfl) (by kernel_rfl) (by kernel_rfl) (by kernel_rfl) (fun _ _ _ h => h) (Or.inl ⟨by rfl, ?_⟩) (by first | trivial | assumption) ?_
  rotate_left 1
  · (intro w hSw; (try dsimp only at hSw); go_simp; all_goals with_reducible rfl)
  try simp only [Act.put, List.setIfInBounds_toArray, List.set_cons_zero, List.set_cons_succ]
  refine wpAnyL_take (i := 10) (v := ?_) rfl (by kernel_rfl) (by kernel_rfl) (by kernel_rfl) (by kernel_rfl) (fun _ _ _ h => h) (Or.inl ⟨by rfl, ?_⟩) (by first | trivial | assumption) ?_
  rotate_left 1
  · (intro w hSw; (try dsimp only at hSw); go_simp; all_goals with_reducible rfl)
  try simp only [Act.put, List.setIfInBounds_toArray, List.set_cons_zero, List.set_cons_succ]
  refine wpAnyL_take (i := 11) (v := ?_) rfl (by kernel_rfl) (by kernel_rfl) (by kernel_rfl) (by kernel_rfl) (fun _ _ _ h => h) (Or.inl ⟨by rfl, ?_⟩) (by first | trivial | assumption) ?_
  rotate_left 1
  · (intro w hSw; (try dsimp only at hSw); go_simp; all_goals with_reducible rfl)
  try simp only [Act.put, List.setIfInBounds_toArray, List.set_cons_zero, List.set_cons_succ]
  refine wpAnyL_take (i := 12) (v := ?_) rfl (by kernel_rfl) (by kernel_rfl) (by kernel_rfl) (by kernel_rfl) (fun _ _ _ h => h) (Or.inl ⟨by rfl, ?_⟩) (by first | trivial | assumption) ?_
  rotate_left 1
  · (intro w hSw; (try dsimp only at hSw); go_simp; all_goals with_reducible rfl)
  try simp only [Act.put, List.setIfInBounds_toArray, List.set_cons_zero, List.set_cons_succ]
  refine wpAnyL_take (i := 13) (v := ?_) rfl (by kernel_rfl) (by kernel_rfl) (by kernel_rfl) (by kernel_rfl) (fun _ _ _ h => h) (Or.inl ⟨by rfl, ?_⟩) (by first | trivial | assumption) ?_
  rotate_left 1
  · (intro w hSw; (try dsimp only at hSw); go_simp; all_goals with_reducible rfl)
  try simp only [Act.put, List.setIfInBounds_toArray, List.set_cons_zero, List.set_cons_succ]
  refine wpAnyL_take (i := 14) (v := ?_) rfl (by kernel_rfl) (by kernel_rfl) (by kernel_rfl) (by kernel_rfl) (fun _ _ _ h => h) (Or.inl ⟨by rfl, ?_⟩) (by first | trivial | assumption) ?_
  rotate_left 1
  · (intro w hSw; (try dsimp only at hSw); go_simp; all_goals with_reducible rfl)
  try simp only [Act.put, List.setIfInBounds_toArray, List.set_cons_zero, List.set_cons_succ]
  refine wpAnyL_take (i := 15) (v := ?_) rfl (by kernel_rfl) (by kernel_rfl) (by kernel_rfl) (by kernel_rfl) (fun _ _ _ h => h) (Or.inl ⟨by rfl, ?_⟩) (by first | trivial | assumption) ?_
  rotate_left 1
  · (intro w hSw; (try dsimp only at hSw); go_simp; all_goals with_reducible rfl)
  try simp only [Act.put, List.setIfInBounds_toArray, List.set_cons_zero, List.set_cons_succ]
  refine wpAnyL_ready (rs := [1]) (by kernel_rfl) (by simp) ?_
  refine AllReadyL.cons rfl (fun K hK => ?_) ?_
  · go_simp
    refine hK.out _ _ ?_ (fun hHeld => ?_)
    · (first | assumption | exact HS.out _ hB6 | exact HS.out _ hB5 | (refine HS.out _ ?_; repeat (first | assumption | exact Below.refl _ _ | refine Below.alloc ?_ (by first | omega | (simp <;> omega)) _ | refine Below.drew ?_)))
    clear hK K
    try simp only [Act.put, List.setIfInBounds_toArray, List.set_cons_zero, List.set_cons_succ]
    refine wpAnyL_ready (rs := [8]) (by kernel_rfl) (by simp) ?_
    refine AllReadyL.cons rfl (fun K hK => ?_) ?_
    · (refine step_copy_z _ (by rfl) _ _ (by rfl) wr.heap.size _ (by rfl) E1.out (some ⟨g, 0, none⟩) k (k + 1) (l.take k) (by rfl) HT.out (HZ1.out.below (left_of hHeld)) (by omega) (by simp) ?_; intro a5 c5 w5 hown5 hgrow5; have hB5 : Below wr.heap.size wr w5 := below_own (left_of hHeld) E1.out hgrow5; have hz5 := hB5.size)
      refine hK.out _ _ ?_ (fun hHeld => ?_)
      · (first | assumption | exact HS.out _ hB6 | exact HS.out _ hB5 | (refine HS.out _ ?_; repeat (first | assumption | exact Below.refl _ _ | refine Below.alloc ?_ (by first | omega | (simp <;> omega)) _ | refine Below.drew ?_)))
      clear hK K
      try simp only [Act.put, List.setIfInBounds_toArray, List.set_cons_zero, List.set_cons_succ]
      refine wpAnyL_ready (rs := [16]) (by kernel_rfl) (by simp) ?_
      refine AllReadyL.cons rfl (fun K hK => ?_) ?_
      · (refine step_append_z _ (by rfl) _ _ (by rfl) wr.heap.size _ k (l.take k) (by rfl) hown5 (some ⟨g, 0, none⟩) (0) (0) (l.drop (k + 1)) (by rfl) HD.out (HZ2.out.below hB5) (by omega) (by exact hz5) ?_; intro a6 c6 w6 hown6 hgrow6; have hB6 : Below wr.heap.size wr w6 := below_own hB5 hown5 hgrow6; obtain ⟨_, _, rc6, rf6'⟩ := (HR.out.below hB6).cells; have rf6 := rf6' 2; have hRl6 : R < w6.heap.size := Nat.lt_of_lt_of_le hRl hB6.size; clear rf6')
        refine hK.out _ _ ?_ (fun hHeld => ?_)
        · (first | assumption | exact HS.out _ hB6 | exact HS.out _ hB5 | (refine HS.out _ ?_; repeat (first | assumption | exact Below.refl _ _ | refine Below.alloc ?_ (by first | omega | (simp <;> omega)) _ | refine Below.drew ?_)))
        clear hK K
        try simp only [Act.put, List.setIfInBounds_toArray, List.set_cons_zero, List.set_cons_succ]
        refine wpAnyL_ready (rs := [17]) (by kernel_rfl) (by simp) ?_
        refine AllReadyL.cons rfl (fun K hK => ?_) ?_
        · go_simp
          refine hK.out _ _ ?_ (fun hHeld => ?_)
          · (first | assumption | exact HS.out _ hB6 | exact HS.out _ hB5 | (refine HS.out _ ?_; repeat (first | assumption | exact Below.refl _ _ | refine Below.alloc ?_ (by first | omega | (simp <;> omega)) _ | refine Below.drew ?_)))
          clear hK K
          try simp only [Act.put, List.setIfInBounds_toArray, List.set_cons_zero, List.set_cons_succ]
          refine wpAnyL_take (i := 18) (v := ?_) rfl (by kernel_rfl) (by kernel_rfl) (by kernel_rfl) (by kernel_rfl) (fun _ _ _ h => h) (Or.inl ⟨by rfl, ?_⟩) (by first | trivial | assumption) ?_
          rotate_left 1
          · (intro w hSw; (try dsimp only at hSw); go_simp; all_goals with_reducible rfl)
          try simp only [Act.put, List.setIfInBounds_toArray, List.set_cons_zero, List.set_cons_succ]
          refine wpAnyL_ready (rs := [19]) (by kernel_rfl) (by simp) ?_
          refine AllReadyL.last rfl (fun K hK => ?_)
          go_simp
          refine hK.out _ _ ?_
          clear hK K
          try simp only [Act.put, List.setIfInBounds_toArray, List.set_cons_zero, List.set_cons_succ]
          refine wpAnyL_done (by kernel_rfl) ?_ _
          (refine NoPanic.normal ?_; (have HF := hide (fin.out _ _ _ hB6 hown6)); clear hown5 hgrow5 hown6 hgrow6 hB5 hB6 hz5 rc6 rf6 hHeld E1; go_wp2; go_ret; exact ⟨rfl, HF.out⟩)
        exact AllReadyL.nil
      exact AllReadyL.nil
    exact AllReadyL.nil
  exact AllReadyL.nil

set_option maxHeartbeats 4000000 in
set_option linter.unusedSimpArgs false in
theorem refDrop_mid (R base g ac L k : Nat) (hne : ac ≠ k + 1) (o c : Int) (l : List Int) (hl : L ≤ 1000) (t : Int) (hk : k < L) (hL : Hid (l.length = L)) (hA : Hid (idxZ l t = (k : Int))) (hac : L ≤ ac) (hmx : ac ≤ 9223372036854775807) (w : World)
    (hR : AtR w R base (.slice (some ⟨g, 0, none⟩) L ac) o c l) (hbs : base ≤ w.heap.size) :
    Calls Try.prog 10 #[.pointer (some ⟨R, 0, none⟩), .int .i64 t] w fun e w' => e = .returned (.bool true) ∧ NowR R base (.slice (some ⟨g, 0, none⟩) L ac) o c (l.take k ++ l.drop (k + 1)) w w' := by
  have A := at_any R base _ o c l (by rw [hL.out]; exact hl) t w hR
  rw [hA.out] at A
  have HA := hide A
  have HR := hide hR
  have hk0 : ¬ ((k : Int) < 0) := by omega
  have hrow := hR.row
  have hZ := hide (owns_rowZ (a := some ⟨g, 0, none⟩) (c := ac) (l := l) (by rw [hL.out] at hrow ⊢; exact hrow))
  have hRl := hR.lt
  have hLn := hL.out
  have HT : Hid ((l.take k).length = k) := by show _ = _; rw [List.length_take]; omega
  have HD : Hid ((l.drop (k + 1)).length = L - (k + 1)) := by show _ = _; rw [List.length_drop]; omega
  have HF0 : Hid ((l.take k ++ l.drop (k + 1)).length = k + (L - (k + 1))) := by show _ = _; rw [List.length_append, HT.out, HD.out]
  clear A hR hLn hrow
  go_enter Try.func10, Try.ntmps10
  go_wp2_with fail
  refine HA.out.mono ?_
  rintro e wr ⟨rfl, hwr⟩
  subst hwr
  go_wp2_with fail
  clear HA
  have q1 : IntKind.i64.wrap ((k : Int) + 1) = (k : Int) + 1 := wrapB (by omega)
  have q2 : ((k : Int) + 1).toNat = k + 1 := by omega
  have q3 : (k : Int) ≤ ((ac : Nat) : Int) := by omega
  have q4 : (k : Int) + 1 ≤ ((L : Nat) : Int) := by omega
  have q5 : (0 : Int) ≤ (k : Int) + 1 := by omega
  have q6 : (k : Int) ≤ (k : Int) + 1 := by omega
  have HS : Hid (∀ W', Below wr.heap.size wr W' → Below wr.heap.size wr W' ∧ W'.cell? ⟨R, 2, none⟩ = some (.slice (some ⟨g, 0, none⟩) L ac)) := hide fun W' q => ⟨q, (HR.out.below q).cells.2.2.1⟩
  have HZ1 : Hid (RowZ wr (some ⟨g, 0, none⟩) (l.take k)) := hide (take_z hZ.out (by rw [hL.out]; omega) k)
  have HZ2 : Hid (RowZ wr (some ⟨g, k + 1, none⟩) (l.drop (k + 1))) := by have := drop_z hZ.out (by rw [hL.out]; omega) (k + 1); rw [Nat.zero_add] at this; exact this
  have E1 := hide (lit0 wr).drew
  have fin : Hid (∀ a4 c4 w4, Below wr.heap.size wr w4 → w4.ownsRow wr.heap.size 3 1 (.slice a4 (k + (L - (k + 1))) c4) (k + (L - (k + 1))) (cZ (l.take k ++ l.drop (k + 1))) → NowR R base (.slice (some ⟨g, 0, none⟩) L ac) o c (l.take k ++ l.drop (k + 1)) wr (w4.setCell ⟨R, 2, none⟩ (.slice a4 (k + (L - (k + 1))) c4))) := hide fun a4 c4 w4 hb4 ho4 =>
    fin_row HR.out hbs hb4 (by rw [HF0.out]; exact ho4)
  refine wp_region_noPanic ?_
  refine wp_region_last_drew (L := 19) (S := fun w' => Below wr.heap.size wr w' ∧ w'.cell? ⟨R, 2, none⟩ = some (.slice (some ⟨g, 0, none⟩) L ac)) (by kernel_rfl) ?_ (fun hHeld => ?_)
  · exact HS.out _ (Below.refl _ _).drew
  refine wpAnyL_take (i := 0) (v := ?_) rfl (by kernel_rfl) (by kernel_rfl) (by kernel_rfl) (by kernel_rfl) (fun _ _ _ h => h) (Or.inl ⟨by rfl, ?_⟩) (by first | trivial | assumption) ?_
  rotate_left 1
  · (intro w hSw; (try dsimp only at hSw); go_simp; all_goals with_reducible rfl)
  try simp only [Act.put, List.setIfInBounds_toArray, List.set_cons_zero, List.set_cons_succ]
  refine wpAnyL_take (i := 2) (v := ?_) rfl (by kernel_rfl) (by kernel_rfl) (by kernel_rfl) (by kernel_rfl) (fun _ _ _ h => h) (Or.inl ⟨by rfl, ?_⟩) (by first | trivial | assumption) ?_
  rotate_left 1
  · (intro w hSw; (try dsimp only at hSw); go_simp; all_goals with_reducible rfl)
  try simp only [Act.put, List.setIfInBounds_toArray, List.set_cons_zero, List.set_cons_succ]
  refine wpAnyL_take (i := 3) (v := ?_) rfl (by kernel_rfl) (by kernel_rfl) (by kernel_rfl) (by kernel_rfl) (fun _ _ _ h => h) (Or.inl ⟨by rfl, ?_⟩) (by first | trivial | assumption) ?_
  rotate_left 1
  · (intro w hSw; (try dsimp only at hSw); go_simp; all_goals with_reducible rfl)
  try simp only [Act.put, List.setIfInBounds_toArray, List.set_cons_zero, List.set_cons_succ]
  refine wpAnyL_take (i := 4) (v := ?_) rfl (by kernel_rfl) (by kernel_rfl) (by kernel_rfl) (by kernel_rfl) (fun _ _ _ h => h) (Or.inl ⟨by rfl, ?_⟩) (by first | trivial | assumption) ?_
  rotate_left 1
  · (intro w hSw; (try dsimp only at hSw); go_simp; all_goals with_reducible rfl)
  try simp only [Act.put, List.setIfInBounds_toArray, List.set_cons_zero, List.set_cons_succ]
  refine wpAnyL_take (i := 5) (v := ?_) rfl (by kernel_rfl) (by kernel_rfl) (by kernel_rfl) (by kernel_rfl) (fun _ _ _ h => h) (Or.inl ⟨by rfl, ?_⟩) (by first | trivial | assumption) ?_
  rotate_left 1
  · (intro w hSw; (try dsimp only at hSw); go_simp; all_goals with_reducible rfl)
  try simp only [Act.put, List.setIfInBounds_toArray, List.set_cons_zero, List.set_cons_succ]
  refine wpAnyL_take (i := 6) (v := ?_) rfl (by kernel_rfl) (by kernel_rfl) (by kernel_rfl) (by kernel_rfl) (fun _ _ _ h => h) (Or.inl ⟨by rfl, ?_⟩) (by first | trivial | assumption) ?_
  rotate_left 1
  · (intro w hSw; (try dsimp only at hSw); go_simp; all_goals with_reducible rfl)
  try simp only [Act.put, List.setIfInBounds_toArray, List.set_cons_zero, List.set_cons_succ]
  refine wpAnyL_take (i := 7) (v := ?_) rfl (by kernel_rfl) (by kernel_rfl) (by kernel_rfl) (by kernel_rfl) (fun _ _ _ h => h) (Or.inl ⟨by rfl, ?_⟩) (by first | trivial | assumption) ?_
  rotate_left 1
  · (intro w hSw; (try dsimp only at hSw); go_simp; all_goals with_reducible rfl)
  try simp only [Act.put, List.setIfInBounds_toArray, List.set_cons_zero, List.set_cons_succ]
  refine wpAnyL_take (i := 9) (v := ?_) rfl (by kernel_rfl) (by kernel_rfl) (by kernel_rfl) (by kernel_rfl) (fun _ _ _ h => h) (Or.inl ⟨by rfl, ?_⟩) (by first | trivial | assumption) ?_
  rotate_left 1
  · (intro w hSw; (try dsimp only at hSw); go_simp; all_goals with_reducible rfl)
  try simp only [Act.put, List.setIfInBounds_toArray, List.set_cons_zero, List.set_cons_succ]
  refine wpAnyL_take (i := 10) (v := ?_) rfl (by kernel_rfl) (by kernel_rfl) (by kernel_rfl) (by kernel_rfl) (fun _ _ _ h => h) (Or.inl ⟨by rfl, ?_⟩) (by first | trivial | assumption) ?_
  rotate_left 1
  · (intro w hSw; (try dsimp only at hSw); go_simp; all_goals with_reducible rfl)
  try simp only [Act.put, List.setIfInBounds_toArray, List.set_cons_zero, List.set_cons_succ]
  refine wpAnyL_take (i := 11) (v := ?_) rfl (by kernel_rfl) (by kernel_rfl) (by kernel_rfl) (by kernel_rfl) (fun _ _ _ h => h) (Or.inl ⟨by rfl, ?_⟩) (by first | trivial | assumption) ?_
  rotate_left 1
  · (intro w hSw; (try dsimp only at hSw); go_simp; all_goals with_reducible rfl)
  try simp only [Act.put, List.setIfInBounds_toArray, List.set_cons_zero, List.set_cons_succ]
  refine wpAnyL_take (i := 12) (v := ?_) rfl (by kernel_rfl) (by kernel_rfl) (by kernel_rfl) (by kernel_rfl) (fun _ _ _ h => h) (Or.inl ⟨by rfl, ?_⟩) (by first | trivial | assumption) ?_
  rotate_left 1
  · (intro w hSw; (try dsimp only at hSw); go_simp; all_goals with_reducible rfl)
  try simp only [Act.put, List.setIfInBounds_toArray, List.set_cons_zero, List.set_cons_succ]
  refine wpAnyL_take (i := 13) (v := ?_) rfl (by kernel_rfl) (by kernel_rfl) (by kernel_rfl) (by kernel_rfl) (fun _ _ _ h => h) (Or.inl ⟨by rfl, ?_⟩) (by first | trivial | assumption) ?_
  rotate_left 1
  · (intro w hSw; (try dsimp only at hSw); go_simp; all_goals with_reducible rfl)
  try simp only [Act.put, List.setIfInBounds_toArray, List.set_cons_zero, List.set_cons_succ]
  refine wpAnyL_take (i := 14) (v := ?_) rfl (by kernel_rfl) (by kernel_rfl) (by kernel_rfl) (by kernel_rfl) (fun _ _ _ h => h) (Or.inl ⟨by rfl, ?_⟩) (by first | trivial | assumption) ?_
  rotate_left 1
  · (intro w hSw; (try dsimp only at hSw); go_simp; all_goals with_reducible rfl)
  try simp only [Act.put, List.setIfInBounds_toArray, List.set_cons_zero, List.set_cons_succ]
  refine wpAnyL_take (i := 15) (v := ?_) rfl (by kernel_rfl) (by kernel_rfl) (by kernel_rfl) (by kernel_rfl) (fun _ _ _ h => h) (Or.inl ⟨by rfl, ?_⟩) (by first | trivial | assumption) ?_
  rotate_left 1
  · (intro w hSw; (try dsimp only at hSw); go_simp; all_goals with_reducible rfl)
  try simp only [Act.put, List.setIfInBounds_toArray, List.set_cons_zero, List.set_cons_succ]
  refine wpAnyL_ready (rs := [1]) (by kernel_rfl) (by simp) ?_
  refine AllReadyL.cons rfl (fun K hK => ?_) ?_
  · go_simp
    refine hK.out _ _ ?_ (fun hHeld => ?_)
    · (first | assumption | exact HS.out _ hB6 | exact HS.out _ hB5 | (refine HS.out _ ?_; repeat (first | assumption | exact Below.refl _ _ | refine Below.alloc ?_ (by first | omega | (simp <;> omega)) _ | refine Below.drew ?_)))
    clear hK K
    try simp only [Act.put, List.setIfInBounds_toArray, List.set_cons_zero, List.set_cons_succ]
    refine wpAnyL_ready (rs := [8]) (by kernel_rfl) (by simp) ?_
    refine AllReadyL.cons rfl (fun K hK => ?_) ?_
    · (refine step_copy_z _ (by rfl) _ _ (by rfl) wr.heap.size _ (by rfl) E1.out (some ⟨g, 0, none⟩) k ac (l.take k) (by rfl) HT.out (HZ1.out.below (left_of hHeld)) (by omega) (by simp) ?_; intro a5 c5 w5 hown5 hgrow5; have hB5 : Below wr.heap.size wr w5 := below_own (left_of hHeld) E1.out hgrow5; have hz5 := hB5.size)
      refine hK.out _ _ ?_ (fun hHeld => ?_)
      · (first | assumption | exact HS.out _ hB6 | exact HS.out _ hB5 | (refine HS.out _ ?_; repeat (first | assumption | exact Below.refl _ _ | refine Below.alloc ?_ (by first | omega | (simp <;> omega)) _ | refine Below.drew ?_)))
      clear hK K
      try simp only [Act.put, List.setIfInBounds_toArray, List.set_cons_zero, List.set_cons_succ]
      refine wpAnyL_ready (rs := [16]) (by kernel_rfl) (by simp) ?_
      refine AllReadyL.cons rfl (fun K hK => ?_) ?_
      · (refine step_append_z _ (by rfl) _ _ (by rfl) wr.heap.size _ k (l.take k) (by rfl) hown5 (some ⟨g, k + 1, none⟩) (L - (k + 1)) (ac - (k + 1)) (l.drop (k + 1)) (by rfl) HD.out (HZ2.out.below hB5) (by omega) (by exact hz5) ?_; intro a6 c6 w6 hown6 hgrow6; have hB6 : Below wr.heap.size wr w6 := below_own hB5 hown5 hgrow6; obtain ⟨_, _, rc6, rf6'⟩ := (HR.out.below hB6).cells; have rf6 := rf6' 2; have hRl6 : R < w6.heap.size := Nat.lt_of_lt_of_le hRl hB6.size; clear rf6')
        refine hK.out _ _ ?_ (fun hHeld => ?_)
        · (first | assumption | exact HS.out _ hB6 | exact HS.out _ hB5 | (refine HS.out _ ?_; repeat (first | assumption | exact Below.refl _ _ | refine Below.alloc ?_ (by first | omega | (simp <;> omega)) _ | refine Below.drew ?_)))
        clear hK K
        try simp only [Act.put, List.setIfInBounds_toArray, List.set_cons_zero, List.set_cons_succ]
        refine wpAnyL_ready (rs := [17]) (by kernel_rfl) (by simp) ?_
        refine AllReadyL.cons rfl (fun K hK => ?_) ?_
        · go_simp
          refine hK.out _ _ ?_ (fun hHeld => ?_)
          · (first | assumption | exact HS.out _ hB6 | exact HS.out _ hB5 | (refine HS.out _ ?_; repeat (first | assumption | exact Below.refl _ _ | refine Below.alloc ?_ (by first | omega | (simp <;> omega)) _ | refine Below.drew ?_)))
          clear hK K
          try simp only [Act.put, List.setIfInBounds_toArray, List.set_cons_zero, List.set_cons_succ]
          refine wpAnyL_take (i := 18) (v := ?_) rfl (by kernel_rfl) (by kernel_rfl) (by kernel_rfl) (by kernel_rfl) (fun _ _ _ h => h) (Or.inl ⟨by rfl, ?_⟩) (by first | trivial | assumption) ?_
          rotate_left 1
          · (intro w hSw; (try dsimp only at hSw); go_simp; all_goals with_reducible rfl)
          try simp only [Act.put, List.setIfInBounds_toArray, List.set_cons_zero, List.set_cons_succ]
          refine wpAnyL_ready (rs := [19]) (by kernel_rfl) (by simp) ?_
          refine AllReadyL.last rfl (fun K hK => ?_)
          go_simp
          refine hK.out _ _ ?_
          clear hK K
          try simp only [Act.put, List.setIfInBounds_toArray, List.set_cons_zero, List.set_cons_succ]
          refine wpAnyL_done (by kernel_rfl) ?_ _
          (refine NoPanic.normal ?_; (have HF := hide (fin.out _ _ _ hB6 hown6)); clear hown5 hgrow5 hown6 hgrow6 hB5 hB6 hz5 rc6 rf6 hHeld E1; go_wp2; go_ret; exact ⟨rfl, HF.out⟩)
        exact AllReadyL.nil
      exact AllReadyL.nil
    exact AllReadyL.nil
  exact AllReadyL.nil

theorem refDrop_any (R base : Nat) (u : Value) (o c : Int) (l : List Int) (hO : Okz l) (hl : l.length ≤ 1000) (t : Int) (w : World) (hR : AtR w R base u o c l) (hbs : base ≤ w.heap.size) :
    Calls Try.prog 10 #[.pointer (some ⟨R, 0, none⟩), .int .i64 t] w fun e w' => e = .returned (.bool (inZ l t)) ∧ NowR R base u o c (rmZ l t) w w' := by
  cases hb : inZ l t
  · rw [rm_none hb]
    have A := at_any R base u o c l hl t w hR
    rw [idx_out hb] at A
    have HA := hide A
    have HR := hide hR
    clear hR A hb
    go_enter Try.func10, Try.ntmps10
    go_wp2_with fail
    refine HA.out.mono ?_
    rintro e w2 ⟨rfl, hw2⟩
    subst hw2
    go_wp2
    go_ret
    exact ⟨rfl, NowR.same HR.out (Below.refl _ _)⟩
  · obtain ⟨k, q1, q2, q3⟩ := idx_in hb
    rw [rm_at hO q1 q3]
    obtain ⟨g, ac, rfl, _, _, _, hc⟩ := row_open hR.row (by omega)
    have hmx := (row_cap hR.row).2
    unfold maxLen at hmx
    by_cases hne : ac = k + 1
    · subst hne
      have hL : l.length = k + 1 := by omega
      rw [hL] at hR ⊢
      exact refDrop_last R base g k o c l (by omega) t (by omega) hL q2 (by omega) (by omega) w hR hbs
    · exact refDrop_mid R base g ac l.length k hne o c l hl t q1 rfl q2 hc (by omega) w hR hbs

end Go.Proofs.Ytgfkleaekaggoaa
