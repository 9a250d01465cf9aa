/-
  What the document's Due comes to.
-/
import Derived.Test.YtnciefdhgokffaaRefSet
namespace Go.Proofs.Ytnciefdhgokffaa
open Go.RowKit

def idsOf (l : List (Nat × Nat)) : List Nat := l.map Prod.fst
theorem ids_len (l : List (Nat × Nat)) : (idsOf l).length = l.length := by simp [idsOf]
theorem drop_gp {l : List (Nat × Nat)} {k : Nat} (hk : k < l.length) : l.drop k = gp l k :: l.drop (k + 1) := by
  rw [List.drop_eq_getElem_cons hk]
  congr 1
  unfold gp
  rw [List.getD_eq_getElem?_getD, List.getElem?_eq_getElem hk]; rfl
theorem gp_drop {l : List (Nat × Nat)} {k : Nat} (hk : k < l.length) : gp (l.drop k) 0 = gp l k := by rw [drop_gp hk]; rfl
theorem ids_snoc {l : List (Nat × Nat)} {k : Nat} (hk : k < l.length) : idsOf (l.take (k + 1)) = idsOf (l.take k) ++ [(gp l k).1] := by rw [take_snoc hk]; simp [idsOf]

/-- So many were taken off, and their numbers are in a row. -/
structure DR (w : World) (R : Nat) (M : Int) (l : List (Nat × Nat)) (u : Value) (k : Nat) (W : World) : Prop where
  out : W.ownsRow w.heap.size 3 1 u k (cI (idsOf (l.take k)))
  at_ : ∃ v, AtR W R M v (l.drop k)
  turn : Turn R w W

theorem AtR.grown {w w' : World} {R : Nat} {M : Int} {v : Value} {l : List (Nat × Nat)} (h : AtR w R M v l) {base n : Nat} {u : Value} {xs : List Value} (ho : w.ownsRow base 3 1 u n xs) (hg : w.grownBy w' u.ownBlock) : AtR w' R M v l := by
  have key : ∀ b, b < w.heap.size → (∀ cs, w.heap[b]? = Option.some (.cells cs 3 (0, 0)) → False) → w'.heap[b]? = w.heap[b]? := fun b hb hne => hg.block b hb (fun e => by
    rcases ho.2 with ⟨rfl, _⟩ | ⟨g, cap, cur, rfl, _, hh, _⟩
    · simp [Value.ownBlock] at e
    · simp [Value.ownBlock] at e
      subst e
      exact hne _ hh)
  refine ⟨(key R h.lt (by rw [h.box]; intro cs e; simp at e)).trans h.box, h.row.1, ?_⟩
  rcases h.row.2 with h3 | ⟨g, cap, cur, rfl, hb, hh, r⟩
  · exact Or.inl h3
  · exact Or.inr ⟨g, cap, cur, rfl, hb, (key g (Array.getElem?_eq_some_iff.1 hh).1 (by rw [hh]; intro cs e; simp at e)).trans hh, r⟩
theorem Turn.grown {R : Nat} {w a b : World} {row : Option Nat} (h : Turn R w a) (hg : a.grownBy b row) (hr : ∀ k, row = some k → w.heap.size ≤ k) : Turn R w b :=
  ⟨hg.os.trans h.os, hg.tape.trans h.tape, hg.output.trans h.output, Nat.le_trans h.size hg.size, fun k hk h1 => (hg.block k (Nat.lt_of_lt_of_le hk h.size) (fun e => by have := hr k e.symm; omega)).trans (h.block k hk h1)⟩
theorem owns_setR {w : World} {R : Nat} {M : Int} {v v' : Value} {l : List (Nat × Nat)} (h : AtR w R M v l) {base n : Nat} {u : Value} {xs : List Value} (ho : w.ownsRow base 3 1 u n xs) : (w.setCell ⟨R, 1, none⟩ v').ownsRow base 3 1 u n xs := by
  refine ⟨ho.1, ?_⟩
  rcases ho.2 with h3 | ⟨g, cap, cur, rfl, hb, hh, r⟩
  · exact Or.inl h3
  · refine Or.inr ⟨g, cap, cur, rfl, hb, (Below.heap_setCell _ ⟨R, 1, none⟩ _ _ (fun e => ?_)).trans hh, r⟩
    have e' : g = R := e
    subst e'
    rw [h.box] at hh
    simp at hh
def lenOf : Value → Nat
  | .slice _ n _ => n
  | _ => 0
theorem DR.next {w : World} {R : Nat} {M : Int} {l : List (Nat × Nat)} {u u' v v' : Value} {k : Nat} {W4 W5 : World} (hk : k < l.length) (ho : W4.ownsRow w.heap.size 3 1 u' (k + 1) (cI (idsOf (l.take k)) ++ [.int .i64 ((gp l k).1 : Int)])) (hR : AtR W4 R M v (l.drop k)) (ht : Turn R w W4) (hb : Below W4.heap.size W4 W5) (hr : W5.ownsRow 0 41 2 v' (l.length - k - 1) (cO (l.drop (k + 1)))) : DR w R M l u' (k + 1) (W5.setCell ⟨R, 1, none⟩ v') := by
  have _ := u
  refine ⟨?_, ⟨v', ?_⟩, (ht.trans (.of_below hb)).set _ _⟩
  · rw [ids_snoc hk, cI_snoc]
    exact owns_setR (hR.below hb) (owns_below ho hb)
  · refine hR.store hb ?_
    rw [List.length_drop, show l.length - (k + 1) = l.length - k - 1 by omega]
    exact hr

set_option maxHeartbeats 4000000 in
theorem refDue_any (R : Nat) (M : Int) (v : Value) (l : List (Nat × Nat)) (t : Int) (hl : l.length ≤ 100) (w : World) (hR : AtR w R M v l) :
    Calls Try.prog 12 #[.pointer (some ⟨R, 0, none⟩), .int .i64 t] w fun e w' => ∃ a c, e = .returned (.slice a (lead (holdN t) l) c) ∧ w'.ownsRow w.heap.size 3 1 (.slice a (lead (holdN t) l) c) (lead (holdN t) l) (cI (idsOf (l.take (lead (holdN t) l)))) ∧ ∃ v', AtR w' R M v' (l.drop (lead (holdN t) l)) ∧ Turn R w w' := by
  obtain ⟨i0, hi, hz0, hz1, hz2⟩ := info_parts info41
  obtain ⟨i3, hj, hy0, hy1, hy2⟩ := info_parts info3
  have hb := fun W => held_any t W
  rw [← holdN_int] at hb
  generalize holdN t = N at *
  have HR := hide hR
  have hRl := hR.lt
  clear hR
  go_enter Try.func12, Try.ntmps12
  go_wp2
  go_loopw [5] (fun u wr => ∃ k : Nat, k ≤ l.length ∧ Hid (∀ j, j < k → (gp l j).2 ≤ N) ∧ Hid (DR w R M l u k wr)) (fun u _ => l.length - lenOf u)
  case atStart => exact ⟨0, Nat.zero_le _, hide (fun j h => by omega), hide ⟨World.ownsRow_lit w #[] 0 (Nat.le_refl _) (by unfold maxLen; omega) rfl, ⟨v, (HR.out.below ((Below.refl _ _).alloc (Nat.le_refl _) _))⟩, .of_below ((Below.refl _ _).alloc (Nat.le_refl _) _)⟩⟩
  case round =>
    obtain ⟨k, hk, HLE, HD⟩ := hrel
    obtain ⟨v1, hR1⟩ := HD.out.at_
    obtain ⟨_, r1, r2⟩ := hR1.cells
    obtain ⟨a5, c5, hu⟩ := owns_slice HD.out.out
    subst hu
    obtain ⟨a1, c1, rfl⟩ := hR1.slice
    rw [List.length_drop] at r1
    have HR1 := hide hR1
    clear hR1
    by_cases hlt : k < l.length
    · obtain ⟨g, c', hv, hgl, hgc, hcl⟩ := HR1.out.open (by rw [List.length_drop]; omega)
      simp only [Value.slice.injEq, true_and] at hv
      obtain ⟨rfl, rfl⟩ := hv
      obtain ⟨q1, q2⟩ := hcl 0 (by rw [List.length_drop]; omega)
      rw [gp_drop hlt] at q1 q2
      rw [List.length_drop] at hgc
      obtain ⟨m, hm⟩ : ∃ m, l.length - k = m + 1 := ⟨l.length - k - 1, by omega⟩
      have HM := hide hm
      have hm100 : m ≤ 100 := by omega
      rw [hm] at r1 hgc
      replace q1 : wr.cell? ⟨g, 0, none⟩ = some (.int .i64 ((gp l k).1 : Int)) := q1
      replace q2 : wr.cell? ⟨g, 1, none⟩ = some (.int .i64 ((gp l k).2 : Int)) := q2
      obtain ⟨X, hX⟩ : ∃ X : Int, X = ((gp l k).1 : Int) := ⟨_, rfl⟩
      obtain ⟨Y, hY⟩ : ∃ Y : Nat, Y = (gp l k).2 := ⟨_, rfl⟩
      have HX := hide hX
      have HY := hide hY
      rw [← hX] at q1
      rw [← hY] at q2
      have HDD := hide (owns_below HD.out.out (below_drewN wr 1))
      clear hX hY hcl hm
      by_cases e : Y ≤ N
      · have e1 : decide (Y ≤ N) = true := decide_eq_true e
        have HN2 : Hid (∀ j, j < k + 1 → (gp l j).2 ≤ N) := hide (fun j hj' => by
          by_cases z : j = k
          · subst z; rw [← HY.out]; exact e
          · exact HLE.out j (by omega))
        have hw : wr.drew.ownsRow w.heap.size 3 1 (.slice a5 k c5) k (cI (idsOf (l.take k))) := HDD.out
        have hwz : w.heap.size ≤ wr.heap.size := HD.out.turn.size
        clear e
        go_wp2_with fail
        go_region_held3 (fun w' => w'.cell? ⟨R, 1, none⟩ = some (.slice (some ⟨g, 0, none⟩) (m + 1) c1) ∧ w'.cell? ⟨g, 0, none⟩ = some (.int .i64 X) ∧ w'.cell? ⟨g, 1, none⟩ = some (.int .i64 (Y : Int))) (first | assumption | go_keep) (first | (go_at_call 21; refine (hb _).mono ?_; rintro e w3 ⟨rfl, hw3⟩; have hw3' := hw3.symm; clear hw3; subst hw3'))
        go_wp2_with (at_builtin; refine wpList_append_own _ rfl _ _ 30 rfl w.heap.size 3 i3 (.int .i64 0) 1 8 Try.underlying30 hj hy0 hy1 hy2 rfl (by decide) _ _ _ rfl (hw.alloc _) ⟨wr.heap.size, 0, none⟩ 1 1 [.int .i64 X] rfl rfl ?c1 ?c2 ?c3 ?c4 ?c5 ?_)
        case c1 =>
          intro j u hj'
          match j, hj' with
          | 0, hj' => simp at hj'; subst hj'; simp [Addr.add, go_sem]
        case c2 => intro u hu; simp at hu; subst hu; rfl
        case c3 => unfold maxLen; omega
        case c4 => omega
        case c5 => simp; omega
        intro v4 w4 hown4 hgrow4 _
        obtain ⟨a4, c4, rfl⟩ := owns_slice hown4
        have hA4 : AtR w4 R M (.slice (some ⟨g, 0, none⟩) (l.drop k).length c1) (l.drop k) := ((HR1.out.below (below_drewN _ 1)).below ((Below.refl _ _).alloc (Nat.le_refl _) _)).grown (hw.alloc _) hgrow4
        have hT4 : Turn R w w4 := (HD.out.turn.drew.trans (.of_below ((Below.refl _ _).alloc (Nat.le_refl _) _))).grown hgrow4 (fun q hq => (hw.lt q hq).1)
        obtain ⟨_, r4, rf4⟩ := hA4.cells
        rw [List.length_drop, HM.out] at r4
        have HA4 := hide hA4
        have hR4 := hA4.lt
        have hRn : R ≠ w4.heap.size := by omega
        obtain ⟨g', c9, hv9, hg4, _⟩ := hA4.open (by rw [List.length_drop]; omega)
        simp only [Value.slice.injEq, Option.some.injEq, Addr.mk.injEq, and_true, true_and] at hv9
        obtain ⟨rfl, rfl⟩ := hv9
        have hRn2 : w4.heap.size ≠ R := by omega
        have HT4 := hide hT4
        have HO4 := hide hown4
        have hz4 := hT4.size
        have HG4 := hide hA4.get
        have hm1 : l.length - k - 1 = m := by have := HM.out; omega
        have HM1 := hide hm1
        have hdl : (l.drop (k + 1)).length = m := by rw [List.length_drop]; omega
        have HDL := hide hdl
        have b0 : (1 : Int) ≤ (m : Int) + 1 := by omega
        have b1 : (m : Int) + 1 ≤ (c1 : Int) := by omega
        clear hown4 hgrow4 hA4 hT4 hm1 hdl hw HDD HD HR1 q1 q2 r1 r2
        by_cases hc1 : c1 = 1
        · subst hc1
          obtain rfl : m = 0 := by omega
          go_wp2_with (at_builtin; refine wpList_append_own _ rfl _ _ 37 rfl 0 41 i0 (.agg #[.int .i64 0, .int .i64 0]) 2 16 Try.underlying37 hi hz0 hz1 hz2 rfl (by decide) _ _ _ rfl (lit0 w4) ⟨g, 0, none⟩ 0 _ [] rfl rfl ?d1 ?d2 ?d3 ?d4 ?d5 ?_)
          case d1 => intro j u hj'; simp at hj'
          case d2 => intro u hu; simp at hu
          case d3 => unfold maxLen; omega
          case d4 => omega
          case d5 => exact Nat.zero_le _
          · intro v7 w7 hown7 hgrow7 _
            obtain ⟨a7, c7, rfl⟩ := owns_slice hown7
            have hB7 : Below w4.heap.size w4 w7 := ((Below.refl _ _).alloc (Nat.le_refl _) _).grown hgrow7 (by simp) (fun q hq => by simp [Value.ownBlock] at hq; omega)
            obtain ⟨_, r7, rf7⟩ := (HA4.out.below hB7).cells
            have HF : Hid (DR w R M l (.slice a4 (k + 1) c4) (k + 1) (w7.setCell ⟨R, 1, none⟩ (.slice a7 0 c7))) := hide (DR.next (u := .slice none 0 0) hlt (by rw [← HX.out]; exact HO4.out) HA4.out HT4.out hB7 (by rw [HM1.out]; rw [List.length_eq_zero_iff.1 HDL.out]; exact hown7))
            clear hown7 hgrow7 hB7 HO4 HG4 HA4 HT4
            go_wp2
            go_roundw
            case rel => exact ⟨k + 1, by omega, HN2, HF⟩
            case measure => simp only [lenOf]; omega
        · go_wp2_with (at_builtin; refine wpList_append_own _ rfl _ _ 37 rfl 0 41 i0 (.agg #[.int .i64 0, .int .i64 0]) 2 16 Try.underlying37 hi hz0 hz1 hz2 rfl (by decide) _ _ _ rfl (lit0 w4) ⟨g, 2, none⟩ m _ (cO (l.drop (k + 1))) rfl ?e1 ?e2 ?e3 ?e4 ?e5 ?e6 ?_)
          case e1 => rw [cO_len, HDL.out]
          case e2 =>
            have h := news_dropped (l := l.drop k) (k := 1) (fun j u hj' => ((Below.refl _ _).alloc (Nat.le_refl _) (.cells #[] 41) : Below w4.heap.size w4 _).cell (p := ⟨g, j, none⟩) hg4 |>.trans (HG4.out j u hj'))
            rw [List.drop_drop] at h
            simpa [Nat.add_comm] using h
          case e3 => exact cO_one _
          case e4 => unfold maxLen; omega
          case e5 => omega
          case e6 => exact Nat.zero_le _
          · intro v7 w7 hown7 hgrow7 _
            obtain ⟨a7, c7, rfl⟩ := owns_slice hown7
            have hB7 : Below w4.heap.size w4 w7 := ((Below.refl _ _).alloc (Nat.le_refl _) _).grown hgrow7 (by simp) (fun q hq => by simp [Value.ownBlock] at hq; omega)
            obtain ⟨_, r7, rf7⟩ := (HA4.out.below hB7).cells
            have HF : Hid (DR w R M l (.slice a4 (k + 1) c4) (k + 1) (w7.setCell ⟨R, 1, none⟩ (.slice a7 m c7))) := hide (DR.next (u := .slice none 0 0) hlt (by rw [← HX.out]; exact HO4.out) HA4.out HT4.out hB7 (by rw [HM1.out]; simpa using hown7))
            clear hown7 hgrow7 hB7 HO4 HG4 HA4 HT4
            go_wp2
            go_roundw
            case rel => exact ⟨k + 1, by omega, HN2, HF⟩
            case measure => simp only [lenOf]; omega
      · have e1 : decide (Y ≤ N) = false := decide_eq_false e
        have HL2 : Hid (lead N l = k) := hide (lead_spec N l k hk HLE.out (fun _ => by rw [← HY.out]; omega))
        clear e
        go_wp2_with fail
        go_region_held3 (fun w' => w'.cell? ⟨R, 1, none⟩ = some (.slice (some ⟨g, 0, none⟩) (m + 1) c1) ∧ w'.cell? ⟨g, 0, none⟩ = some (.int .i64 X) ∧ w'.cell? ⟨g, 1, none⟩ = some (.int .i64 (Y : Int))) (first | assumption | go_keep) (first | (go_at_call 21; refine (hb _).mono ?_; rintro e w3 ⟨rfl, hw3⟩; have hw3' := hw3.symm; clear hw3; subst hw3'))
        go_wp2
        go_ret
        rw [HL2.out]
        exact ⟨a5, c5, rfl, HDD.out, ⟨_, HR1.out.below (below_drewN _ 1), HD.out.turn.drew⟩⟩
    · have hz : l.length - k = 0 := by omega
      rw [hz] at r1
      have HN2 : Hid (lead N l = k) := hide (lead_spec N l k hk HLE.out (fun h => by omega))
      clear hz
      go_wp2_with fail
      go_quiet (fail)
      go_wp2
      go_ret
      rw [HN2.out]
      exact ⟨a5, c5, rfl, owns_below HD.out.out (below_drewN _ _), ⟨_, HR1.out.below (below_drewN _ _), HD.out.turn.drewN _⟩⟩

end Go.Proofs.Ytnciefdhgokffaa
