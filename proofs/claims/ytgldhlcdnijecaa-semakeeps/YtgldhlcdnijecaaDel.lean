/-
  What slices.Delete of one that waits comes to: structs of two cells, in place.
-/
import Derived.Test.YtgldhlcdnijecaaFind
import Derived.Shelf.RegionOpenPlain
import Derived.Deep.RegionLaw
import Derived.Lib.SliceRun
namespace Go.Proofs.Ytgldhlcdnijecaa
open Go.RowKit

theorem set_take : ∀ (l : List Value) (o : Nat) (v : Value), o < l.length → (l.set o v).take (o + 1) = l.take o ++ [v]
  | [], _, _, h => by simp at h
  | x :: l, 0, v, _ => rfl
  | x :: l, o + 1, v, h => congrArg (x :: ·) (set_take l o v (by simpa using h))
/-- A row of cells that is written over in part. -/
theorem heap_setCells {g : Nat} {t : TypeId} {fr : Nat × Nat} : ∀ (vs : List Value) (o : Nat) (w : World) (cur : Array Value), w.heap[g]? = some (.cells cur t fr) → o + vs.length ≤ cur.size →
    ∃ cur', (w.setCells g o vs).heap[g]? = some (.cells cur' t fr) ∧ cur'.toList = cur.toList.take o ++ vs ++ cur.toList.drop (o + vs.length)
  | [], o, w, cur, h, _ => ⟨cur, h, by simp⟩
  | v :: vs, o, w, cur, h, hl => by
    have hs : (w.setCell ⟨g, o, none⟩ v).heap[g]? = some (.cells (cur.setIfInBounds o v) t fr) := Lib.heap_setCell_same h v
    simp only [List.length_cons] at hl
    obtain ⟨cur', h1, h2⟩ := heap_setCells vs (o + 1) _ _ hs (by simp; omega)
    refine ⟨cur', h1, ?_⟩
    rw [h2, Array.toList_setIfInBounds]
    have ho : o < cur.toList.length := by simp; omega
    have e1 : (cur.toList.set o v).take (o + 1) = cur.toList.take o ++ [v] := set_take _ _ _ ho
    have e2 : (cur.toList.set o v).drop (o + 1 + vs.length) = cur.toList.drop (o + 1 + vs.length) := List.drop_set_of_lt (by omega)
    rw [e1, e2]
    simp only [List.length_cons, List.append_assoc, List.cons_append, List.nil_append]
    rw [show o + 1 + vs.length = o + (vs.length + 1) by omega]
theorem take_mid (A B D : List Value) (n : Nat) (h : A.length + B.length = n) : (A ++ (B ++ D)).take n = A ++ B := by
  rw [← List.append_assoc, ← h, ← List.length_append]
  exact List.take_left
theorem mov_setCells {g : Nat} {S : Nat → Prop} (hS : S g) {a : World} : ∀ (vs : List Value) (o : Nat) (w : World), Mov S a w → Mov S a (w.setCells g o vs)
  | [], _, _, h => h
  | v :: vs, o, _, h => mov_setCells hS vs (o + 1) _ (h.set (p := ⟨g, o, none⟩) hS v)


set_option maxHeartbeats 4000000 in
theorem delete_any (base g c L i j : Nat) (l : List Wt) (hL : l.length = L) (hl : L ≤ 1000) (hj : j ≤ L) (hij : j = i + 1) (w : World) (hA : w.ownsRow base 56 2 (.slice (some ⟨g, 0, none⟩) L c) L (cW l)) :
    Calls Try.prog 24 #[.slice (some ⟨g, 0, none⟩) L c, .int .i64 (i : Int), .int .i64 (j : Int)] w fun e w' => e = .returned (.slice (some ⟨g, 0, none⟩) (i + (L - j)) c) ∧ w'.ownsRow base 56 2 (.slice (some ⟨g, 0, none⟩) (i + (L - j)) c) (i + (L - j)) (cW (l.eraseIdx i)) ∧ Mov (fun k => k = g) w w' := by
  obtain ⟨i0, hi0, hz0, hz1, hz2⟩ := info_parts info56
  obtain ⟨hb, cur, hh, hc, hm, hsz, hcur⟩ : base ≤ g ∧ ∃ cur : Array Value, w.heap[g]? = some (.cells cur 56 (0, 0)) ∧ L ≤ c ∧ c ≤ maxLen ∧ cur.size = c * 2 ∧ cur.toList.take (L * 2) = cW l := by
    rcases hA.2 with ⟨e, _⟩ | ⟨g', c', cur, e, h1, h2, h3, h4, h5, h6⟩
    · cases e
    · cases e
      exact ⟨h1, cur, h2, h3, h4, h5, h6⟩
  have hlt : i < j := by omega
  obtain ⟨news, hnews⟩ : ∃ news, news = cW (l.drop j) := ⟨_, rfl⟩
  have hlen : news.length = (L - j) * 2 := by rw [hnews, cW_len, List.length_drop, hL]
  have hdr : ∀ t u, news[t]? = some u → w.cell? ⟨g, j * 2 + t, none⟩ = some u := by
    intro t u hu
    have ht : t < (L - j) * 2 := by rw [← hlen]; exact (List.getElem?_eq_some_iff.1 hu).1
    rw [hA.cellAt _ (by omega)]
    have e2 : cW l = cW (l.take j) ++ cW (l.drop j) := by rw [← cW_app, List.take_append_drop]
    have e3 : (cW (l.take j)).length = j * 2 := by rw [cW_len, List.length_take, Nat.min_eq_left (by omega)]
    rw [e2, List.getElem?_append_right (by omega), e3, Nat.add_sub_cancel_left, ← hnews]
    exact hu
  obtain ⟨A, hA0, hsrc⟩ : ∃ A : Addr, (if c = j then some (⟨g, 0, none⟩ : Addr) else some ⟨g, j * 2, none⟩) = some A ∧ Hid (∀ t u, news[t]? = some u → w.drew.cell? (A.add t) = some u) := by
    by_cases h : c = j
    · refine ⟨⟨g, 0, none⟩, by simp [h], fun t u hu => ?_⟩
      have h0 : news.length = 0 := by rw [hlen]; omega
      rw [List.length_eq_zero_iff.1 h0] at hu
      simp at hu
    · refine ⟨⟨g, j * 2, none⟩, by simp [h], fun t u hu => ?_⟩
      rw [add_none]
      exact hdr t u hu
  have s1 : Hid (news.length = (L - j) * 2) := hlen
  have s2 : Hid (∀ u ∈ news, u.oneCell' = true) := by rw [hnews]; exact cW_ones _
  have s3 : Hid (∀ t, t < news.length → (w.drew.cell? ⟨g, 0 + i * 2 + t, none⟩).isSome = true ∧ w.drew.frozen? ⟨g, 0 + i * 2 + t, none⟩ = false) := by
    intro t ht
    rw [hlen] at ht
    refine ⟨?_, Lib.frozen_of_heap hh _⟩
    have e : w.drew.cell? ⟨g, 0 + i * 2 + t, none⟩ = cur[0 + i * 2 + t]? := Lib.cell_of_heap hh _
    rw [e, Array.getElem?_eq_getElem (by omega)]
    rfl
  obtain ⟨W1, hW1⟩ : ∃ W1, W1 = w.drew.setCells g (0 + i * 2) news := ⟨_, rfl⟩
  obtain ⟨cur1, hh1, hc1⟩ := heap_setCells news (0 + i * 2) w.drew cur hh (by rw [hlen]; omega)
  rw [← hW1] at hh1
  have hz1l : cur1.size = c * 2 := by
    have := congrArg List.length hc1
    simp only [Array.length_toList, List.length_append, List.length_take, List.length_drop] at this
    rw [hlen] at this
    omega
  have hcl : ∀ ty, (Builtin.clear_ #[49] ty #[.slice (some ⟨g, (i + (L - j)) * 2, none⟩) (L - (i + (L - j))) (c - (i + (L - j)))]).run Try.prog W1 = .ok (.tuple #[]) (W1.setCells g ((i + (L - j)) * 2) [.int .i64 0, .int .i64 0]) := fun ty => by
    have hst := run_storeCells_cells (P := Try.prog) g ((i + (L - j)) * 2) [.int .i64 0, .int .i64 0] 0 W1 (fun t ht => by
        have e : W1.cell? ⟨g, (i + (L - j)) * 2 + 0 + t, none⟩ = cur1[(i + (L - j)) * 2 + 0 + t]? := Lib.cell_of_heap hh1 _
        simp only [List.length_cons, List.length_nil] at ht
        rw [e, Array.getElem?_eq_getElem (by omega)]
        rfl) (fun t _ => Lib.frozen_of_heap hh1 _) (by simp [Value.oneCell'])
    simp only [Nat.add_zero] at hst
    have e1 : L - (i + (L - j)) = 1 := by omega
    rw [e1]
    have hzc : (Builtin.zeroCells (Value.agg #[.int .i64 0, .int .i64 0]).cells 1).toList = [.int .i64 0, .int .i64 0] := by kernel_rfl
    simp [Builtin.clear_, run_underlying Try.underlying49, hzc, hst]
  have HW : Hid (W1 = w.drew.setCells g (0 + i * 2) news) := hW1
  have hbb : (i + (L - j)) * 2 + 2 ≤ cur1.size := by omega
  obtain ⟨cur2, hh2, hc2⟩ := heap_setCells [Value.int .i64 0, .int .i64 0] ((i + (L - j)) * 2) W1 cur1 hh1 (by simp only [List.length_cons, List.length_nil]; omega)
  have hfin : (W1.setCells g ((i + (L - j)) * 2) [.int .i64 0, .int .i64 0]).ownsRow base 56 2 (.slice (some ⟨g, 0, none⟩) (i + (L - j)) c) (i + (L - j)) (cW (l.eraseIdx i)) := by
    have hel : (l.eraseIdx i).length = i + (L - j) := by rw [List.length_eraseIdx, hL, if_pos (by omega)]; omega
    refine ⟨by rw [cW_len, hel], .inr ⟨g, c, cur2, rfl, hb, hh2, by omega, hm, ?_, ?_⟩⟩
    · have := congrArg List.length hc2
      simp only [Array.length_toList, List.length_append, List.length_take, List.length_drop, List.length_cons, List.length_nil] at this
      omega
    · have ht1 : (cur1.toList.take ((i + (L - j)) * 2)).length = (i + (L - j)) * 2 := by rw [List.length_take, Array.length_toList]; omega
      rw [hc2, List.append_assoc, List.take_append_of_le_length (by omega), List.take_of_length_le (by omega), hc1, List.append_assoc]
      have ht2 : (cur.toList.take (0 + i * 2)).length = i * 2 := by rw [List.length_take, Array.length_toList]; omega
      have e1 : cur.toList.take (0 + i * 2) = cW (l.take i) := by
        rw [← cW_take l i (by omega), ← hcur, List.take_take, Nat.zero_add, Nat.min_eq_left (by omega)]
      rw [take_mid _ _ _ _ (by rw [ht2, hlen]; omega), e1, hnews, ← cW_app, hij, ← List.eraseIdx_eq_take_drop_succ]
  have hmov : Mov (fun k => k = g) w (W1.setCells g ((i + (L - j)) * 2) [.int .i64 0, .int .i64 0]) := by
    refine mov_setCells (S := fun k => k = g) rfl _ _ _ ?_
    rw [hW1]
    exact mov_setCells (S := fun k => k = g) rfl _ _ _ (Mov.of_below (Below.refl _ _).drew)
  have HF := hide hfin
  have HM := hide hmov
  have hic : i ≤ c := by omega
  have hjc : j ≤ c := by omega
  have hmx : c ≤ 9223372036854775807 := by unfold maxLen at hm; omega
  have hne : ¬ i = j := by omega
  have hwl : IntKind.i64.wrap (j : Int) = (j : Int) := wrapB (by omega)
  clear hW1 hh1 hc1 hh hdr hlen hnews hcur hA hb hsz hz1l hh2 hc2 hbb hfin hmov hm hij hL
  have mixed : Try.prog.follows Departure.mixedOrders = true := by kernel_rfl
  go_enter Try.func24, Try.ntmps24
  go_wp2_with fail
  go_region_law_o (refine step_append_room rfl (.tmp 22) (.tmp 25) 49 rfl 56 i0 2 Try.underlying49 hi0 hz1 g 0 i c (by simp [Act.eval, Act.put]) A (L - j) (c - j) news (by simp [Act.eval, Act.put]) s1.out hsrc.out s2.out (by omega) s3.out ?_; rw [← HW.out])
  go_wp2
  go_ret
  exact ⟨rfl, HF.out, HM.out⟩

end Go.Proofs.Ytgldhlcdnijecaa
