/-
  The fixed fact that each statement asks comes out true: the walk.
-/
import Derived.Test.YtmhjoomkeidcaaaDoorAwakeText
namespace Go.Proofs.YtmhjoomkeidcaaaDoor
open Go.RowKit L2

theorem parse1 (w : World) : Calls Tryd.prog 15 #[.string ⟨text1.toArray⟩] w fun e w' => ∃ a1 a2 a3 c1 c2 c3, e = .returned (.tuple #[.agg #[.slice a1 2 c1, .slice a2 2 c2, .slice a3 1 c3], .int .i64 0, .int .i64 0]) ∧ Held w' a1 a2 a3 c1 c2 c3 pol1 ∧ Below w.heap.size w w' := by
  have := parse_any ⟨text1.toArray⟩ w
  rw [show (⟨text1.toArray⟩ : ByteArray).data.toList = text1 from rfl, parse_text1] at this
  exact this
theorem parse2 (w : World) : Calls Tryd.prog 15 #[.string ⟨text2.toArray⟩] w fun e w' => ∃ a1 a2 a3 c1 c2 c3, e = .returned (.tuple #[.agg #[.slice a1 0 c1, .slice a2 0 c2, .slice a3 0 c3], .int .i64 0, .int .i64 10]) ∧ Below w.heap.size w w' := by
  have := parse_any ⟨text2.toArray⟩ w
  rw [show (⟨text2.toArray⟩ : ByteArray).data.toList = text2 from rfl, parse_text2] at this
  exact this.mono fun e w' ⟨a1, a2, a3, c1, c2, c3, he, _, hb⟩ => ⟨a1, a2, a3, c1, c2, c3, he, hb⟩
theorem parse3 (w : World) : Calls Tryd.prog 15 #[.string ⟨text3.toArray⟩] w fun e w' => ∃ a1 a2 a3 c1 c2 c3, e = .returned (.tuple #[.agg #[.slice a1 0 c1, .slice a2 0 c2, .slice a3 0 c3], .int .i64 1, .int .i64 4]) ∧ Below w.heap.size w w' := by
  have := parse_any ⟨text3.toArray⟩ w
  rw [show (⟨text3.toArray⟩ : ByteArray).data.toList = text3 from rfl, parse_text3] at this
  exact this.mono fun e w' ⟨a1, a2, a3, c1, c2, c3, he, _, hb⟩ => ⟨a1, a2, a3, c1, c2, c3, he, hb⟩

set_option maxHeartbeats 4000000 in
theorem awake_any (w : World) : Calls Tryd.prog 11 #[] w fun e w' => e = .returned (.bool true) ∧ Below w.heap.size w w' := by
  go_enter Tryd.func11, Tryd.ntmps11
  go_wp2_with fail
  refine (parse1 _).mono ?_
  rintro e w1 ⟨a1, a2, a3, c1, c2, c3, rfl, hH, hB1⟩
  obtain ⟨b2, o2, rfl, hb2, s0, s1⟩ := hH.s.slot (i := 0) (s := ⟨1, 2⟩) rfl
  obtain ⟨b3, o3, rfl, hb3, l0, l1, l2, l3⟩ := hH.l.link (i := 0) (l := ⟨2, 0, 1, 3⟩) rfl
  simp only [Nat.zero_mul, Nat.add_zero] at s0 s1 l0 l1 l2 l3
  have HH : Hid (Held w1 a1 (some ⟨b2, o2, none⟩) (some ⟨b3, o3, none⟩) c1 c2 c3 pol1) := hH
  clear hH
  go_wp2_with fail
  refine (parse2 _).mono ?_
  rintro e w2 ⟨d1, d2, d3, f1, f2, f3, rfl, hB2⟩
  go_wp2_with fail
  refine (parse3 _).mono ?_
  rintro e w3 ⟨g1, g2, g3, k1, k2, k3, rfl, hB3⟩
  have hB12 : Below w1.heap.size w1 w2 := (below1 _ _).trans (hB2.mono (by simp))
  have hz2 := hB2.size
  simp at hz2
  have hB23 : Below w2.heap.size w2 w3 := (below1 _ _).trans (hB3.mono (by simp))
  have hz3 := hB3.size
  simp at hz3
  have hB13 := below_next hB12 hB23
  obtain ⟨cc, _⟩ := bcell hB13
  have s0' := (cc b2 _ hb2).trans s0
  have s1' := (cc b2 _ hb2).trans s1
  have l0' := (cc b3 _ hb3).trans l0
  have l1' := (cc b3 _ hb3).trans l1
  have l2' := (cc b3 _ hb3).trans l2
  have l3' := (cc b3 _ hb3).trans l3
  have hbk : w3.heap[w1.heap.size]? = some (.cells #[.slice a1 2 c1, .slice (some ⟨b2, o2, none⟩) 2 c2, .slice (some ⟨b3, o3, none⟩) 1 c3] 26 (0, 0)) :=
    (hB23.block _ (by omega)).trans ((hB2.block _ (by simp)).trans (alloc_at _ _))
  obtain ⟨p0, p1, p2, _, _, _⟩ := blk_cells hbk
  have HH3 : Hid (Held w3 a1 (some ⟨b2, o2, none⟩) (some ⟨b3, o3, none⟩) c1 c2 c3 pol1) := HH.out.below hB13
  have hBw : Below w.heap.size w w3 := below_next hB1 hB13
  have hC := fun W hh => check_any a1 (some ⟨b2, o2, none⟩) (some ⟨b3, o3, none⟩) 2 2 1 c1 c2 c3 pol1 W rfl rfl rfl hh
  rw [check_pol1] at hC
  have hC0 := fun W => check_any none none none 0 0 0 0 0 0 pol0 W rfl rfl rfl (held_none W)
  rw [check_pol0] at hC0
  have y1 : w1.heap.size < w3.heap.size := by omega
  have y2 : b2 < w3.heap.size := by omega
  have y3 : b3 < w3.heap.size := by omega
  clear cc s0 s1 l0 l1 l2 l3 HH hB1 hB2 hB3 hB12 hB23 hB13 hbk
  go_wp2_with fail
  refine (hC _ (HH3.out.below (below1 _ _))).mono ?_
  rintro e w4 ⟨rfl, hB4⟩
  go_wp2_with fail
  refine (hC0 _).mono ?_
  rintro e w5 ⟨rfl, hB5⟩
  go_wp2
  go_ret
  exact ⟨rfl, below_next (below_next (below_next hBw (below1 _ _)) hB4) hB5⟩

end Go.Proofs.YtmhjoomkeidcaaaDoor
