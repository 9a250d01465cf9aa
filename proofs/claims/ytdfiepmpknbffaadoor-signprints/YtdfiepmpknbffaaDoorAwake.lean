/-
  The fixed fact that each statement asks comes out true.
-/
import Derived.Test.YtdfiepmpknbffaaDoorName
namespace Go.Proofs.YtdfiepmpknbffaaDoor
open Go.RowKit

theorem text35 : textB 3 5 = ⟨#[51, 123, 206, 177, 206, 179, 125]⟩ := by decide
theorem read35 (w : World) : Calls Tryd.prog 9 #[.string ⟨#[51, 123, 206, 177, 206, 179, 125]⟩] w fun e w' => e = .returned (.tuple #[.agg #[.int .i64 3, .int .i64 5], .int .i64 0]) ∧ Below w.heap.size w w' := by
  have := read_same w 3 5 (by omega) (by omega)
  rw [text35] at this
  exact this
theorem print35 (w : World) : Calls Tryd.prog 12 #[.agg #[.int .i64 3, .int .i64 5]] w fun e w' => e = .returned (.tuple #[.string ⟨#[51, 123, 206, 177, 206, 179, 125]⟩, .int .i64 0]) ∧ Below w.heap.size w w' := by
  have := print_yes 3 5 (by omega) (by omega) w
  rw [text35] at this
  exact this
theorem read53 (w : World) : Calls Tryd.prog 9 #[.string ⟨#[51, 123, 206, 179, 206, 177, 125]⟩] w fun e w' => e = .returned (.tuple #[.agg #[.int .i64 0, .int .i64 0], .int .i64 3]) ∧ Below w.heap.size w w' := by
  have := read_any ⟨#[51, 123, 206, 179, 206, 177, 125]⟩ w
  rw [show refRead ⟨#[51, 123, 206, 179, 206, 177, 125]⟩ = none by decide] at this
  exact this
theorem name_ab (w : World) : Calls Tryd.prog 15 #[.string ⟨#[97, 98]⟩] w fun e w' => e = .returned (.bool true) ∧ Below w.heap.size w w' := by
  have := name_any ⟨#[97, 98]⟩ w
  rw [show nameB ⟨#[97, 98]⟩ = true by decide] at this
  exact this
theorem name_empty (w : World) : Calls Tryd.prog 15 #[.string ⟨#[]⟩] w fun e w' => e = .returned (.bool false) ∧ Below w.heap.size w w' := by
  have := name_any ⟨#[]⟩ w
  rw [show nameB ⟨#[]⟩ = false by decide] at this
  exact this

/-- A text out of seven bytes that were just laid. -/
theorem conv7 (W : World) (g : Nat) (hg : g = W.heap.size) (a0 a1 a2 a3 a4 a5 a6 : UInt8) :
    (convert 43 9 (.slice (some ⟨g, 0, none⟩) 7 7)).run Tryd.prog (W.alloc (.cells #[.int .u8 a0.toNat, .int .u8 a1.toNat, .int .u8 a2.toNat, .int .u8 a3.toNat, .int .u8 a4.toNat, .int .u8 a5.toNat, .int .u8 a6.toNat] 5))
      = .ok (.string ⟨#[a0, a1, a2, a3, a4, a5, a6]⟩) (W.alloc (.cells #[.int .u8 a0.toNat, .int .u8 a1.toNat, .int .u8 a2.toNat, .int .u8 a3.toNat, .int .u8 a4.toNat, .int .u8 a5.toNat, .int .u8 a6.toNat] 5)) := by
  subst hg
  have hh := alloc_at W (.cells #[.int .u8 a0.toNat, .int .u8 a1.toNat, .int .u8 a2.toNat, .int .u8 a3.toNat, .int .u8 a4.toNat, .int .u8 a5.toNat, .int .u8 a6.toNat] 5)
  refine run_convert_bytes_back _ 43 9 5 ⟨W.heap.size, 0, none⟩ 7 [a0, a1, a2, a3, a4, a5, a6] Tryd.underlying43 Tryd.underlying5 Tryd.underlying9 ?_
  intro j hj
  rw [show (Addr.add ⟨W.heap.size, 0, none⟩ j) = ⟨W.heap.size, j, none⟩ by simp [Addr.add]; exact fun h => h.symm]
  rw [Lib.cell_of_heap hh]
  match j, hj with
  | 0, _ => rfl
  | 1, _ => rfl
  | 2, _ => rfl
  | 3, _ => rfl
  | 4, _ => rfl
  | 5, _ => rfl
  | 6, _ => rfl

theorem conv35 (W : World) (g : Nat) (hg : g = W.heap.size) :
    (convert 43 9 (.slice (some ⟨g, 0, none⟩) 7 7)).run Tryd.prog (W.alloc (.cells #[.int .u8 51, .int .u8 123, .int .u8 206, .int .u8 177, .int .u8 206, .int .u8 179, .int .u8 125] 5))
      = .ok (.string ⟨#[51, 123, 206, 177, 206, 179, 125]⟩) (W.alloc (.cells #[.int .u8 51, .int .u8 123, .int .u8 206, .int .u8 177, .int .u8 206, .int .u8 179, .int .u8 125] 5)) := conv7 W g hg 51 123 206 177 206 179 125
theorem conv53 (W : World) (g : Nat) (hg : g = W.heap.size) :
    (convert 43 9 (.slice (some ⟨g, 0, none⟩) 7 7)).run Tryd.prog (W.alloc (.cells #[.int .u8 51, .int .u8 123, .int .u8 206, .int .u8 179, .int .u8 206, .int .u8 177, .int .u8 125] 5))
      = .ok (.string ⟨#[51, 123, 206, 179, 206, 177, 125]⟩) (W.alloc (.cells #[.int .u8 51, .int .u8 123, .int .u8 206, .int .u8 179, .int .u8 206, .int .u8 177, .int .u8 125] 5)) := conv7 W g hg 51 123 206 179 206 177 125

set_option maxHeartbeats 1000000 in
theorem awake_any (w : World) :
    Calls Tryd.prog 11 #[] w fun e w' => e = .returned (.bool true) ∧ Below w.heap.size w w' := by
  have k1 := fun W => conv35 W W.heap.size rfl
  have k2 := fun (W : World) (o : Obj) => conv53 (W.alloc o) (W.heap.size + 1) (by simp)
  have k3 := fun (W : World) (o : Obj) => conv35 (W.alloc o) (W.heap.size + 1) (by simp)
  go_enter Tryd.func11, Tryd.ntmps11
  go_wp2_with fail
  refine (print35 _).mono ?_
  rintro e w1 ⟨rfl, hB⟩
  go_wp2_with fail
  refine (read35 _).mono ?_
  rintro e w2 ⟨rfl, hb⟩
  replace hB := below_next hB ((below1 _ _).trans (hb.mono (by simp)))
  clear hb
  go_wp2_with fail
  refine (read53 _).mono ?_
  rintro e w3 ⟨rfl, hb⟩
  obtain ⟨hc, hf⟩ := bcell hb
  have hz : w2.heap.size + 1 < w3.heap.size := by have := hb.size; simp at this; omega
  have c0 : w3.cell? ⟨w2.heap.size, 0, none⟩ = some (.int .i64 3) := by rw [hc _ _ (by simp; omega)]; simp [go_sem]
  have c1 : w3.cell? ⟨w2.heap.size, 1, none⟩ = some (.int .i64 5) := by rw [hc _ _ (by simp; omega)]; simp [go_sem]
  have g0 : ∀ o o', ((w3.alloc o).alloc o').cell? ⟨w2.heap.size, 0, none⟩ = some (.int .i64 3) := fun o o' => kept_old (below2 w3 o o') (by omega) 0 c0
  have g1 : ∀ o o', ((w3.alloc o).alloc o').cell? ⟨w2.heap.size, 1, none⟩ = some (.int .i64 5) := fun o o' => kept_old (below2 w3 o o') (by omega) 1 c1
  replace hB := below_next hB ((below2 _ _ _).trans (hb.mono (by simp; omega)))
  clear hb hc hf
  go_wp2_with fail
  refine (name_ab _).mono ?_
  rintro e w4 ⟨rfl, hb⟩
  replace hB := below_next hB ((below2 _ _ _).trans (hb.mono (by simp; omega)))
  clear hb
  go_wp2_with fail
  refine (name_empty _).mono ?_
  rintro e w5 ⟨rfl, hb⟩
  go_wp2
  go_ret
  exact ⟨rfl, below_next hB hb⟩

end Go.Proofs.YtdfiepmpknbffaaDoor
