/-
  The fixed fact of the laws.
-/
import Derived.Test.YtiookbmffdmdeaaRefDel
namespace Go.Proofs.Ytiookbmffdmdeaa
open Go.RowKit

def a1 : List Wk := [⟨5, 0⟩]
def a2 : List Wk := [⟨5, 0⟩, ⟨2, 15⟩]
def a3 : List Wk := [⟨5, 0⟩, ⟨2, 15⟩, ⟨0, 0⟩]
def z3 : List Wk := [⟨0, 0⟩, ⟨0, 0⟩, ⟨0, 0⟩]
theorem put1 : putB 3 [] ⟨5, 0⟩ = true := by decide
theorem put2 : putB 3 a1 ⟨2, 15⟩ = true := by decide
theorem put3 : putB 3 a2 ⟨5, 16⟩ = false := by decide
theorem row3 {W : World} {g : Nat} {x0 x1 x2 y0 y1 y2 : Int} (hl : g < W.heap.size) (h0 : W.cell? ⟨g, 0, none⟩ = some (.int .i64 x0)) (k0 : W.cell? ⟨g, 1, none⟩ = some (.int .i64 y0)) (h1 : W.cell? ⟨g, 2, none⟩ = some (.int .i64 x1)) (k1 : W.cell? ⟨g, 3, none⟩ = some (.int .i64 y1)) (h2 : W.cell? ⟨g, 4, none⟩ = some (.int .i64 x2)) (k2 : W.cell? ⟨g, 5, none⟩ = some (.int .i64 y2)) :
    RowA W (some ⟨g, 0, none⟩) [⟨x0, y0⟩, ⟨x1, y1⟩, ⟨x2, y2⟩] := fun _ => ⟨g, rfl, hl, fun i hi => by
  match i, hi with
  | 0, _ => exact ⟨h0, k0⟩
  | 1, _ => exact ⟨h1, k1⟩
  | 2, _ => exact ⟨h2, k2⟩
  | n + 3, h => simp at h; omega⟩

set_option maxHeartbeats 4000000 in
theorem awake_any (w : World) : Calls Try.prog 15 #[] w fun e w' => e = .returned (.bool true) ∧ Below w.heap.size w w' := by
  have N0 : Hid (∀ W : World, Calls Try.prog 7 #[.int .i64 3] W fun e w' => e = .returned (.pointer (some ⟨W.heap.size, 0, none⟩)) ∧ AtB w' W.heap.size 3 [] ∧ Below W.heap.size W w') := fun W => new_any 3 W
  have ok0 : Ok 3 [] := Ok.nil (by omega)
  have ok1 : Ok 3 a1 := by have := ok0.put ⟨5, 0⟩; rwa [putL_yes put1] at this
  have ok2 : Ok 3 a2 := by have := ok1.put ⟨2, 15⟩; rwa [putL_yes put2] at this
  have P1 : Hid (∀ B W, AtB W B 3 [] → Calls Try.prog 9 #[.pointer (some ⟨B, 0, none⟩), .agg #[.int .i64 5, .int .i64 0]] W fun e w' => e = .returned (.bool true) ∧ Now B 3 a1 W w') := fun B W h => by
    have := put_any B 3 [] ⟨5, 0⟩ ok0 W h; rw [putL_yes put1, put1] at this; exact this
  have P2 : Hid (∀ B W, AtB W B 3 a1 → Calls Try.prog 9 #[.pointer (some ⟨B, 0, none⟩), .agg #[.int .i64 2, .int .i64 15]] W fun e w' => e = .returned (.bool true) ∧ Now B 3 a2 W w') := fun B W h => by
    have := put_any B 3 a1 ⟨2, 15⟩ ok1 W h; rw [putL_yes put2, put2] at this; exact this
  have P3 : Hid (∀ B W, AtB W B 3 a2 → Calls Try.prog 9 #[.pointer (some ⟨B, 0, none⟩), .agg #[.int .i64 5, .int .i64 16]] W fun e w' => e = .returned (.bool false) ∧ Now B 3 a2 W w') := fun B W h => by
    have := put_any B 3 a2 ⟨5, 16⟩ ok2 W h; rw [putL_no put3, put3] at this; exact this
  have D1 : Hid (∀ B W, AtB W B 3 a2 → Calls Try.prog 13 #[.pointer (some ⟨B, 0, none⟩)] W fun e w' => e = .returned (.slice (some ⟨W.heap.size, 0, none⟩) 3 3) ∧ w'.ownsRow W.heap.size 31 2 (.slice (some ⟨W.heap.size, 0, none⟩) 3 3) 3 (cW a3) ∧ Now B 3 [] W w') := fun B W h => deliver_any B 3 a2 ok2 W h
  have D2 : Hid (∀ B W, AtB W B 3 [] → Calls Try.prog 13 #[.pointer (some ⟨B, 0, none⟩)] W fun e w' => e = .returned (.slice (some ⟨W.heap.size, 0, none⟩) 3 3) ∧ w'.ownsRow W.heap.size 31 2 (.slice (some ⟨W.heap.size, 0, none⟩) 3 3) 3 (cW z3) ∧ Now B 3 [] W w') := fun B W h => deliver_any B 3 [] ok0 W h
  have L0 : Hid (∀ B W, AtB W B 3 [] → Calls Try.prog 11 #[.pointer (some ⟨B, 0, none⟩)] W fun e w' => e = .returned (.int .i64 0) ∧ w' = W) := fun B W h => len_any B 3 [] W h
  have A1 : Hid (∀ x1 x2 W, RowA W x1 a3 → RowA W x2 a3 → Calls Try.prog 12 #[.slice x1 3 3, .slice x2 3 3] W fun e w' => e = .returned (.bool true) ∧ Below W.heap.size W w') := fun x1 x2 W h k => alike_same x1 x2 3 3 a3 (by decide) W h k
  have A2 : Hid (∀ x1 x2 W, RowA W x1 z3 → RowA W x2 z3 → Calls Try.prog 12 #[.slice x1 3 3, .slice x2 3 3] W fun e w' => e = .returned (.bool true) ∧ Below W.heap.size W w') := fun x1 x2 W h k => alike_same x1 x2 3 3 z3 (by decide) W h k
  clear ok0 ok1 ok2
  go_enter Try.func15, Try.ntmps15
  go_wp2_with fail
  refine (N0.out _).mono ?_
  rintro e w2 ⟨rfl, hA, hb⟩
  obtain ⟨B, hB⟩ : ∃ B, B = w.heap.size := ⟨_, rfl⟩
  rw [← hB] at hA ⊢
  have hBl : w.heap.size ≤ B := by omega
  have HA := hide hA
  clear hA hB N0
  go_wp2_with fail
  refine (P1.out _ _ HA.out).mono ?_
  rintro e w3 ⟨rfl, hA, ht⟩
  replace hb := turn_next hb ht hBl
  replace HA := hide hA
  clear ht hA P1
  go_wp2_with fail
  refine (P2.out _ _ HA.out).mono ?_
  rintro e w4 ⟨rfl, hA, ht⟩
  replace hb := turn_next hb ht hBl
  replace HA := hide hA
  clear ht hA P2
  go_wp2_with fail
  refine (P3.out _ _ HA.out).mono ?_
  rintro e w5 ⟨rfl, hA, ht⟩
  replace hb := turn_next hb ht hBl
  replace HA := hide hA
  clear ht hA P3
  go_wp2_with fail
  refine (D1.out _ _ HA.out).mono ?_
  rintro e w6 ⟨rfl, hr, hA, ht⟩
  replace hb := turn_next hb ht hBl
  replace HA := hide hA
  have HR1 : Hid (RowA w6 (some ⟨w5.heap.size, 0, none⟩) a3) := owns_rowA (l := a3) hr
  have hz5 : w5.heap.size < w6.heap.size := (hr.lt _ rfl).2
  have hB5 : B ≠ w5.heap.size := by rintro rfl; have := HA.out.box; obtain ⟨cs, h1, _⟩ := this; rcases hr.2 with ⟨q, _⟩ | ⟨g, cap, cur, q, _, hh, _⟩ <;> cases q; rw [h1] at hh; cases hh
  generalize w5.heap.size = g1 at *
  clear ht hA D1 hr w2 w3 w4 w5
  go_wp2_with fail
  refine (D2.out _ _ HA.out).mono ?_
  rintro e w7 ⟨rfl, hr, hA, ht⟩
  replace hb := turn_next hb ht hBl
  replace HA := hide hA
  have HR2 : Hid (RowA w7 (some ⟨w6.heap.size, 0, none⟩) z3) := owns_rowA (l := z3) hr
  replace HR1 : Hid (RowA w7 (some ⟨g1, 0, none⟩) a3) := fun hn => by
    obtain ⟨g, h1, h2, h3⟩ := HR1.out hn
    cases h1
    have hk := ht.block g1 h2 (fun e => hB5 e.symm)
    exact ⟨g1, rfl, Nat.lt_of_lt_of_le h2 ht.size, fun i hi => ⟨(World.cell?_of_block (a := ⟨g1, _, none⟩) hk).trans (h3 i hi).1, (World.cell?_of_block (a := ⟨g1, _, none⟩) hk).trans (h3 i hi).2⟩⟩
  generalize w6.heap.size = g2 at *
  clear ht hA D2 hr hB5 hz5
  go_wp2_with fail
  have hx1 := below1 w7 (.cells #[.int .i64 5, .int .i64 0, .int .i64 2, .int .i64 15, .int .i64 0, .int .i64 0] 31)
  refine (A1.out _ _ _ (HR1.out.below hx1) (row3 (by simp) (by simp) (by simp) (by simp) (by simp) (by simp) (by simp))).mono ?_
  rintro e w8 ⟨rfl, hb8⟩
  have hb78 : Below w7.heap.size w7 w8 := below_next hx1 hb8
  replace hb := below_next hb hb78
  replace HA := hide (AtB.below HA.out hb78)
  replace HR2 := hide (HR2.out.below hb78)
  clear hx1 hb8 hb78 A1 HR1
  go_wp2_with fail
  have hx1 := below1 w8 (.cells #[.int .i64 0, .int .i64 0, .int .i64 0, .int .i64 0, .int .i64 0, .int .i64 0] 31)
  refine (A2.out _ _ _ (HR2.out.below hx1) (row3 (by simp) (by simp) (by simp) (by simp) (by simp) (by simp) (by simp))).mono ?_
  rintro e w9 ⟨rfl, hb9⟩
  have hb89 : Below w8.heap.size w8 w9 := below_next hx1 hb9
  replace hb := below_next hb hb89
  replace HA := hide (AtB.below HA.out hb89)
  clear hx1 hb9 hb89 A2 HR2
  go_wp2_with fail
  refine (L0.out _ _ HA.out).mono ?_
  rintro e w10 ⟨rfl, hw10⟩
  subst hw10
  go_wp2
  go_ret
  exact ⟨rfl, hb⟩

end Go.Proofs.Ytiookbmffdmdeaa
