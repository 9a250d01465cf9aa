/-
  The fixed fact that each statement asks comes out true.
-/
import Derived.Test.YtkpnkpkokjcdoaaRef
namespace Go.Proofs.Ytkpnkpkokjcdoaa
open Go.RowKit

/-- The fixed slots. -/
def fixed : List (Int × Int) := [(0, 2), (1, 1), (0, 1)]

theorem fixed_at5 : AtIs fixed 5 0 4 := .inr ⟨by decide, 0, 1, by decide, ⟨by decide, by decide⟩, by decide, rfl, by decide⟩
theorem fixed_at6 : AtIs fixed 6 1 6 := .inr ⟨by decide, 1, 2, by decide, ⟨by decide, by decide⟩, by decide, rfl, by decide⟩
theorem fixed_not {dom T : Int} (h : Begins fixed dom T) : (dom = 0 ∧ T % 4 = 0) ∨ (dom = 1 ∧ T % 4 = 2) ∨ (dom = 0 ∧ T % 4 = 3) := by
  obtain ⟨k, h1, h2, h3, h4⟩ := h
  have e : (off fixed fixed.length : Int) = 4 := by decide
  rw [e] at h4
  have h1' : k < 3 := h1
  match k, h1' with
  | 0, _ => exact .inl ⟨h3.symm, h4⟩
  | 1, _ => exact .inr (.inl ⟨h3.symm, h4⟩)
  | 2, _ => exact .inr (.inr ⟨h3.symm, h4⟩)
theorem fixed_next0 : NextIs fixed 0 5 7 true := by
  refine .inl ⟨rfl, by decide, by decide, ⟨2, by decide, by decide, by decide, by decide⟩, fun T h1 h2 h => ?_⟩
  have e : hold 5 = 5 := by decide
  rw [e] at h1
  rcases fixed_not h with h | h | h <;> omega
theorem fixed_next2 : NextIs fixed 2 5 0 false := .inr ⟨rfl, rfl, fun T _ _ h => by rcases fixed_not h with h | h | h <;> omega⟩

theorem two_min (len : Nat) (ls : List (Int × Int)) (h : ls.length = len) (h' : len ≤ 16) : len ≤ 16 ∧ ls.length = len ∨ 16 < len ∧ ls.length = 16 := .inl ⟨h', h⟩

theorem bcell {W w1 : World} (hb : Below W.heap.size W w1) : (∀ b o, b < W.heap.size → w1.cell? ⟨b, o, none⟩ = W.cell? ⟨b, o, none⟩) ∧ (∀ b o, b < W.heap.size → w1.frozen? ⟨b, o, none⟩ = W.frozen? ⟨b, o, none⟩) :=
  ⟨fun b o h => hb.cell (p := ⟨b, o, none⟩) h, fun b o h => hb.frozen (p := ⟨b, o, none⟩) h⟩
theorem below_next {W a b : World} (h : Below W.heap.size W a) (k : Below a.heap.size a b) : Below W.heap.size W b := h.trans (k.mono h.size)
theorem SlotRow.next {W a : World} {ad : Option Addr} {ls : List (Int × Int)} (h : SlotRow W.heap.size W ad ls) (k : Below W.heap.size W a) : SlotRow a.heap.size a ad ls := (h.below k).mono k.size

theorem fixed_row (w : World) : SlotRow (w.alloc (.cells #[.int .i64 0, .int .i64 2, .int .i64 1, .int .i64 1, .int .i64 0, .int .i64 1] 35)).heap.size (w.alloc (.cells #[.int .i64 0, .int .i64 2, .int .i64 1, .int .i64 1, .int .i64 0, .int .i64 1] 35)) (some ⟨w.heap.size, 0, none⟩) fixed := by
  refine .inr ⟨w.heap.size, 0, rfl, by simp, fun i hi => ?_⟩
  have hi' : i < 3 := hi
  match i, hi' with
  | 0, _ => simp [go_sem, dm, ln, fixed]
  | 1, _ => simp [go_sem, dm, ln, fixed]
  | 2, _ => simp [go_sem, dm, ln, fixed]

set_option maxHeartbeats 2000000 in
theorem awake_any (w : World) : Calls Try.prog 10 #[] w fun e w' => e = .returned (.bool true) ∧ Below w.heap.size w w' := by
  have hm : (3 : Nat) ≤ maxLen := by unfold maxLen; omega
  have hr := fixed_row w
  have A5 : Hid (∀ W : World, SlotRow W.heap.size W (some ⟨w.heap.size, 0, none⟩) fixed → Calls Try.prog 8 #[.slice (some ⟨w.heap.size, 0, none⟩) 3 3, .int .i64 5] W fun e W' => e = .returned (.tuple #[.int .i64 0, .int .i64 4]) ∧ Below W.heap.size W W') := fun W h =>
    (at_any _ 3 3 fixed (.inl ⟨by decide, rfl⟩) (Nat.le_refl _) hm 5 W h).mono fun e W' ⟨a, x, he, hA, hB⟩ => by obtain ⟨rfl, rfl⟩ := hA.one fixed_at5; exact ⟨he, hB⟩
  have A6 : Hid (∀ W : World, SlotRow W.heap.size W (some ⟨w.heap.size, 0, none⟩) fixed → Calls Try.prog 8 #[.slice (some ⟨w.heap.size, 0, none⟩) 3 3, .int .i64 6] W fun e W' => e = .returned (.tuple #[.int .i64 1, .int .i64 6]) ∧ Below W.heap.size W W') := fun W h =>
    (at_any _ 3 3 fixed (.inl ⟨by decide, rfl⟩) (Nat.le_refl _) hm 6 W h).mono fun e W' ⟨a, x, he, hA, hB⟩ => by obtain ⟨rfl, rfl⟩ := hA.one fixed_at6; exact ⟨he, hB⟩
  have N0 : Hid (∀ W : World, SlotRow W.heap.size W (some ⟨w.heap.size, 0, none⟩) fixed → Calls Try.prog 13 #[.slice (some ⟨w.heap.size, 0, none⟩) 3 3, .int .i64 0, .int .i64 5] W fun e W' => e = .returned (.tuple #[.int .i64 7, .bool true]) ∧ Below W.heap.size W W') := fun W h =>
    (next_any _ 3 3 fixed (.inl ⟨by decide, rfl⟩) (Nat.le_refl _) hm 0 5 W h).mono fun e W' ⟨a, x, he, hA, hB⟩ => by obtain ⟨rfl, rfl⟩ := hA.one fixed_next0; exact ⟨he, hB⟩
  have N2 : Hid (∀ W : World, SlotRow W.heap.size W (some ⟨w.heap.size, 0, none⟩) fixed → Calls Try.prog 13 #[.slice (some ⟨w.heap.size, 0, none⟩) 3 3, .int .i64 2, .int .i64 5] W fun e W' => e = .returned (.tuple #[.int .i64 0, .bool false]) ∧ Below W.heap.size W W') := fun W h =>
    (next_any _ 3 3 fixed (.inl ⟨by decide, rfl⟩) (Nat.le_refl _) hm 2 5 W h).mono fun e W' ⟨a, x, he, hA, hB⟩ => by obtain ⟨rfl, rfl⟩ := hA.one fixed_next2; exact ⟨he, hB⟩
  have CY : Hid (∀ W : World, SlotRow W.heap.size W (some ⟨w.heap.size, 0, none⟩) fixed → Calls Try.prog 11 #[.slice (some ⟨w.heap.size, 0, none⟩) 3 3] W fun e W' => e = .returned (.int .i64 4) ∧ Below W.heap.size W W') := fun W h =>
    cycle_any _ 3 3 fixed (.inl ⟨by decide, rfl⟩) (Nat.le_refl _) hm W h
  have D1 : Hid (∀ W : World, Calls Try.prog 15 #[.int .i64 4611686018427387903, .int .i64 5] W fun e w' => e = .returned (.int .i64 4611686018427387904) ∧ w' = W) := fun W => by
    have h := add_any 4611686018427387903 5 W
    rw [show later 4611686018427387903 5 = 4611686018427387904 by decide] at h
    exact h
  have D2 : Hid (∀ W : World, Calls Try.prog 15 #[.int .i64 3, .int .i64 (-4)] W fun e w' => e = .returned (.int .i64 3) ∧ w' = W) := fun W => by
    have h := add_any 3 (-4) W
    rw [show later 3 (-4) = 3 by decide] at h
    exact h
  have HR : Hid (SlotRow (w.alloc (.cells #[.int .i64 0, .int .i64 2, .int .i64 1, .int .i64 1, .int .i64 0, .int .i64 1] 35)).heap.size (w.alloc (.cells #[.int .i64 0, .int .i64 2, .int .i64 1, .int .i64 1, .int .i64 0, .int .i64 1] 35)) (some ⟨w.heap.size, 0, none⟩) fixed) := hr
  clear hr
  go_enter Try.func10, Try.ntmps10
  go_wp2_with fail
  refine (A5.out _ HR.out).mono ?_
  rintro e w1 ⟨rfl, hB⟩
  have H1 : Hid _ := HR.out.next hB
  go_wp2_with fail
  refine (A6.out _ H1.out).mono ?_
  rintro e w2 ⟨rfl, hb⟩
  replace hB := below_next hB hb
  clear hb H1
  have H1 : Hid _ := HR.out.next hB
  go_wp2_with fail
  refine (N0.out _ H1.out).mono ?_
  rintro e w3 ⟨rfl, hb⟩
  replace hB := below_next hB hb
  clear hb H1
  have H1 : Hid _ := HR.out.next hB
  go_wp2_with fail
  refine (N2.out _ H1.out).mono ?_
  rintro e w4 ⟨rfl, hb⟩
  replace hB := below_next hB hb
  clear hb H1
  have H1 : Hid _ := HR.out.next hB
  go_wp2_with fail
  refine (CY.out _ H1.out).mono ?_
  rintro e w5 ⟨rfl, hb⟩
  replace hB := below_next hB hb
  clear hb H1
  go_wp2_with fail
  refine (D1.out _).mono ?_
  rintro e w6 ⟨rfl, hw6⟩
  subst hw6
  go_wp2_with fail
  refine (D2.out _).mono ?_
  rintro e w7 ⟨rfl, hw7⟩
  subst hw7
  go_wp2
  go_ret
  exact ⟨rfl, ((Below.refl _ _).alloc (Nat.le_refl _) _).trans (hB.mono (by simp))⟩

end Go.Proofs.Ytkpnkpkokjcdoaa
