/-
  What each function of package label comes to, called with any labels: one contract a function.
-/
import Derived.Test.YtkecnjahknjblaaRows
import Derived.WalkKit
import Derived.WalkSpells
import Derived.WalkLawsBesides
namespace Go.Proofs.Ytkecnjahknjblaa
open Go.RowKit

set_option maxHeartbeats 400000 in
theorem leq_yes (al ac bl bc : Int) (w : World) (h : al ≤ bl) :
    Calls Try.prog 7 #[.agg #[.int .i64 al, .int .i64 ac], .agg #[.int .i64 bl, .int .i64 bc]] w fun e w' => e = .returned (.bool (bits .andNot .i64 ac bc == 0)) ∧ Below w.heap.size w w' := by
  go_enter Try.func7, Try.ntmps7
  go_wp2
  go_ret
  exact ⟨rfl, ((Below.refl _ _).alloc (Nat.le_refl _) _).alloc (by simp) _⟩

set_option maxHeartbeats 400000 in
theorem leq_no (al ac bl bc : Int) (w : World) (h : ¬ al ≤ bl) :
    Calls Try.prog 7 #[.agg #[.int .i64 al, .int .i64 ac], .agg #[.int .i64 bl, .int .i64 bc]] w fun e w' => e = .returned (.bool false) ∧ Below w.heap.size w w' := by
  go_enter Try.func7, Try.ntmps7
  go_wp2
  go_ret
  exact ⟨rfl, ((Below.refl _ _).alloc (Nat.le_refl _) _).alloc (by simp) _⟩

/-- May what has one label flow to what has another one? -/
def leqB (al ac bl bc : Int) : Bool := decide (al ≤ bl) && (bits .andNot .i64 ac bc == 0)

theorem leq_any (al ac bl bc : Int) (w : World) :
    Calls Try.prog 7 #[.agg #[.int .i64 al, .int .i64 ac], .agg #[.int .i64 bl, .int .i64 bc]] w fun e w' => e = .returned (.bool (leqB al ac bl bc)) ∧ Below w.heap.size w w' := by
  by_cases h : al ≤ bl
  · have e : leqB al ac bl bc = (bits .andNot .i64 ac bc == 0) := by simp [leqB, h]
    rw [e]; exact leq_yes al ac bl bc w h
  · have e : leqB al ac bl bc = false := by simp [leqB, h]
    rw [e]; exact leq_no al ac bl bc w h

/-- Three new blocks. -/
theorem below3 (w : World) (o1 o2 o3 : Obj) : Below w.heap.size w (((w.alloc o1).alloc o2).alloc o3) :=
  (((Below.refl _ _).alloc (Nat.le_refl _) _).alloc (by simp) _).alloc (by simp; omega) _

set_option maxHeartbeats 400000 in
theorem join_any (al ac bl bc : Int) (w : World) :
    Calls Try.prog 9 #[.agg #[.int .i64 al, .int .i64 ac], .agg #[.int .i64 bl, .int .i64 bc]] w fun e w' => e = .returned (.agg #[.int .i64 (max al bl), .int .i64 (bits .or .i64 ac bc)]) ∧ Below w.heap.size w w' := by
  by_cases h : al < bl
  · rw [show max al bl = bl by omega]
    go_enter Try.func9, Try.ntmps9
    go_wp2
    exact bodyPost_ret (v := .agg #[.int .i64 bl, .int .i64 (bits .or .i64 ac bc)]) (by simp [results, Try.results9, go_sem]) rfl ⟨rfl, below3 _ _ _ _⟩
  · rw [show max al bl = al by omega]
    go_enter Try.func9, Try.ntmps9
    go_wp2
    exact bodyPost_ret (v := .agg #[.int .i64 al, .int .i64 (bits .or .i64 ac bc)]) (by simp [results, Try.results9, go_sem]) rfl ⟨rfl, below3 _ _ _ _⟩

set_option maxHeartbeats 400000 in
theorem meet_any (al ac bl bc : Int) (w : World) :
    Calls Try.prog 10 #[.agg #[.int .i64 al, .int .i64 ac], .agg #[.int .i64 bl, .int .i64 bc]] w fun e w' => e = .returned (.agg #[.int .i64 (min al bl), .int .i64 (bits .and .i64 ac bc)]) ∧ Below w.heap.size w w' := by
  by_cases h : bl < al
  · rw [show min al bl = bl by omega]
    go_enter Try.func10, Try.ntmps10
    go_wp2
    exact bodyPost_ret (v := .agg #[.int .i64 bl, .int .i64 (bits .and .i64 ac bc)]) (by simp [results, Try.results10, go_sem]) rfl ⟨rfl, below3 _ _ _ _⟩
  · rw [show min al bl = al by omega]
    go_enter Try.func10, Try.ntmps10
    go_wp2
    exact bodyPost_ret (v := .agg #[.int .i64 al, .int .i64 (bits .and .i64 ac bc)]) (by simp [results, Try.results10, go_sem]) rfl ⟨rfl, below3 _ _ _ _⟩

/-- May a label be? -/
def goodB (l c : Int) : Bool := decide (0 ≤ l ∧ l ≤ 7 ∧ 0 ≤ c ∧ c < 65536)

set_option maxHeartbeats 400000 in
theorem good_yes (l c : Int) (w : World) (h : 0 ≤ l) (h' : l ≤ 7) (h2 : 0 ≤ c) :
    Calls Try.prog 11 #[.agg #[.int .i64 l, .int .i64 c]] w fun e w' => e = .returned (.bool (decide (c < 65536))) ∧ Below w.heap.size w w' := by
  go_enter Try.func11, Try.ntmps11
  go_wp2
  go_ret
  exact ⟨rfl, (Below.refl _ _).alloc (Nat.le_refl _) _⟩

set_option maxHeartbeats 400000 in
theorem good_no2 (l c : Int) (w : World) (h : 0 ≤ l) (h' : l ≤ 7) (h2 : c < 0) :
    Calls Try.prog 11 #[.agg #[.int .i64 l, .int .i64 c]] w fun e w' => e = .returned (.bool false) ∧ Below w.heap.size w w' := by
  have h2' : ¬ 0 ≤ c := by omega
  go_enter Try.func11, Try.ntmps11
  go_wp2
  go_ret
  exact ⟨rfl, (Below.refl _ _).alloc (Nat.le_refl _) _⟩

set_option maxHeartbeats 400000 in
theorem good_no1 (l c : Int) (w : World) (h : 0 ≤ l) (h' : ¬ l ≤ 7) :
    Calls Try.prog 11 #[.agg #[.int .i64 l, .int .i64 c]] w fun e w' => e = .returned (.bool false) ∧ Below w.heap.size w w' := by
  go_enter Try.func11, Try.ntmps11
  go_wp2
  go_ret
  exact ⟨rfl, (Below.refl _ _).alloc (Nat.le_refl _) _⟩

set_option maxHeartbeats 400000 in
theorem good_no0 (l c : Int) (w : World) (h : ¬ 0 ≤ l) :
    Calls Try.prog 11 #[.agg #[.int .i64 l, .int .i64 c]] w fun e w' => e = .returned (.bool false) ∧ Below w.heap.size w w' := by
  go_enter Try.func11, Try.ntmps11
  go_wp2
  go_ret
  exact ⟨rfl, (Below.refl _ _).alloc (Nat.le_refl _) _⟩

theorem good_any (l c : Int) (w : World) :
    Calls Try.prog 11 #[.agg #[.int .i64 l, .int .i64 c]] w fun e w' => e = .returned (.bool (goodB l c)) ∧ Below w.heap.size w w' := by
  by_cases h : 0 ≤ l
  · by_cases h' : l ≤ 7
    · by_cases h2 : 0 ≤ c
      · rw [show goodB l c = decide (c < 65536) by simp [goodB, h, h', h2]]; exact good_yes l c w h h' h2
      · rw [show goodB l c = false by simp [goodB, h, h', h2]]; exact good_no2 l c w h h' (by omega)
    · rw [show goodB l c = false by simp [goodB, h']]; exact good_no1 l c w h h'
  · rw [show goodB l c = false by simp [goodB, h]]; exact good_no0 l c w h

end Go.Proofs.Ytkecnjahknjblaa
