/-
  LabelOrder
-/
import Derived.Test.YtkecnjahknjblaaAwake
import Derived.Deep.RegionHeld3
import Derived.Deep.DrawnRows
import Derived.Lib.QuietBelow
import Derived.BigQuiet
namespace Go.Proofs.Ytkecnjahknjblaa
open Go.RowKit
attribute [local go_sem ↓] Go.wp_at_zero Go.wp_at_succ

/-- Six cells of the call's own stay, whatever else is laid behind them. -/
theorem keep6 {w a b : World} {x0 x1 x2 x3 x4 x5 : Value}
    (h : Below w.heap.size w a ∧ w.heap.size + 2 < a.heap.size ∧ a.cell? ⟨w.heap.size, 0, none⟩ = some x0 ∧ a.cell? ⟨w.heap.size, 1, none⟩ = some x1 ∧ a.cell? ⟨w.heap.size + 1, 0, none⟩ = some x2 ∧ a.cell? ⟨w.heap.size + 1, 1, none⟩ = some x3 ∧ a.cell? ⟨w.heap.size + 1 + 1, 0, none⟩ = some x4 ∧ a.cell? ⟨w.heap.size + 1 + 1, 1, none⟩ = some x5)
    (k : Below a.heap.size a b) :
    Below w.heap.size w b ∧ w.heap.size + 2 < b.heap.size ∧ b.cell? ⟨w.heap.size, 0, none⟩ = some x0 ∧ b.cell? ⟨w.heap.size, 1, none⟩ = some x1 ∧ b.cell? ⟨w.heap.size + 1, 0, none⟩ = some x2 ∧ b.cell? ⟨w.heap.size + 1, 1, none⟩ = some x3 ∧ b.cell? ⟨w.heap.size + 1 + 1, 0, none⟩ = some x4 ∧ b.cell? ⟨w.heap.size + 1 + 1, 1, none⟩ = some x5 := by
  obtain ⟨h0, h1, c0, c1, c2, c3, c4, c5⟩ := h
  have hs := k.size
  refine ⟨below_next h0 k, by omega, ?_, ?_, ?_, ?_, ?_, ?_⟩
  all_goals
    rw [k.cell (by simp only; omega)]
    assumption

/-- The law's walk, the outcomes of its tests laid down ahead. -/
def OrderCase (al ac bl bc cl cc : Int) : Prop := ∀ w : World,
    Calls Try.prog 3 #[.agg #[.int .i64 al, .int .i64 ac], .agg #[.int .i64 bl, .int .i64 bc], .agg #[.int .i64 cl, .int .i64 cc]] w fun e w' => e = .returned (.bool true) ∧ Below w.heap.size w w'

theorem regrown_cell (W : World) (d : Nat) (os : Array Obj) (b o : Nat) (h : b < W.heap.size) : (Sort.grow (redrawn W d) os).cell? ⟨b, o, none⟩ = W.cell? ⟨b, o, none⟩ :=
  (below_regrown W d os).cell (p := ⟨b, o, none⟩) h
attribute [local go_sem] regrown_cell
theorem below_of_regrown {W w' : World} (h : ∃ p : Regrown, w' = Sort.grow (redrawn W p.d) p.os) : Below W.heap.size W w' := by
  obtain ⟨p, rfl⟩ := h
  exact below_regrown W p.d p.os

set_option maxHeartbeats 1000000 in
set_option maxRecDepth 100000 in
theorem order_no (al ac bl bc cl cc : Int) (h1 : leqB al ac al ac = true) (h2 : leqB al ac bl bc = false) : OrderCase al ac bl bc cl cc := by
  intro w
  go_enter Try.func3, Try.ntmps3
  go_wp2_with fail
  refine wp_region_quiet_below (by kernel_rfl) (by kernel_rfl) ?_
  repeat (first | go_big_quiet_skip | quiet_step (exact Calls.regrown_of (leq_any _ _ _ _ _)))
  refine wpQuiet_nil ?_
  intro w1 hw'
  have hB := below_of_regrown hw'
  clear hw'
  obtain ⟨hc, hf⟩ := bcell hB
  go_wp2_with fail
  refine (awake_any _).mono ?_
  rintro e w2 ⟨rfl, hb⟩
  replace hB := below_next hB hb
  clear hb hc hf
  obtain ⟨hc, hf⟩ := bcell hB
  go_wp2_with fail
  refine (leq_any _ _ _ _ _).mono ?_
  rintro e w3 ⟨rfl, hb⟩
  replace hB := below_next hB hb
  clear hb hc hf
  go_wp2
  go_ret
  exact ⟨rfl, (below3 _ _ _ _).trans (hB.mono (by simp; omega))⟩

set_option maxHeartbeats 2000000 in
set_option maxRecDepth 100000 in
theorem order_yes (al ac bl bc cl cc : Int) (h1 : leqB al ac al ac = true) (h2 : leqB al ac bl bc = true) (h3 : leqB bl bc al ac = false) (h4 : (al == bl) = false ∨ (al == bl) = true ∧ (ac == bc) = false)
    (h5 : leqB bl bc cl cc = false ∨ leqB bl bc cl cc = true ∧ leqB al ac cl cc = true) : OrderCase al ac bl bc cl cc := by
  intro w
  rcases h4 with h4 | ⟨h4, h4'⟩ <;> rcases h5 with h5 | ⟨h5, h6⟩
  all_goals
    go_enter Try.func3, Try.ntmps3
    go_wp2_with fail
    go_region_held3 (fun w' => Below w.heap.size w w' ∧ w.heap.size + 2 < w'.heap.size
       ∧ w'.cell? ⟨w.heap.size, 0, none⟩ = some (.int .i64 al) ∧ w'.cell? ⟨w.heap.size, 1, none⟩ = some (.int .i64 ac) ∧ w'.cell? ⟨w.heap.size + 1, 0, none⟩ = some (.int .i64 bl) ∧ w'.cell? ⟨w.heap.size + 1, 1, none⟩ = some (.int .i64 bc) ∧ w'.cell? ⟨w.heap.size + 1 + 1, 0, none⟩ = some (.int .i64 cl) ∧ w'.cell? ⟨w.heap.size + 1 + 1, 1, none⟩ = some (.int .i64 cc))
      (first | (refine ⟨(below3 _ _ _ _).drew, ?_⟩ <;> simp [go_sem]; done) | exact keep6 (by assumption) (by assumption))
      (first | (go_at_call 7; refine (leq_any _ _ _ _ _).mono ?_; rintro e w1 ⟨rfl, hb⟩))
    rename_i hS
    go_wp2_with (first | (go_at_call 8; refine (awake_any _).mono ?_; rintro e w2 ⟨rfl, hb⟩; replace hS := keep6 hS hb; clear hb) | (go_at_call 7; refine (leq_any _ _ _ _ _).mono ?_; rintro e w2 ⟨rfl, hb⟩; replace hS := keep6 hS hb; clear hb))
    go_ret
    exact ⟨rfl, hS.1⟩

set_option maxHeartbeats 2000000 in
set_option maxRecDepth 100000 in
theorem order_same (al ac cl cc : Int) (h1 : leqB al ac al ac = true) (h5 : leqB al ac cl cc = false ∨ leqB al ac cl cc = true) : OrderCase al ac al ac cl cc := by
  intro w
  have h4 : (al == al) = true := by simp
  have h4' : (ac == ac) = true := by simp
  rcases h5 with h5 | h5
  all_goals
    go_enter Try.func3, Try.ntmps3
    go_wp2_with fail
    go_region_held3 (fun w' => Below w.heap.size w w' ∧ w.heap.size + 2 < w'.heap.size
       ∧ w'.cell? ⟨w.heap.size, 0, none⟩ = some (.int .i64 al) ∧ w'.cell? ⟨w.heap.size, 1, none⟩ = some (.int .i64 ac) ∧ w'.cell? ⟨w.heap.size + 1, 0, none⟩ = some (.int .i64 al) ∧ w'.cell? ⟨w.heap.size + 1, 1, none⟩ = some (.int .i64 ac) ∧ w'.cell? ⟨w.heap.size + 1 + 1, 0, none⟩ = some (.int .i64 cl) ∧ w'.cell? ⟨w.heap.size + 1 + 1, 1, none⟩ = some (.int .i64 cc))
      (first | (refine ⟨(below3 _ _ _ _).drew, ?_⟩ <;> simp [go_sem]; done) | exact keep6 (by assumption) (by assumption))
      (first | (go_at_call 7; refine (leq_any _ _ _ _ _).mono ?_; rintro e w1 ⟨rfl, hb⟩))
    rename_i hS
    go_wp2_with (first | (go_at_call 8; refine (awake_any _).mono ?_; rintro e w2 ⟨rfl, hb⟩; replace hS := keep6 hS hb; clear hb) | (go_at_call 7; refine (leq_any _ _ _ _ _).mono ?_; rintro e w2 ⟨rfl, hb⟩; replace hS := keep6 hS hb; clear hb))
    go_ret
    exact ⟨rfl, hS.1⟩

theorem leqB_iff (al ac bl bc : Int) : leqB al ac bl bc = true ↔ al ≤ bl ∧ sub ac bc = true := by
  rw [leqB_sub]; simp

theorem order_any (al ac bl bc cl cc : Int) (ha : In64 ac) (hb : In64 bc) : OrderCase al ac bl bc cl cc := by
  have h1 : leqB al ac al ac = true := (leqB_iff _ _ _ _).2 ⟨by omega, sub_refl _⟩
  have tr : leqB al ac bl bc = true → leqB bl bc cl cc = true → leqB al ac cl cc = true := fun h k => by
    rw [leqB_iff] at *
    exact ⟨by omega, sub_trans _ _ _ h.2 k.2⟩
  cases h2 : leqB al ac bl bc
  · exact order_no al ac bl bc cl cc h1 h2
  · have h5 : leqB bl bc cl cc = false ∨ leqB bl bc cl cc = true ∧ leqB al ac cl cc = true := by
      cases h : leqB bl bc cl cc
      · exact Or.inl rfl
      · exact Or.inr ⟨rfl, tr h2 h⟩
    by_cases e : al = bl ∧ ac = bc
    · obtain ⟨rfl, rfl⟩ := e
      exact order_same al ac cl cc h1 (by cases h : leqB al ac cl cc <;> simp)
    · have h3 : leqB bl bc al ac = false := by
        cases h : leqB bl bc al ac
        · rfl
        · rw [leqB_iff] at h h2
          exact (e ⟨by omega, sub_anti _ _ ha hb h2.2 h.2⟩).elim
      refine order_yes al ac bl bc cl cc h1 h2 h3 ?_ h5
      by_cases e1 : al = bl
      · exact Or.inr ⟨by simp [e1], by simp; exact fun e2 => e ⟨e1, e2⟩⟩
      · exact Or.inl (by simp [e1])

end Go.Proofs.Ytkecnjahknjblaa
