/-
  What buffer's Put comes to.
-/
import Derived.Test.YtiookbmffdmdeaaHas
import Derived.Lib.QuietBelow
namespace Go.Proofs.Ytiookbmffdmdeaa
open Go.RowKit

theorem below_drewN (a : World) {m : Nat} (n : Nat) : Below m a (a.drewN n) := ⟨rfl, rfl, rfl, Nat.le_refl _, fun _ _ => rfl⟩

set_option maxHeartbeats 400000 in
theorem put_nil (x : Wk) (w : World) : Calls Try.prog 9 #[.pointer none, .agg #[.int .i64 x.t, .int .i64 x.e]] w fun e w' => e = .returned (.bool false) ∧ Below w.heap.size w w' := by
  obtain ⟨x, y⟩ := x
  simp only
  go_enter Try.func9, Try.ntmps9
  go_wp2_with fail
  go_quiet (fail)
  go_wp2
  go_ret
  exact ⟨rfl, (below1 _ _).trans (below_drewN _ _)⟩

set_option maxHeartbeats 1000000 in
theorem put_full (B n : Nat) (l : List Wk) (x : Wk) (hf : l.length = n) (w : World) (hA : AtB w B n l) :
    Calls Try.prog 9 #[.pointer (some ⟨B, 0, none⟩), .agg #[.int .i64 x.t, .int .i64 x.e]] w fun e w' => e = .returned (.bool false) ∧ Below w.heap.size w w' := by
  obtain ⟨c0, c1⟩ := hA.tops
  have hBl := hA.lt
  rw [hf] at c0
  clear hA hf l
  obtain ⟨x, y⟩ := x
  simp only
  have hnn : ((n : Int) == n) = true := by simp
  go_enter Try.func9, Try.ntmps9
  go_wp2_with fail
  have hb := below1 w (.cells #[.int .i64 x, .int .i64 y] 31)
  have e0 := ((bcell hb).1 B 16 hBl).trans c0
  have e1 := ((bcell hb).1 B 17 hBl).trans c1
  go_quiet (fail)
  go_wp2
  go_ret
  exact ⟨rfl, (below1 _ _).trans (below_drewN _ _)⟩

set_option maxHeartbeats 2000000 in
theorem put_not (B n : Nat) (l : List Wk) (x : Wk) (h8 : l.length ≤ 8) (hf : ((l.length : Int) == n) = false) (hh : hasB l x.t = true) (w : World) (hA : AtB w B n l) :
    Calls Try.prog 9 #[.pointer (some ⟨B, 0, none⟩), .agg #[.int .i64 x.t, .int .i64 x.e]] w fun e w' => e = .returned (.bool false) ∧ Below w.heap.size w w' := by
  obtain ⟨c0, c1⟩ := hA.tops
  have hBl := hA.lt
  obtain ⟨x, y⟩ := x
  simp only at hh ⊢
  have hb := below1 w (.cells #[.int .i64 x, .int .i64 y] 31)
  obtain ⟨W, hW⟩ : ∃ W, W = w.alloc (.cells #[.int .i64 x, .int .i64 y] 31) := ⟨_, rfl⟩
  have HH := hide (has_any B n l x h8 W.drew ((hW ▸ hA.below hb).same rfl))
  rw [hh] at HH
  have e0 : W.cell? ⟨B, 16, none⟩ = _ := hW ▸ ((bcell hb).1 B 16 hBl).trans c0
  have e1 : W.cell? ⟨B, 17, none⟩ = _ := hW ▸ ((bcell hb).1 B 17 hBl).trans c1
  have e2 : W.cell? ⟨w.heap.size, 0, none⟩ = some (.int .i64 x) := hW ▸ Lib.cell_of_heap (heap_alloc_new _ _) 0
  have z0 : B < W.heap.size := by rw [hW]; simp; omega
  have z1 : w.heap.size < W.heap.size := by rw [hW]; simp
  have HB : Hid (Below w.heap.size w W) := hW ▸ hb
  clear hA hh hb c0 c1 hBl
  generalize l.length = m at *
  go_enter Try.func9, Try.ntmps9
  go_wp2_with fail
  rw [← hW]
  clear hW
  go_region_held3 (fun w' => w'.cell? ⟨B, 16, none⟩ = some (.int .i64 (m : Int)) ∧ w'.cell? ⟨B, 17, none⟩ = some (.int .i64 (n : Int)) ∧ w'.cell? ⟨w.heap.size, 0, none⟩ = some (.int .i64 x)) (first | (refine ⟨?_, ?_, ?_⟩ <;> assumption) | go_keep) (first | (go_at_call 16; refine HH.out.mono ?_; rintro e w3 ⟨rfl, hb3⟩; have y0 := ((bcell hb3).1 B 16 z0).trans e0; have y1 := ((bcell hb3).1 B 17 z0).trans e1; have y2 := ((bcell hb3).1 w.heap.size 0 z1).trans e2))
  go_wp2
  go_ret
  exact ⟨rfl, below_next HB.out (undrew hb3)⟩

set_option maxHeartbeats 2000000 in
theorem put_yes (B n : Nat) (l : List Wk) (x : Wk) (h8 : l.length < 8) (hf : ((l.length : Int) == n) = false) (hh : hasB l x.t = false) (w : World) (hA : AtB w B n l) :
    Calls Try.prog 9 #[.pointer (some ⟨B, 0, none⟩), .agg #[.int .i64 x.t, .int .i64 x.e]] w fun e w' => e = .returned (.bool true) ∧ Now B n (l ++ [x]) w w' := by
  obtain ⟨c0, c1⟩ := hA.tops
  have hBl := hA.lt
  have HP : Hid (∀ W, AtB W B n l → _) := fun W h => AtB.put (w := W) h h8 x
  obtain ⟨x, y⟩ := x
  simp only at hh HP ⊢
  have hb := below1 w (.cells #[.int .i64 x, .int .i64 y] 31)
  obtain ⟨W, hW⟩ : ∃ W, W = w.alloc (.cells #[.int .i64 x, .int .i64 y] 31) := ⟨_, rfl⟩
  have HH := hide (has_any B n l x (Nat.le_of_lt h8) W.drew ((hW ▸ hA.below hb).same rfl))
  rw [hh] at HH
  have e0 : W.cell? ⟨B, 16, none⟩ = _ := hW ▸ ((bcell hb).1 B 16 hBl).trans c0
  have e1 : W.cell? ⟨B, 17, none⟩ = _ := hW ▸ ((bcell hb).1 B 17 hBl).trans c1
  have e2 : W.cell? ⟨w.heap.size, 0, none⟩ = some (.int .i64 x) := hW ▸ Lib.cell_of_heap (heap_alloc_new _ _) 0
  have e3 : W.cell? ⟨w.heap.size, 1, none⟩ = some (.int .i64 y) := hW ▸ Lib.cell_of_heap (heap_alloc_new _ _) 1
  have z0 : B < W.heap.size := by rw [hW]; simp; omega
  have z1 : w.heap.size < W.heap.size := by rw [hW]; simp
  have HB : Hid (Below w.heap.size w W) := hW ▸ hb
  have HA : Hid (∀ W', Below W.heap.size W W' → AtB W' B n l) := fun W' k => (hW ▸ hA.below hb : AtB W B n l).below k
  have hw1 : IntKind.i64.wrap ((l.length : Int) + 1) = ((l.length + 1 : Nat) : Int) := by rw [wrapB (by omega)]; omega
  clear hA hh hb c0 c1
  have d0 : (0 : Int) ≤ (l.length : Int) := by omega
  have d8 : (l.length : Int) < 8 := by omega
  generalize l.length = m at *
  generalize ((m + 1 : Nat) : Int) = M1 at *
  go_enter Try.func9, Try.ntmps9
  go_wp2_with fail
  rw [← hW]
  clear hW
  go_region_held3 (fun w' => w'.cell? ⟨B, 16, none⟩ = some (.int .i64 (m : Int)) ∧ w'.cell? ⟨B, 17, none⟩ = some (.int .i64 (n : Int)) ∧ w'.cell? ⟨w.heap.size, 0, none⟩ = some (.int .i64 x)) (first | (refine ⟨?_, ?_, ?_⟩ <;> assumption) | go_keep) (first | (go_at_call 16; refine HH.out.mono ?_; rintro e w3 ⟨rfl, hb3⟩; have y0 := ((bcell hb3).1 B 16 z0).trans e0; have y1 := ((bcell hb3).1 B 17 z0).trans e1; have y2 := ((bcell hb3).1 w.heap.size 0 z1).trans e2))
  have y3 := ((bcell hb3).1 w.heap.size 1 z1).trans e3
  have hA3 := HA.out w3 (undrew hb3)
  obtain ⟨q0, q1⟩ := hA3.cells (k := m) (by omega)
  have f0 := hA3.frozen (m * 2)
  have f1 := hA3.frozen (m * 2 + 1)
  have f2 := hA3.frozen 16
  have HA3 := hide hA3
  have HB3 := hide (undrew hb3)
  clear hA3 hb3 HH HA e0 e1 e2 e3 y1
  go_wp2_with fail
  have hne : B ≠ w.heap.size := by omega
  have k0 : ((w3.setCell ⟨B, m * 2, none⟩ (.int .i64 x)).setCell ⟨B, m * 2 + 1, none⟩ (.int .i64 y)).drew.cell? ⟨B, 16, none⟩ = some (.int .i64 (m : Int)) := ((World.cell?_setCell_other _ _ _ _ (by intro e; simp only [Addr.mk.injEq] at e; omega)).trans (World.cell?_setCell_other _ _ _ _ (by intro e; simp only [Addr.mk.injEq] at e; omega))).trans y0
  have k2 : ((w3.setCell ⟨B, m * 2, none⟩ (.int .i64 x)).setCell ⟨B, m * 2 + 1, none⟩ (.int .i64 y)).drew.cell? ⟨w.heap.size, 0, none⟩ = some (.int .i64 x) := ((World.cell?_setCell_other _ _ _ _ (by intro e; simp only [Addr.mk.injEq] at e; omega)).trans (World.cell?_setCell_other _ _ _ _ (by intro e; simp only [Addr.mk.injEq] at e; omega))).trans y2
  have k3 : ((w3.setCell ⟨B, m * 2, none⟩ (.int .i64 x)).setCell ⟨B, m * 2 + 1, none⟩ (.int .i64 y)).drew.cell? ⟨w.heap.size, 1, none⟩ = some (.int .i64 y) := ((World.cell?_setCell_other _ _ _ _ (by intro e; simp only [Addr.mk.injEq] at e; omega)).trans (World.cell?_setCell_other _ _ _ _ (by intro e; simp only [Addr.mk.injEq] at e; omega))).trans y3
  clear h8 hBl hne z0 z1
  go_region_held3 (fun w' => w'.cell? ⟨B, 16, none⟩ = some (.int .i64 (m : Int)) ∧ w'.cell? ⟨w.heap.size, 0, none⟩ = some (.int .i64 x) ∧ w'.cell? ⟨w.heap.size, 1, none⟩ = some (.int .i64 y)) (first | (refine ⟨?_, ?_, ?_⟩ <;> assumption) | go_keep) (fail)
  go_wp2
  go_ret
  refine ⟨rfl, (HP.out _ HA3.out).same rfl, ?_⟩
  exact (Turn.of_below (B := B) HB.out).trans (((((Turn.of_below HB3.out).set _ _).set _ _).set _ _).drew)

/-- Put, of any buffer. -/
theorem put_any (B n : Nat) (l : List Wk) (x : Wk) (hO : Ok n l) (w : World) (hA : AtB w B n l) :
    Calls Try.prog 9 #[.pointer (some ⟨B, 0, none⟩), .agg #[.int .i64 x.t, .int .i64 x.e]] w fun e w' => e = .returned (.bool (putB n l x)) ∧ Now B n (putL n l x) w w' := by
  have h1 := hO.len
  have h2 := hO.n8
  by_cases hf : l.length = n
  · have e : putB n l x = false := by unfold putB; rw [show decide (l.length < n) = false from decide_eq_false (by omega)]; rfl
    rw [putL_no e, e]
    exact (put_full B n l x hf w hA).mono fun e w' ⟨k1, k2⟩ => ⟨k1, hA.below k2, Turn.of_below k2⟩
  · have hd : decide (l.length < n) = true := decide_eq_true (by omega)
    have hf' : ((l.length : Int) == n) = false := by simp; omega
    cases hh : hasB l x.t
    · have e : putB n l x = true := by unfold putB; rw [hd, hh]; rfl
      rw [putL_yes e, e]
      exact put_yes B n l x (by omega) hf' hh w hA
    · have e : putB n l x = false := by unfold putB; rw [hd, hh]; rfl
      rw [putL_no e, e]
      exact (put_not B n l x (by omega) hf' hh w hA).mono fun e w' ⟨k1, k2⟩ => ⟨k1, hA.below k2, Turn.of_below k2⟩

end Go.Proofs.Ytiookbmffdmdeaa
