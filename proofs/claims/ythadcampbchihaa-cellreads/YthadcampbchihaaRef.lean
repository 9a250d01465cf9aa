/-
  What the document's calls come to, those that write no row.
-/
import Derived.Test.YthadcampbchihaaApp
import Derived.Laws.MakeOwn
import Derived.Deep.DeepCutAuto
namespace Go.Proofs.Ythadcampbchihaa
open Go.RowKit

theorem cells_zero (n : Nat) : madeCells #[Value.int .i64 0] n = (cZ (List.replicate n 0)).toArray := by
  apply Array.ext
  · simp [madeCells, cZ]
  · intro i h1 h2
    simp [madeCells, cZ, Nat.mod_one]
/-- So many zeros, new. -/
theorem make_z (n : Nat) (hn : n ≤ 4) (i : Int) (hi : i = (n : Int)) (W : World) : (Instr.makeSlice 31 (.int .i64 i) (.int .i64 i)).run Try.prog W = .ok (.slice (some ⟨W.heap.size, 0, none⟩) n n) (W.alloc (.cells (cZ (List.replicate n 0)).toArray 3)) := by
  obtain ⟨i0, hi0, hz0, hz1, hz2⟩ := info_parts info3
  subst hi
  have h := run_make (P := Try.prog) W 31 3 i0 _ Try.underlying31 hi0 hz0 .i64 .i64 n n (by omega) (by omega) (by rw [hz2]; omega) (by omega)
  simp only [Int.toNat_natCast, hz1, Nat.mul_one] at h
  rw [← cells_zero]
  exact h
theorem zeros_own (n : Nat) (hn : n ≤ 4) (W : World) : (W.alloc (.cells (cZ (List.replicate n 0)).toArray 3)).ownsRow W.heap.size 3 1 (.slice (some ⟨W.heap.size, 0, none⟩) n n) n (cZ (List.replicate n 0)) :=
  World.ownsRow_lit W _ n (Nat.le_refl _) (by unfold maxLen; omega) (by simp [cZ])

set_option maxHeartbeats 1000000 in
theorem refNew_any (n : Int) (w : World) : Calls Try.prog 8 #[.int .i64 n] w fun e w' => e = .returned (.pointer (some ⟨w.heap.size + 1, 0, none⟩)) ∧ (∃ u, AtR w' (w.heap.size + 1) w.heap.size u (ws0 (cut4 n))) ∧ Below w.heap.size w w' := by
  have H4 := (cut4_ok n).2
  have HE := cut4_eq n
  have fin : ∀ N, N ≤ 4 → (∃ u, AtR ((w.alloc (.cells (cZ (List.replicate N 0)).toArray 3)).alloc (.cells #[.int .i64 0, .int .i64 0, .slice (some ⟨w.heap.size, 0, none⟩) N N, .int .i64 0] 33)) (w.heap.size + 1) w.heap.size u (ws0 N)) ∧ Below w.heap.size w ((w.alloc (.cells (cZ (List.replicate N 0)).toArray 3)).alloc (.cells #[.int .i64 0, .int .i64 0, .slice (some ⟨w.heap.size, 0, none⟩) N N, .int .i64 0] 33)) := fun N hN => by
    refine ⟨⟨.slice (some ⟨w.heap.size, 0, none⟩) N N, ?_, ?_⟩, (below1 _ _).alloc (by simp) _⟩
    · have := heap_alloc_new (w.alloc (.cells (cZ (List.replicate N 0)).toArray 3)) (.cells #[.int .i64 0, .int .i64 0, .slice (some ⟨w.heap.size, 0, none⟩) N N, .int .i64 0] 33)
      rw [show (w.alloc (.cells (cZ (List.replicate N 0)).toArray 3)).heap.size = w.heap.size + 1 from by simp] at this
      exact this
    · have := (zeros_own N hN w).alloc (.cells #[.int .i64 0, .int .i64 0, .slice (some ⟨w.heap.size, 0, none⟩) N N, .int .i64 0] 33)
      simpa [ws0] using this
  have hmk := make_z (cut4 n) H4 (min (max n 1) 4) HE.symm
  have HF := hide (fin _ H4)
  clear fin H4
  generalize cut4 n = N at *
  by_cases h1 : n < 1
  · rw [show min (max n 1) 4 = 1 by omega] at hmk
    clear HE
    go_enter Try.func8, Try.ntmps8
    go_wp2
    go_ret
    refine ⟨by simp, HF.out⟩
  · by_cases h2 : 4 < n
    · rw [show min (max n 1) 4 = 4 by omega] at hmk
      clear HE
      go_enter Try.func8, Try.ntmps8
      go_wp2
      go_ret
      refine ⟨by simp, HF.out⟩
    · rw [show min (max n 1) 4 = n by omega] at hmk
      clear HE
      go_enter Try.func8, Try.ntmps8
      go_wp2
      go_ret
      refine ⟨by simp, HF.out⟩

set_option maxHeartbeats 1000000 in
theorem refStart_any (R base : Nat) (u : Value) (s : Ws) (hO : Okw s) (w : World) (hR : AtR w R base u s) :
    Calls Try.prog 20 #[.pointer (some ⟨R, 0, none⟩)] w fun e w' => e = .returned (.tuple #[.int .i64 (staN s), .int .i64 (staE s)]) ∧ Below w.heap.size w w' := by
  obtain ⟨c0, c1, _, _, _⟩ := hR.cells
  have hRl := hR.lt
  have he0 := hO.e0
  have he1 := hO.e1
  clear hR hO
  by_cases h0 : s.wr = 0
  · rw [show staN s = 2 * s.e from if_pos h0, show staE s = 0 from if_pos h0]
    rw [show s.bg = s.e from if_pos h0] at c0
    have u1 : IntKind.i64.wrap (s.e + s.e) = 2 * s.e := by rw [show s.e + s.e = 2 * s.e from by omega]; exact wrapB (by omega)
    have h1 : ¬ s.e < s.e := by omega
    generalize 2 * s.e = Q at *
    generalize s.e = E at *
    clear h0 he0 he1
    go_enter Try.func20, Try.ntmps20
    go_wp2_with fail
    go_quiet (fail)
    have hbW : Below w.heap.size w (w.drewN nq) := below_drewN _ _
    generalize w.drewN nq = w3 at hbW ⊢
    have d0 := ((bcell hbW).1 R 0 hRl).trans c0
    have d1 := ((bcell hbW).1 R 1 hRl).trans c1
    clear c0 c1
    go_wp2_with fail
    go_quiet (fail)
    go_wp2
    go_ret2
    exact ⟨by first | rfl | (rw [u1]), below_next hbW (below_drewN _ _)⟩
  · rw [show staN s = 0 from if_neg h0, show staE s = 17 from if_neg h0]
    rw [show s.bg = s.e + 1 from if_neg h0] at c0
    have h1 : s.e < s.e + 1 := by omega
    generalize s.e + 1 = Q at *
    generalize s.e = E at *
    clear h0 he0 he1
    go_enter Try.func20, Try.ntmps20
    go_wp2_with fail
    go_quiet (fail)
    go_wp2
    go_ret2
    exact ⟨rfl, below_drewN _ _⟩

set_option maxHeartbeats 1000000 in
theorem refWord_any (R base : Nat) (u : Value) (s : Ws) (i : Int) (w : World) (hR : AtR w R base u s) :
    Calls Try.prog 21 #[.pointer (some ⟨R, 0, none⟩), .int .i64 i] w fun e w' => e = .returned (.tuple #[.int .i64 (wrdN s.l i), .int .i64 (wrdE s.l i)]) ∧ w' = w := by
  obtain ⟨_, _, c2, _, _⟩ := hR.cells
  cases hb : hasI s.l i
  · rw [show wrdN s.l i = 0 from if_neg (by simp [hb]), show wrdE s.l i = 1 from if_neg (by simp [hb])]
    obtain ⟨av, ac, rfl⟩ := owns_slice hR.row
    clear hR
    rcases has_not hb with h | ⟨h1, h2⟩
    · clear hb
      go_enter Try.func21, Try.ntmps21
      go_wp2
      go_ret2
      exact ⟨rfl, rfl⟩
    · have h3 : (s.l.length : Int) ≤ i := by omega
      have h4 : ¬ i < 0 := by omega
      clear hb
      go_enter Try.func21, Try.ntmps21
      go_wp2
      go_ret2
      exact ⟨rfl, rfl⟩
  · obtain ⟨k, rfl, hk⟩ := has_at hb
    rw [show wrdN s.l (k : Int) = gz s.l k from if_pos hb, show wrdE s.l (k : Int) = 0 from if_pos hb]
    obtain ⟨g, c, rfl, _, hg, hc, _⟩ := row_open hR.row (by omega)
    obtain ⟨ck, _⟩ := hc k hk
    have h1 : ¬ (k : Int) < 0 := by omega
    have h2 : (k : Int) < (s.l.length : Int) := by omega
    have h3 : ¬ (s.l.length : Int) ≤ (k : Int) := by omega
    have h4 : (0 : Int) ≤ (k : Int) := by omega
    clear hR hb hc
    generalize gz s.l k = G at *
    go_enter Try.func21, Try.ntmps21
    go_wp2
    go_ret2
    exact ⟨rfl, rfl⟩

set_option maxHeartbeats 1000000 in
theorem refSame_any (R base : Nat) (u : Value) (s : Ws) (hO : Okw s) (q : Int) (w : World) (hR : AtR w R base u s) :
    Calls Try.prog 22 #[.pointer (some ⟨R, 0, none⟩), .int .i64 q] w fun e w' => e = .returned (.int .i64 (samE s q)) ∧ Below w.heap.size w w' := by
  have HH := hide (refStart_any R base u s hO w hR)
  clear hR hO
  by_cases h0 : s.wr = 0
  · rw [show staN s = 2 * s.e from if_pos h0, show staE s = 0 from if_pos h0] at HH
    by_cases h1 : q = 2 * s.e
    · rw [show samE s q = 0 from if_pos ⟨h0, h1⟩]
      rw [← h1] at HH
      clear h0 h1
      go_enter Try.func22, Try.ntmps22
      go_wp2_with fail
      refine HH.out.mono ?_
      rintro e w2 ⟨rfl, hb⟩
      go_wp2
      go_ret
      exact ⟨rfl, hb⟩
    · rw [show samE s q = 17 from if_neg fun k => h1 k.2]
      clear h0
      generalize 2 * s.e = Q at *
      have h2 : ¬ Q = q := fun k => h1 k.symm
      go_enter Try.func22, Try.ntmps22
      go_wp2_with fail
      refine HH.out.mono ?_
      rintro e w2 ⟨rfl, hb⟩
      go_wp2
      go_ret
      exact ⟨rfl, hb⟩
  · rw [show staN s = 0 from if_neg h0, show staE s = 17 from if_neg h0] at HH
    rw [show samE s q = 17 from if_neg fun k => h0 k.1]
    clear h0
    go_enter Try.func22, Try.ntmps22
    go_wp2_with fail
    refine HH.out.mono ?_
    rintro e w2 ⟨rfl, hb⟩
    go_wp2
    go_ret
    exact ⟨rfl, hb⟩

/-- Does a task write? -/
def wriB (s : Ws) (t : Int) : Bool := decide (s.wr ≠ 0 ∧ s.wr = t)
set_option maxHeartbeats 1000000 in
theorem writes_any (R base : Nat) (u : Value) (s : Ws) (t : Int) (w : World) (hR : AtR w R base u s) :
    Calls Try.prog 27 #[.pointer (some ⟨R, 0, none⟩), .int .i64 t] w fun e w' => e = .returned (.bool (wriB s t)) ∧ Below w.heap.size w w' := by
  obtain ⟨c0, c1, _, c3, _⟩ := hR.cells
  clear hR
  by_cases h0 : s.wr = 0
  · rw [show wriB s t = false from decide_eq_false fun k => k.1 h0]
    rw [show s.bg = s.e from if_pos h0] at c0
    have h1 : ¬ s.e < s.e := by omega
    have h1' : decide (s.e < s.e) = false := decide_eq_false h1
    generalize s.e = E at *
    clear h0
    go_enter Try.func27, Try.ntmps27
    go_wp2_with fail
    go_quiet (fail)
    go_wp2
    go_ret
    exact ⟨rfl, below_drewN _ _⟩
  · rw [show s.bg = s.e + 1 from if_neg h0] at c0
    have h1 : s.e < s.e + 1 := by omega
    have h1' : decide (s.e < s.e + 1) = true := decide_eq_true h1
    generalize s.e + 1 = Q at *
    generalize s.e = E at *
    by_cases h2 : s.wr = t
    · rw [show wriB s t = true from decide_eq_true ⟨h0, h2⟩]
      rw [h2] at c3
      clear h0 h2
      go_enter Try.func27, Try.ntmps27
      go_wp2_with fail
      go_quiet (fail)
      go_wp2
      go_ret
      exact ⟨by simp, below_drewN _ _⟩
    · rw [show wriB s t = false from decide_eq_false fun k => h2 k.2]
      generalize s.wr = W at *
      have h3 : (W == t) = false := by simpa using h2
      go_enter Try.func27, Try.ntmps27
      go_wp2_with fail
      go_quiet (fail)
      go_wp2
      go_ret
      exact ⟨by simp, below_drewN _ _⟩

end Go.Proofs.Ythadcampbchihaa
