/-
  What the program's New, Free, Size, may, Try and Acquire come to.
-/
import Derived.Test.YtgldhlcdnijecaaDel
import Derived.Deep.DeepCutAuto
import Derived.Deep.RegionHeld3
import Derived.Lib.QuietBelow
namespace Go.Proofs.Ytgldhlcdnijecaa
open Go.RowKit

def sizeOk (n : Int) : Int := min (max n 1) 16
theorem size_range (n : Int) : 1 ≤ sizeOk n ∧ sizeOk n ≤ 16 := by unfold sizeOk; omega
def newS (n : Int) : Sm := ⟨sizeOk n, sizeOk n, []⟩
theorem new_ok (n : Int) : Okw (newS n) := by
  obtain ⟨h1, h2⟩ := size_range n
  exact ⟨h1, h2, by show 0 ≤ sizeOk n; omega, Int.le_refl _, fun x hx => by simp [newS] at hx⟩

set_option maxHeartbeats 400000 in
theorem new_any (n : Int) (w : World) : Calls Try.prog 8 #[.int .i64 n] w fun e w' => e = .returned (.pointer (some ⟨w.heap.size, 0, none⟩)) ∧ AtS w' w.heap.size w.heap.size (.slice none 0 0) (newS n) ∧ Below w.heap.size w w' := by
  obtain ⟨h1, h2⟩ := size_range n
  obtain ⟨X, hX⟩ : ∃ X, X = max n 1 := ⟨_, rfl⟩
  have hN : sizeOk n = min X 16 := by rw [hX]; rfl
  have hmx : ∀ (ats : Array TypeId) (ty : TypeId), Builtin.max_ ats ty #[.int .i64 n, .int .i64 1] = pure (.int .i64 X) := fun _ _ => by
    by_cases h : n < 1
    · simp [Builtin.max_, Builtin.max2, h, show X = 1 by omega]
    · simp [Builtin.max_, Builtin.max2, h, show X = n by omega]
  have hmn : ∀ (ats : Array TypeId) (ty : TypeId), Builtin.min_ ats ty #[.int .i64 X, .int .i64 16] = pure (.int .i64 (sizeOk n)) := fun _ _ => by
    by_cases h : 16 < X
    · simp [Builtin.min_, Builtin.min2, h, show sizeOk n = 16 by omega]
    · simp [Builtin.min_, Builtin.min2, h, show sizeOk n = X by omega]
  unfold newS
  clear hX hN h1 h2
  generalize sizeOk n = N at *
  go_enter Try.func8, Try.ntmps8
  go_wp2
  go_ret
  exact ⟨rfl, ⟨heap_alloc_new _ _, World.ownsRow_nil _ _ _ _⟩, (Below.refl _ _).alloc (Nat.le_refl _) _⟩

set_option maxHeartbeats 400000 in
theorem free_any (M base : Nat) (v : Value) (s : Sm) (w : World) (hM : AtS w M base v s) : Calls Try.prog 11 #[.pointer (some ⟨M, 0, none⟩)] w fun e w' => e = .returned (.int .i64 s.f) ∧ w' = w := by
  obtain ⟨_, c1, _, _⟩ := hM.cells
  clear hM
  generalize s.f = H at *
  go_enter Try.func11, Try.ntmps11
  go_wp2
  go_ret
  exact ⟨rfl, rfl⟩
set_option maxHeartbeats 400000 in
theorem size_any (M base : Nat) (v : Value) (s : Sm) (w : World) (hM : AtS w M base v s) : Calls Try.prog 12 #[.pointer (some ⟨M, 0, none⟩)] w fun e w' => e = .returned (.int .i64 s.n) ∧ w' = w := by
  obtain ⟨c0, _, _, _⟩ := hM.cells
  clear hM
  generalize s.n = H at *
  go_enter Try.func12, Try.ntmps12
  go_wp2
  go_ret
  exact ⟨rfl, rfl⟩
/-- Whether so many can be taken, of whatever number there are. -/
theorem may_of (p : Value) (n m : Int) (w : World) (h : Calls Try.prog 12 #[p] w fun e w' => e = .returned (.int .i64 n) ∧ w' = w) : Calls Try.prog 26 #[p, .int .i64 m] w fun e w' => e = .returned (.bool (decide (1 ≤ m ∧ m ≤ n))) ∧ w' = w := by
  have H := hide h
  clear h
  by_cases h1 : 1 ≤ m
  · by_cases h2 : m ≤ n
    · rw [decide_eq_true ⟨h1, h2⟩]
      go_enter Try.func26, Try.ntmps26
      go_wp2_with fail
      refine H.out.mono ?_
      rintro e w2 ⟨rfl, hw2⟩
      subst hw2
      go_wp2
      go_ret
      exact ⟨rfl, rfl⟩
    · rw [decide_eq_false (fun q => h2 q.2)]
      have q2 : decide (m ≤ n) = false := decide_eq_false h2
      clear h2
      go_enter Try.func26, Try.ntmps26
      go_wp2_with fail
      refine H.out.mono ?_
      rintro e w2 ⟨rfl, hw2⟩
      subst hw2
      go_wp2
      go_ret
      exact ⟨rfl, rfl⟩
  · rw [decide_eq_false (fun q => h1 q.1)]
    go_enter Try.func26, Try.ntmps26
    go_wp2
    go_ret
    exact ⟨rfl, rfl⟩
theorem may_any (M base : Nat) (v : Value) (s : Sm) (m : Int) (w : World) (hM : AtS w M base v s) : Calls Try.prog 26 #[.pointer (some ⟨M, 0, none⟩), .int .i64 m] w fun e w' => e = .returned (.bool (decide (may s m))) ∧ w' = w :=
  may_of _ _ _ _ (size_any M base v s w hM)

set_option maxHeartbeats 1000000 in
theorem try_any (M base : Nat) (v : Value) (s : Sm) (hO : Okw s) (hl : s.q.length ≤ 1000) (t m : Int) (w : World) (hM : AtS w M base v s) :
    Calls Try.prog 19 #[.pointer (some ⟨M, 0, none⟩), .int .i64 t, .int .i64 m] w fun e w' => e = .returned (.int .i64 (tryE s t m)) ∧ NowS M base v (tryS s t m) w w' := by
  have HM := hide hM
  have F := may_any M base v s m w hM
  have G := find_any M base v s hl t w hM
  obtain ⟨av, ac, rfl⟩ := owns_slice hM.row
  have hS : tryE s t m ≠ 0 → tryS s t m = s := fun h => if_neg h
  rcases try_cases s t m with ⟨e, h⟩ | ⟨e, h1, h2, h3⟩ | ⟨e, h1, h2, h3, h4⟩ | ⟨e, h1, h2, h3, h4, h5⟩
  · rw [hS (by rw [e]; decide), e]
    clear hM G e hS
    by_cases h1 : t < 1
    · clear F h
      go_enter Try.func19, Try.ntmps19
      go_wp2
      go_ret
      exact ⟨rfl, NowS.same HM.out (Below.refl _ _)⟩
    · have h2 : ¬ may s m := h.resolve_left h1
      rw [decide_eq_false h2] at F
      have HF := hide F
      clear F h h2
      go_enter Try.func19, Try.ntmps19
      go_wp2_with fail
      refine HF.out.mono ?_
      rintro e w2 ⟨rfl, hw2⟩
      subst hw2
      go_wp2
      go_ret
      exact ⟨rfl, NowS.same HM.out (Below.refl _ _)⟩
  · rw [hS (by rw [e]; decide), e]
    rw [decide_eq_true h2] at F
    obtain ⟨k, _, q2, _⟩ := idx_in h3
    rw [q2] at G
    have HF := hide F
    have HG := hide G
    have hk : (0 : Int) ≤ (k : Int) := by omega
    clear hM e hS F G h2 h3 q2
    go_enter Try.func19, Try.ntmps19
    go_wp2_with fail
    refine HF.out.mono ?_
    rintro e w2 ⟨rfl, hw2⟩
    subst hw2
    go_wp2_with fail
    refine HG.out.mono ?_
    rintro e w3 ⟨rfl, hb3⟩
    go_wp2
    go_ret
    exact ⟨rfl, NowS.same HM.out hb3⟩
  · rw [hS (by rw [e]; decide), e]
    rw [decide_eq_true h2] at F
    rw [idx_out h3] at G
    have HF := hide F
    have HG := hide G
    have HC := hide (fun W (k : Below w.heap.size w W) => (hM.below k).cells)
    have HL := hide h4
    clear hM e hS F G h2 h3 h4
    obtain ⟨L, hL⟩ : ∃ L, s.q.length = L := ⟨_, rfl⟩
    obtain ⟨f, hf⟩ : ∃ f, s.f = f := ⟨_, rfl⟩
    rw [hL] at HM HC HL ⊢
    rw [hf] at HC HL
    clear hL hf hl
    go_enter Try.func19, Try.ntmps19
    go_wp2_with fail
    refine HF.out.mono ?_
    rintro e w2 ⟨rfl, hw2⟩
    subst hw2
    go_wp2_with fail
    refine HG.out.mono ?_
    rintro e w3 ⟨rfl, hb3⟩
    have HB := hide hb3
    obtain ⟨_, c1, c2, _⟩ := HC.out _ hb3
    clear hb3 HF HG HC
    by_cases h5 : 0 < L
    · have i1 : (0 : Int) < (L : Int) := by omega
      clear HL h5
      go_wp2
      go_ret
      exact ⟨rfl, NowS.same HM.out HB.out⟩
    · have i1 : ¬ (0 : Int) < (L : Int) := by omega
      have i2 : f < m := HL.out.resolve_left h5
      clear HL h5
      go_wp2
      go_ret
      exact ⟨rfl, NowS.same HM.out HB.out⟩
  · rw [show tryS s t m = ⟨s.n, s.f - m, s.q⟩ from if_pos e, e]
    rw [decide_eq_true h2] at F
    rw [idx_out h3] at G
    have HF := hide F
    have HG := hide G
    have HC := hide (fun W (k : Below w.heap.size w W) => hM.below k)
    have hn : s.q.length = 0 := by rw [h4]; rfl
    rw [hn] at HM HC ⊢
    have hw64 : IntKind.i64.wrap (s.f - m) = s.f - m := wrapB (by have := hO.f0; have := hO.fn; have := hO.n16; have := h2.1; omega)
    clear hM e hS F G h3 h4 hn hl hO
    obtain ⟨D, hD⟩ : ∃ D, s.f - m = D := ⟨_, rfl⟩
    have HS : Hid (∀ W, Below w.heap.size w W → NowS M base (.slice av 0 ac) ⟨s.n, D, s.q⟩ w (W.setCell ⟨M, 1, none⟩ (.int .i64 D))) := hide fun W k => NowS.next (Mov.of_below k) (fun j hj => Or.inr hj) (NowS.setF (HC.out W k) D)
    obtain ⟨f, hf⟩ : ∃ f, s.f = f := ⟨_, rfl⟩
    have HFF := hide hf
    rw [hf] at hD
    rw [hf, hD] at hw64 ⊢
    have HD := hide hD
    have i2 : decide (f < m) = false := decide_eq_false (by omega)
    clear hD h2 hf h5
    go_enter Try.func19, Try.ntmps19
    go_wp2_with fail
    refine HF.out.mono ?_
    rintro e w2 ⟨rfl, hw2⟩
    subst hw2
    go_wp2_with fail
    refine HG.out.mono ?_
    rintro e w3 ⟨rfl, hb3⟩
    have HB := hide hb3
    have hA3 := HC.out _ hb3
    obtain ⟨_, c1, c2, cf⟩ := hA3.cells
    have cf1 := cf 1
    have hMl := hA3.lt
    rw [HFF.out] at c1
    have hw65 : IntKind.i64.wrap (f - m) = D := by rw [HD.out]; exact hw64
    clear hb3 HF HG HC hA3 cf HFF hw64
    go_wp2
    go_ret
    exact ⟨rfl, HS.out _ HB.out⟩

end Go.Proofs.Ytgldhlcdnijecaa
