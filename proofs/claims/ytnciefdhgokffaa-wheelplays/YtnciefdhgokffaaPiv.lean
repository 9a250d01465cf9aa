/-
  What slices' choice of a pivot comes to: one of the places, and a number that is small.
-/
import Derived.Test.YtnciefdhgokffaaRow
namespace Go.Proofs.Ytnciefdhgokffaa
open Go.RowKit

theorem Srt.put {w0 : World} {g c n B : Nat} {σ : Ws} {x : Nat → Nat} {W : World} (h : Srt w0 g c n B σ x W) (hg : g < w0.heap.size) (hB : B < w0.heap.size) {d : Nat} (hd : w0.heap.size ≤ d) (i : Nat) (v : Value) : Srt w0 g c n B σ x (W.setCell ⟨d, i, none⟩ v) :=
  ⟨h.row.same (Below.heap_setCell _ ⟨d, i, none⟩ _ _ (by show g ≠ d; omega)), h.tim.same (Below.heap_setCell _ ⟨d, i, none⟩ _ _ (by show B ≠ d; omega)),
   ⟨h.turn.os, h.turn.tape, h.turn.output, by simpa using h.turn.size, fun k hk h1 => (Below.heap_setCell W ⟨d, i, none⟩ v k (by show k ≠ d; omega)).trans (h.turn.block k hk h1)⟩, h.ids⟩

/-- A row that is being sorted, and a number beside it. -/
structure Cnt (w0 : World) (g c n B : Nat) (σ : Ws) (x : Nat → Nat) (d s : Nat) (W : World) : Prop where
  srt : Srt w0 g c n B σ x W
  cell : W.cell? ⟨d, 0, none⟩ = some (.int .i64 (s : Int))
  frz : W.frozen? ⟨d, 0, none⟩ = false
  ge : w0.heap.size ≤ d
  lt : d < W.heap.size
theorem Cnt.below {w0 : World} {g c n B : Nat} {σ : Ws} {x : Nat → Nat} {d s : Nat} {W W' : World} (h : Cnt w0 g c n B σ x d s W) (k : Below W.heap.size W W') : Cnt w0 g c n B σ x d s W' :=
  ⟨h.srt.below k, (k.cell (p := ⟨d, 0, none⟩) h.lt).trans h.cell, (k.frozen (p := ⟨d, 0, none⟩) h.lt).trans h.frz, h.ge, Nat.lt_of_lt_of_le h.lt k.size⟩
theorem Cnt.drew {w0 : World} {g c n B : Nat} {σ : Ws} {x : Nat → Nat} {d s : Nat} {W : World} (h : Cnt w0 g c n B σ x d s W) : Cnt w0 g c n B σ x d s W.drew := h.below (below_drewN _ 1)
theorem Cnt.set {w0 : World} {g c n B : Nat} {σ : Ws} {x : Nat → Nat} {d s : Nat} {W : World} (h : Cnt w0 g c n B σ x d s W) (hg : g < w0.heap.size) (hB : B < w0.heap.size) (t : Nat) : Cnt w0 g c n B σ x d t (W.setCell ⟨d, 0, none⟩ (.int .i64 (t : Int))) :=
  ⟨h.srt.put hg hB h.ge _ _, World.cell?_setCell_same _ _ _ h.cell, by rw [World.frozen?_setCell]; exact h.frz, h.ge, by simpa using h.lt⟩
theorem Cnt.cmp {w0 : World} {g c n B : Nat} {σ : Ws} {x : Nat → Nat} {d s : Nat} {W : World} (h : Cnt w0 g c n B σ x d s W) {i j : Nat} (hi : i < n) (hj : j < n) :
    Calls Try.prog 24 #[.pointer (some ⟨B, 0, none⟩), .int .i64 ((x i : Nat) : Int), .int .i64 ((x j : Nat) : Int)] W fun e w' => e = .returned (.int .i64 (ordI σ (x i) (x j))) ∧ Cnt w0 g c n B σ x d s w' :=
  (order_any B σ (x i) (x j) (h.srt.ids _ hi) (h.srt.ids _ hj) W h.srt.tim).mono fun _ _ k => ⟨k.1, h.below k.2⟩

def TwoOf (w0 : World) (g c n B : Nat) (σ : Ws) (x : Nat → Nat) (d s i j : Nat) (e : Ending) (w' : World) : Prop :=
  ∃ p q s' : Nat, e = .returned (.tuple #[.int .i64 (p : Int), .int .i64 (q : Int)]) ∧ (p = i ∧ q = j ∨ p = j ∧ q = i) ∧ s' ≤ s + 1 ∧ Cnt w0 g c n B σ x d s' w'

set_option maxHeartbeats 2000000 in
theorem order2_any (w0 : World) (g c n B : Nat) (σ : Ws) (hg : g < w0.heap.size) (hB : B < w0.heap.size) (x : Nat → Nat) (d s i j : Nat) (hs : s ≤ 100) (hi : i < n) (hj : j < n) (w : World) (hC : Cnt w0 g c n B σ x d s w) :
    Calls Try.prog 49 #[.slice (some ⟨g, 0, none⟩) n c, .int .i64 (i : Int), .int .i64 (j : Int), .pointer (some ⟨d, 0, none⟩), .func (.func 24) #[.pointer (some ⟨B, 0, none⟩)] #[]] w fun e w' => TwoOf w0 g c n B σ x d s i j e w' := by
  have c1 := hC.srt.cell hi
  have c2 := hC.srt.cell hj
  have i1 : (i : Int) < (n : Int) := by omega
  have i2 : (j : Int) < (n : Int) := by omega
  have HC := hide (fun W (h : Cnt w0 g c n B σ x d s W) => h.cmp (i := j) (j := i) hj hi)
  have HCE := hide (fun W (h : Cnt w0 g c n B σ x d s W) => And.intro (h.srt.cell hi) (h.srt.cell hj))
  have HT := hide (fun W (h : Cnt w0 g c n B σ x d s W) => h.set hg hB (s + 1))
  generalize hr : ordI σ (x j) (x i) = r at *
  obtain ⟨X1, hX1⟩ : ∃ X : Int, X = ((x i : Nat) : Int) := ⟨_, rfl⟩
  obtain ⟨X0, hX0⟩ : ∃ X : Int, X = ((x j : Nat) : Int) := ⟨_, rfl⟩
  rw [← hX1] at c1 HC HCE
  rw [← hX0] at c2 HC HCE
  have H := hide hC
  clear hX1 hX0 hr hC
  by_cases hrn : r < 0
  · have hrd : decide (r < 0) = true := by simp; omega
    go_enter Try.func49, Try.ntmps49
    go_wp2_with fail
    go_region_held3 (fun w' => w'.cell? ⟨g, i, none⟩ = some (.int .i64 X1) ∧ w'.cell? ⟨g, j, none⟩ = some (.int .i64 X0)) (first | (constructor <;> assumption) | assumption | go_keep) (first | (go_at_call 24; refine (HC.out _ (by exact H.out.drew)).mono ?_; rintro e w3 ⟨rfl, hs3⟩; have hc3 := HCE.out _ hs3))
    have k1 := hs3.cell
    have k2 := hs3.frz
    have H3 := hide hs3
    clear hs3 hc3 c1 c2 HC HCE
    go_wp2
    go_ret2
    exact ⟨j, i, s + 1, rfl, Or.inr ⟨rfl, rfl⟩, Nat.le_refl _, HT.out _ H3.out⟩
  · have hrd : decide (r < 0) = false := by simp; omega
    go_enter Try.func49, Try.ntmps49
    go_wp2_with fail
    go_region_held3 (fun w' => w'.cell? ⟨g, i, none⟩ = some (.int .i64 X1) ∧ w'.cell? ⟨g, j, none⟩ = some (.int .i64 X0)) (first | (constructor <;> assumption) | assumption | go_keep) (first | (go_at_call 24; refine (HC.out _ (by exact H.out.drew)).mono ?_; rintro e w3 ⟨rfl, hs3⟩; have hc3 := HCE.out _ hs3))
    have H3 := hide hs3
    clear hs3 hc3 c1 c2 HC HCE
    go_wp2
    go_ret2
    exact ⟨i, j, s, rfl, Or.inl ⟨rfl, rfl⟩, by omega, H3.out⟩

set_option maxHeartbeats 2000000 in
theorem median_any (w0 : World) (g c n B : Nat) (σ : Ws) (hg : g < w0.heap.size) (hB : B < w0.heap.size) (x : Nat → Nat) (d i j k : Nat) (hi : i < n) (hj : j < n) (hk : k < n) (w : World) (hC : Cnt w0 g c n B σ x d 0 w) :
    Calls Try.prog 48 #[.slice (some ⟨g, 0, none⟩) n c, .int .i64 (i : Int), .int .i64 (j : Int), .int .i64 (k : Int), .pointer (some ⟨d, 0, none⟩), .func (.func 24) #[.pointer (some ⟨B, 0, none⟩)] #[]] w fun e w' =>
      ∃ q s : Nat, e = .returned (.int .i64 (q : Int)) ∧ (q = i ∨ q = j ∨ q = k) ∧ s ≤ 3 ∧ Cnt w0 g c n B σ x d s w' := by
  have T := hide (fun s i j (hs : s ≤ 100) (hi : i < n) (hj : j < n) W h => order2_any w0 g c n B σ hg hB x d s i j hs hi hj W h)
  have H := hide hC
  clear hC
  go_enter Try.func48, Try.ntmps48
  go_wp2_with fail
  refine (T.out 0 i j (by omega) hi hj _ H.out).mono ?_
  rintro e w1 ⟨p1, q1, s1, rfl, h1, hs1, hC1⟩
  have H1 := hide hC1
  clear hC1
  go_wp2_with fail
  refine (T.out s1 q1 k (by omega) (by omega) hk _ H1.out).mono ?_
  rintro e w2 ⟨p2, q2, s2, rfl, h2, hs2, hC2⟩
  have H2 := hide hC2
  clear hC2
  go_wp2_with fail
  refine (T.out s2 p1 p2 (by omega) (by omega) (by omega) _ H2.out).mono ?_
  rintro e w3 ⟨p3, q3, s3, rfl, h3, hs3, hC3⟩
  have H3 := hide hC3
  clear hC3
  go_wp2
  go_ret
  exact ⟨q3, s3, rfl, by omega, by omega, H3.out⟩

set_option maxHeartbeats 2000000 in
theorem pivot_any (w0 : World) (g c n B : Nat) (σ : Ws) (hn : n ≤ 16) (hg : g < w0.heap.size) (hB : B < w0.heap.size) (x : Nat → Nat) (lo hi : Nat) (h12 : lo + 12 < hi) (hhi : hi ≤ n) (w : World) (hS : Srt w0 g c n B σ x w) :
    Calls Try.prog 36 #[.slice (some ⟨g, 0, none⟩) n c, .int .i64 (lo : Int), .int .i64 (hi : Int), .func (.func 24) #[.pointer (some ⟨B, 0, none⟩)] #[]] w fun e w' =>
      ∃ q t : Nat, e = .returned (.tuple #[.int .i64 (q : Int), .int .i64 (t : Int)]) ∧ lo ≤ q ∧ q < hi ∧ t ≤ 1 ∧ Srt w0 g c n B σ x w' := by
  obtain ⟨L, rfl⟩ : ∃ L, hi = lo + L := ⟨hi - lo, by omega⟩
  have T : Hid (∀ (d i j k : Nat) (I J K : Int), I = (i : Int) → J = (j : Int) → K = (k : Int) → i < n → j < n → k < n → ∀ W, Cnt w0 g c n B σ x d 0 W → Calls Try.prog 48 #[.slice (some ⟨g, 0, none⟩) n c, .int .i64 I, .int .i64 J, .int .i64 K, .pointer (some ⟨d, 0, none⟩), .func (.func 24) #[.pointer (some ⟨B, 0, none⟩)] #[]] W fun e w' =>
      ∃ q s : Nat, e = .returned (.int .i64 (q : Int)) ∧ (q = i ∨ q = j ∨ q = k) ∧ s ≤ 3 ∧ Cnt w0 g c n B σ x d s w') := fun d i j k I J K e1 e2 e3 hi hj hk W h => by
    subst e1; subst e2; subst e3; exact median_any w0 g c n B σ hg hB x d i j k hi hj hk W h
  have H := hide hS
  have hz := hS.turn.size
  clear hS
  go_enter Try.func36, Try.ntmps36
  go_wp2_with fail
  refine (T.out w.heap.size (lo + L / 4) (lo + L / 4 * 2) (lo + L / 4 * 3) _ _ _ (by omega) (by omega) (by omega) (by omega) (by omega) (by omega) _ ⟨H.out.below ((Below.refl _ _).alloc (Nat.le_refl _) _), by simp, by simp, hz, by simp⟩).mono ?_
  rintro e w3 ⟨q, s, rfl, hq, hs, hC⟩
  have k1 := hC.cell
  have HC := hide hC
  have hq1 : lo ≤ q := by omega
  have hq2 : q < lo + L := by omega
  clear hC T hq
  by_cases h0 : s = 0
  · have s0 : (s == 0) = true := by simp [h0]
    have s1 : ((s : Int) == 0) = true := by simp [h0]
    have H0 := hide h0
    clear h0
    go_wp2
    go_ret2
    exact ⟨q, 1, rfl, hq1, hq2, Nat.le_refl _, HC.out.srt⟩
  · have s0 : (s == 0) = false := by simp [h0]
    have s1 : ((s : Int) == 0) = false := by simp [h0]
    have s2 : (s == 12) = false := by simp; omega
    have s3 : ((s : Int) == 12) = false := by simp; omega
    go_wp2
    go_ret2
    exact ⟨q, 0, rfl, hq1, hq2, Nat.zero_le _, HC.out.srt⟩

end Go.Proofs.Ytnciefdhgokffaa
