/-
  What the law CellOne asks comes out true at any list of acts and any act behind it.
-/
import Derived.Test.YthadcampbchihaaDoes
import Derived.Test.YthadcampbchihaaAwake
import Derived.Test.YthadcampbchihaaMem
import Derived.Deep.CutBlock
namespace Go.Proofs.Ythadcampbchihaa
open Go.RowKit

theorem one_z {W : World} {g : Nat} {t : Int} (hg : g < W.heap.size) (h : W.cell? ⟨g, 0, none⟩ = some (.int .i64 t)) : RowZ W (some ⟨g, 0, none⟩) [t] := fun _ => ⟨g, 0, rfl, hg, fun k hk => by
  obtain rfl : k = 0 := by simp at hk; omega
  exact h⟩
theorem grown_mov {w w3 : World} {o : Obj} {b : Option Nat} (hg : (w.alloc o).grownBy w3 b) : Mov (fun j => b = some j) w w3 := by
  have hA : Below w.heap.size w (w.alloc o) := (Below.refl _ _).alloc (Nat.le_refl _) _
  exact ⟨hg.os.trans hA.os, hg.tape.trans hA.tape, hg.output.trans hA.output, Nat.le_trans hA.size hg.size, fun k hk hS =>
    (hg.block k (Nat.lt_of_lt_of_le hk hA.size) (fun e => hS e.symm)).trans (hA.block k hk)⟩

/-- The program's, and beside it a row of the law's own with the first k words. -/
def OW (W0 : World) (M : Nat) (s : Ws) (B : Nat) (v : Value) (k : Nat) (w : World) : Prop :=
  M < B ∧ B ≤ w.heap.size ∧ Xs W0 M none0 s w ∧ w.ownsRow B 3 1 v k (cZ (s.l.take k))
section
variable {W0 w w5 : World} {M B k : Nat} {s : Ws} {v v' : Value} {ob : Obj}
theorem Xs.ow (h : Xs W0 M none0 s w) : OW W0 M s w.heap.size (.slice (some ⟨w.heap.size, 0, none⟩) 0 0) 0 (w.alloc (.cells #[] 3)) :=
  ⟨h.2.1.1.lt, by simp, h.below (below1 _ _), by rw [List.take_zero]; exact lit0 w⟩
theorem OW.app (h : OW W0 M s B v k w) (hk : k < s.l.length) (hg : (w.alloc ob).grownBy w5 v.ownBlock) (ho : w5.ownsRow B 3 1 v' (k + 1) (cZ (s.l.take k ++ [gz s.l k]))) : OW W0 M s B v' (k + 1) w5 := by
  obtain ⟨h0, h1, ⟨h2, ⟨h3, _⟩, h4⟩, h5⟩ := h
  have hm := grown_mov hg
  refine ⟨h0, Nat.le_trans h1 hm.size, ⟨h2, ⟨h3.keep (hm.block M h3.lt fun e => by have := (h5.lt M e).1; omega), fun _ q => q.elim⟩, ?_⟩, by rw [take_succ hk]; exact ho⟩
  exact (h4.alloc h4.size ob).grown hg (by have := h4.size; simp; omega) (fun j hj => by have := (h5.lt j hj).1; omega)
/-- The row is none of the program's. -/
theorem OW.row (h : OW W0 M s B v k w) : Xs W0 M (fun j => v.ownBlock = some j) s w := by
  obtain ⟨h0, h1, ⟨h2, ⟨h3, _⟩, h4⟩, h5⟩ := h
  exact ⟨h2, ⟨h3, fun j hj => ⟨(h5.lt j hj).2, by have := (h5.lt j hj).1; omega⟩⟩, h4⟩
end

section
variable {W0 : World} {M : Nat} {s : Ws}
theorem one_put (hO : Okw s) {t : Int} (i v : Int) (ht : ¬ t = s.wr) : ∃ pe, ¬ pe = 0 ∧ ∀ F W, Xs W0 M F s W → Calls Try.prog 18 #[.pointer (some ⟨M, 0, none⟩), .int .i64 t, .int .i64 i, .int .i64 v] W fun e w' => e = .returned (.int .i64 pe) ∧ Xs W0 M F s w' ∧ Kept F W w' := by
  have key : ¬ putE s t i = 0 ∧ putS s t i v = s := by
    by_cases h1 : t < 1
    · obtain ⟨e1, e2⟩ := put_low (s := s) (i := i) (v := v) h1
      exact ⟨by rw [e1]; decide, e2⟩
    cases h2 : hasI s.l i
    · obtain ⟨e1, e2⟩ := put_out (s := s) (v := v) h1 h2
      exact ⟨by rw [e1]; decide, e2⟩
    · obtain ⟨e1, e2⟩ := put_not (s := s) (v := v) h1 h2 ht
      exact ⟨by rw [e1]; decide, e2⟩
  exact ⟨_, key.1, fun F W k => by have := x_put hO.l4 t i v k; rwa [key.2] at this⟩
theorem one_end (hO : Okw s) {t : Int} (ht : ¬ t = s.wr) : ∃ pe, ¬ pe = 0 ∧ ∀ F W, Xs W0 M F s W → Calls Try.prog 19 #[.pointer (some ⟨M, 0, none⟩), .int .i64 t] W fun e w' => e = .returned (.int .i64 pe) ∧ Xs W0 M F s w' ∧ Kept F W w' := by
  have key : ¬ endE s t = 0 ∧ endS s t = s := by
    by_cases h1 : t < 1
    · obtain ⟨e1, e2⟩ := end_low (s := s) h1
      exact ⟨by rw [e1]; decide, e2⟩
    · obtain ⟨e1, e2⟩ := end_not (s := s) h1 ht
      exact ⟨by rw [e1]; decide, e2⟩
  exact ⟨_, key.1, fun F W k => by have := x_end hO t k; rwa [key.2] at this⟩
theorem one_beg (hO : Okw s) {t : Int} (ht : ¬ t = s.wr) (h0 : ¬ s.wr = 0) : ∃ pe, ¬ pe = 0 ∧ ∀ F W, Xs W0 M F s W → Calls Try.prog 17 #[.pointer (some ⟨M, 0, none⟩), .int .i64 t] W fun e w' => e = .returned (.int .i64 pe) ∧ Xs W0 M F s w' ∧ Kept F W w' := by
  have key : ¬ begE s t = 0 ∧ begS s t = s := by
    by_cases h1 : t < 1
    · obtain ⟨e1, e2⟩ := beg_low (s := s) h1
      exact ⟨by rw [e1]; decide, e2⟩
    · obtain ⟨e1, e2⟩ := beg_busy (s := s) h1 ht h0
      exact ⟨by rw [e1]; decide, e2⟩
  exact ⟨_, key.1, fun F W k => by have := x_begin hO t k; rwa [key.2] at this⟩
theorem one_mine (hO : Okw s) (h0 : ¬ s.wr = 0) {F : Nat → Prop} {W : World} (k : Xs W0 M F s W) : Calls Try.prog 17 #[.pointer (some ⟨M, 0, none⟩), .int .i64 s.wr] W fun e w' => e = .returned (.int .i64 11) ∧ Xs W0 M F s w' ∧ Kept F W w' := by
  have := x_begin hO s.wr k
  obtain ⟨e1, e2⟩ := beg_mine (s := s) (t := s.wr) (by have := hO.w0; omega) rfl
  rw [e1, e2] at this
  exact this
theorem one_word (h4 : s.l.length ≤ 4) {F : Nat → Prop} {W : World} {k : Nat} (hk : k < s.l.length) (h : Xs W0 M F s W) : Calls Try.prog 15 #[.pointer (some ⟨M, 0, none⟩), .int .i64 (k : Int)] W fun e w' => e = .returned (.tuple #[.int .i64 (gz s.l k), .int .i64 0]) ∧ w' = W := by
  have := x_word h4 (k : Int) h
  rw [show wrdN s.l (k : Int) = gz s.l k from if_pos (has_nat hk), show wrdE s.l (k : Int) = 0 from if_pos (has_nat hk)] at this
  exact this
end

set_option maxRecDepth 20000 in
set_option maxHeartbeats 8000000 in
theorem one_walk (n : Int) (hn : 0 ≤ n ∧ n ≤ 255) (a1 : Option Addr) (l1 c1 : Nat) (h1 : l1 ≤ c1) (g1 : c1 ≤ maxLen) (d t i v : Int) (w : World) (hact1 : Acts w a1 l1) : Calls Try.prog 5 #[.int .u8 n, .slice a1 l1 c1, .agg #[.int .u8 d, .int .i64 t, .int .i64 i, .int .i64 v]] w fun e w' => e = .returned (.bool true) ∧ Below w.heap.size w w' := by
  have hl1 : l1 ≤ maxLen := Nat.le_trans h1 g1
  unfold maxLen at hl1
  clear h1 g1
  obtain ⟨b, hb⟩ : ∃ b, b = w.heap.size := ⟨_, rfl⟩
  obtain ⟨w0, hw0⟩ : ∃ w0, w0 = w.alloc (.cells #[.int .u8 d, .int .i64 t, .int .i64 i, .int .i64 v] 29) := ⟨_, rfl⟩
  have HB0 : Hid (Below w.heap.size w w0) := hide (by rw [hw0]; exact below1 _ _)
  have HA1 : Hid (Acts w0 a1 l1) := hide (hact1.below HB0.out)
  have HP : Hid (∀ W, Below w0.heap.size w0 W → W.cell? ⟨b, 1, none⟩ = some (.int .i64 t) ∧ W.cell? ⟨b, 2, none⟩ = some (.int .i64 i) ∧ W.cell? ⟨b, 3, none⟩ = some (.int .i64 v)) := hide fun W k => by
    have hlt : b < w0.heap.size := by rw [hw0, hb]; simp
    have hc := (bcell k).1
    refine ⟨(hc b 1 hlt).trans ?_, (hc b 2 hlt).trans ?_, (hc b 3 hlt).trans ?_⟩
    · rw [hw0, hb]; exact Lib.cell_of_heap (heap_alloc_new _ _) 1
    · rw [hw0, hb]; exact Lib.cell_of_heap (heap_alloc_new _ _) 2
    · rw [hw0, hb]; exact Lib.cell_of_heap (heap_alloc_new _ _) 3
  clear hact1
  obtain ⟨m, na, _, _, na3⟩ := u8_mod hn 4 (by omega) (by omega)
  obtain ⟨K, hK⟩ : ∃ K : Int, K = 1 + (m : Int) := ⟨_, rfl⟩
  have HK : Hid (wrap64 (1 + wrap64 (n.tmod 4)) = K) := hide (by rw [show n.tmod 4 = (m : Int) from na, na3, hK]; unfold wrap64; omega)
  clear na na3 hK hn
  have HAW := hide awake_any
  have N0 := hide (x_new (w := w0) K)
  have HO0 := hide (Okw.start (cut4_ok K))
  go_enter Try.func5, Try.ntmps5
  go_wp2_with fail
  rw [← hw0, ← hb]
  clear hw0 hb
  try go_wp2_with fail
  rw [HK.out]
  refine N0.out.mono ?_
  rintro e w1 ⟨rfl, hA⟩
  have HA := hide hA
  clear hA N0
  generalize w0.heap.size = M at HA ⊢
  go_wp2_with fail
  rw [HK.out]
  refine (r_new K HA.out).mono ?_
  rintro e w2 ⟨rfl, hB⟩
  have HB2 := hide hB
  clear hB HA HK
  generalize w1.heap.size + 1 = R at HB2 ⊢
  generalize ws0 (cut4 K) = s0 at HB2 HO0
  go_upto_block 0 with fail
  go_cut [9] (fun _ wx => ∃ s, Hid (Okw s) ∧ Hid (Xs w0 M none0 s wx))
  case first =>
    clear HP HAW HB0
    go_wp2_with fail
    go_loopw [9] (fun i wr => ∃ k s, i = .int .i64 ((k : Nat) : Int) ∧ k ≤ 40 ∧ k ≤ l1 ∧ Hid (Okw s) ∧ Hid (Bth w0 M R none0 s s wr)) (fun i _ => 40 - (intOf i).toNat)
    case atStart => exact ⟨0, s0, rfl, by omega, by omega, HO0, HB2⟩
    case round =>
      clear HB2 HO0
      obtain ⟨k, s, rfl, hk40, hkl, HO, HB⟩ := hrel
      by_cases q1 : k < l1
      · have q1' : (k : Int) < (l1 : Int) := by omega
        by_cases q2 : k < 40
        · have q2' : (k : Int) < 40 := by omega
          have q0' : (0 : Int) ≤ (k : Int) := by omega
          obtain ⟨b2, off2, d2, t2, x2, y2, rfl, hlt2, p0, p1, p2, p3, hd⟩ := HA1.out k q1
          have p0' := ((bcell HB.out.2.2).1 _ _ hlt2).trans p0
          have p1' := ((bcell HB.out.2.2).1 _ _ hlt2).trans p1
          have p2' := ((bcell HB.out.2.2).1 _ _ hlt2).trans p2
          have p3' := ((bcell HB.out.2.2).1 _ _ hlt2).trans p3
          have C1 := hide (does_any w0 M R s HO.out d2 t2 x2 y2 hd _ HB.out)
          clear p0 p1 p2 p3 hd
          go_wp2_with fail
          refine C1.out.mono ?_
          rintro e w3 ⟨rfl, s2, hO2, hB2⟩
          have HB2 := hide hB2
          have HO2 := hide hO2
          clear hB2 hO2 p0' p1' p2' p3' HB HO C1
          go_wp2_with fail
          go_roundw
          case rel => exact ⟨k + 1, s2, by go_num, by omega, by omega, HO2, HB2⟩
          case measure => simp [intOf]; omega
        · have q2' : ¬ (k : Int) < 40 := by omega
          have HX := hide HB.out.xs
          clear HB
          go_wp2_with fail
          go_meet
          exact ⟨s, HO, HX⟩
      · have q1' : ¬ (k : Int) < (l1 : Int) := by omega
        have HX := hide HB.out.xs
        clear HB
        go_wp2_with fail
        go_meet
        exact ⟨s, HO, HX⟩
  case rest =>
    obtain ⟨s, HO, HX⟩ := hcut
    clear HB2 HO0 HA1
    have hX0 : Xs w0 M none0 s wc := HX.out
    have HX0 := hide hX0
    clear hX0 HX
    have CW : Hid (∀ F W, Xs w0 M F s W → Calls Try.prog 10 #[.pointer (some ⟨M, 0, none⟩)] W fun e w' => e = .returned (.int .i64 s.wr) ∧ w' = W) := hide fun F W k => x_writer k
    have CS : Hid (∀ F W, Xs w0 M F s W → Calls Try.prog 11 #[.pointer (some ⟨M, 0, none⟩)] W fun e w' => e = .returned (.int .i64 (s.l.length : Int)) ∧ w' = W) := hide fun F W k => x_size k
    have CD : Hid (∀ F W (k : Nat), k < s.l.length → Xs w0 M F s W → Calls Try.prog 15 #[.pointer (some ⟨M, 0, none⟩), .int .i64 (k : Int)] W fun e w' => e = .returned (.tuple #[.int .i64 (gz s.l k), .int .i64 0]) ∧ w' = W) := hide fun F W k hk h => one_word HO.out.l4 hk h
    have CT : Hid (∀ F W, Xs w0 M F s W → Calls Try.prog 14 #[.pointer (some ⟨M, 0, none⟩)] W fun e w' => e = .returned (.tuple #[.int .i64 (staN s), .int .i64 (staE s)]) ∧ w' = W) := hide fun F W k => x_start k
    have CP : Hid (¬ t = s.wr → ∃ pe, ¬ pe = 0 ∧ ∀ F W, Xs w0 M F s W → Calls Try.prog 18 #[.pointer (some ⟨M, 0, none⟩), .int .i64 t, .int .i64 i, .int .i64 v] W fun e w' => e = .returned (.int .i64 pe) ∧ Xs w0 M F s w' ∧ Kept F W w') := hide fun ht => one_put HO.out i v ht
    have CE : Hid (¬ t = s.wr → ∃ pe, ¬ pe = 0 ∧ ∀ F W, Xs w0 M F s W → Calls Try.prog 19 #[.pointer (some ⟨M, 0, none⟩), .int .i64 t] W fun e w' => e = .returned (.int .i64 pe) ∧ Xs w0 M F s w' ∧ Kept F W w') := hide fun ht => one_end HO.out ht
    have CB : Hid (¬ t = s.wr → ¬ s.wr = 0 → ∃ pe, ¬ pe = 0 ∧ ∀ F W, Xs w0 M F s W → Calls Try.prog 17 #[.pointer (some ⟨M, 0, none⟩), .int .i64 t] W fun e w' => e = .returned (.int .i64 pe) ∧ Xs w0 M F s w' ∧ Kept F W w') := hide fun ht h0 => one_beg HO.out ht h0
    have CM : Hid (¬ s.wr = 0 → ∀ F W, Xs w0 M F s W → Calls Try.prog 17 #[.pointer (some ⟨M, 0, none⟩), .int .i64 s.wr] W fun e w' => e = .returned (.int .i64 11) ∧ Xs w0 M F s w' ∧ Kept F W w') := hide fun h0 F W k => one_mine HO.out h0 k
    have HE : Hid (¬ s.wr = 0 → staE s = 17) := hide fun h0 => if_neg h0
    have HAPP : Hid (∀ W ob w5 v v' k, OW w0 M s wc.heap.size v k W → k < s.l.length → (W.alloc ob).grownBy w5 v.ownBlock → w5.ownsRow wc.heap.size 3 1 v' (k + 1) (cZ (s.l.take k ++ [gz s.l k])) → OW w0 M s wc.heap.size v' (k + 1) w5) := hide fun W ob w5 v v' k h hk hg ho => h.app hk hg ho
    have HOW : Hid (∀ W v k, OW w0 M s wc.heap.size v k W → wc.heap.size ≤ W.heap.size ∧ W.ownsRow wc.heap.size 3 1 v k (cZ (s.l.take k)) ∧ Xs w0 M none0 s W) := hide fun W v k h => ⟨h.2.1, h.2.2.2, h.2.2.1⟩
    have HST : Hid (OW w0 M s wc.heap.size (.slice (some ⟨wc.heap.size, 0, none⟩) 0 0) 0 (wc.alloc (.cells #[] 3))) := hide HX0.out.ow
    have HFIN : Hid (∀ W v, OW w0 M s wc.heap.size v s.l.length W → ∃ g c, v = .slice (some ⟨g, 0, none⟩) s.l.length c ∧ (∀ k, k < s.l.length → W.cell? ⟨g, k, none⟩ = some (.int .i64 (gz s.l k))) ∧ Xs w0 M (fun j => j = g) s W) := hide fun W v h => by
      have hx := h.row
      have h5 := h.2.2.2
      rw [List.take_length] at h5
      obtain ⟨g, c, rfl, _, _, hc, _⟩ := row_open h5 (Nat.lt_of_lt_of_le Nat.zero_lt_one HO.out.l1)
      exact ⟨g, c, rfl, fun k hk => (hc k hk).1, hx.mono fun j hj => by rw [hj]; rfl⟩
    have HL4 : Hid (s.l.length ≤ 4) := hide HO.out.l4
    clear HO
    generalize s.l.length = L at *
    generalize staN s = N at *
    generalize staE s = E0 at *
    generalize s.wr = Wr at *
    go_wp2_with fail
    refine (CW.out _ _ HX0.out).mono ?_
    rintro e w2 ⟨rfl, hw2⟩
    subst hw2
    go_wp2_with fail
    generalize w2.heap.size = B at *
    go_loopw [11, 12] (fun v11 v12 wr => ∃ (k : Nat) (a : Option Addr) (c : Nat), v11 = .slice a k c ∧ v12 = .int .i64 (k : Int) ∧ k ≤ L ∧ Hid (OW w0 M s B (.slice a k c) k wr)) (fun _ v12 _ => L - (intOf v12).toNat)
    case atStart => exact ⟨0, _, _, rfl, rfl, by omega, HST⟩
    case round =>
      clear HST HX0
      obtain ⟨k, a, c, rfl, rfl, hk, HW⟩ := hrel
      have h4 := HL4.out
      have HX := hide (HOW.out _ _ _ HW.out).2.2
      by_cases q : k < L
      · have q1 : (k : Int) < (L : Int) := by omega
        have C1 := hide (CS.out _ _ HX.out)
        have C2 := hide (CD.out _ _ k q HX.out)
        have AP := hide (fun w5 v' => HAPP.out wr (.cells #[.int .i64 (gz s.l k)] 3) w5 (.slice a k c) v' k HW.out q)
        have HO1 := hide (HOW.out _ _ _ HW.out).2.1
        have hB := (HOW.out _ _ _ HW.out).1
        have hTL : Hid ((s.l.take k).length = k ∨ True) := hide (Or.inr trivial)
        generalize gz s.l k = x at *
        generalize s.l.take k = T at *
        clear HAPP HOW HFIN CP CE CB CM HE CT CW HP HAW
        go_wp2_with fail
        refine C1.out.mono ?_
        rintro e w3 ⟨rfl, hw3⟩
        subst hw3
        clear C1
        go_wp2_with fail
        refine C2.out.mono ?_
        rintro e w3 ⟨rfl, hw3⟩
        subst hw3
        clear C2
        go_wp2_with (at_builtin; refine wpList_append_z _ rfl _ _ rfl B _ k T rfl (HO1.out.alloc _) (some ⟨w3.heap.size, 0, none⟩) 1 1 [x] rfl rfl (one_z (by simp) (by simp)) (by omega) (by simp; omega) ?_)
        intro a5 c5 w5 ho5 hg5
        have HW5 := hide (AP.out w5 _ hg5 ho5)
        clear ho5 hg5 AP HO1 hB HX HW
        go_wp2_with fail
        go_roundw
        case rel => exact ⟨k + 1, a5, c5, rfl, by go_num, by omega, HW5⟩
        case measure => simp [intOf]; omega
      · have ek : k = L := by omega
        subst ek
        have q1 : ¬ (k : Int) < (k : Int) := by omega
        have C1 := hide (CS.out _ _ HX.out)
        obtain ⟨g, c', hv, hg, hxg⟩ := HFIN.out _ _ HW.out
        injection hv with ha
        subst ha
        have HG := hide hg
        have HX2 := hide hxg
        have C2 := hide (CT.out _ _ hxg)
        clear hg hxg HFIN HOW HAPP HW HX CS
        go_wp2_with fail
        refine C1.out.mono ?_
        rintro e w3 ⟨rfl, hw3⟩
        subst hw3
        clear C1
        go_wp2_with fail
        refine C2.out.mono ?_
        rintro e w3 ⟨rfl, hw3⟩
        subst hw3
        clear C2
        obtain ⟨p1, p2, p3⟩ := HP.out _ HX2.out.2.2
        have HFB : Hid (∀ W, Below w0.heap.size w0 W → Below w.heap.size w W) := hide fun W k => below_next HB0.out k
        clear HB0
        by_cases ht : t = Wr
        · subst ht
          by_cases h0 : t = 0
          · subst h0
            have HB := hide HX2.out.2.2
            clear HP CP CE CB CM HE HX2 HG CT CW CD
            go_wp2_with fail
            refine (HAW.out _).mono ?_
            rintro e w9 ⟨rfl, hb⟩
            have HF := hide (HFB.out _ (below_next HB.out hb))
            clear hb HB HAW HFB
            go_wp2
            go_ret
            exact ⟨rfl, HF.out⟩
          · have he := HE.out h0
            subst he
            have C1 := hide (CM.out h0)
            clear HP CP CE CB CM HE HG CT CW CD
            go_wp2_with fail
            refine (HAW.out _).mono ?_
            rintro e w9 ⟨rfl, hb⟩
            have HX9 := hide (HX2.out.below hb)
            clear hb HX2 HAW
            go_wp2_with fail
            refine (C1.out _ _ HX9.out).mono ?_
            rintro e w10 ⟨rfl, hX, _⟩
            have HF := hide (HFB.out _ hX.2.2)
            clear hX HX9 C1 HFB
            go_wp2
            go_ret
            exact ⟨rfl, HF.out⟩
        · obtain ⟨pe, hpe, hP⟩ := CP.out ht
          obtain ⟨ee, hee, hEE⟩ := CE.out ht
          have C1 := hide hP
          have C2 := hide hEE
          have hpb : (pe == 0) = false := by simp; exact hpe
          have heb : (ee == 0) = false := by simp; exact hee
          have HKG : Hid (∀ W W', Kept (fun j => j = g) W W' → ∀ j, W'.cell? ⟨g, j, none⟩ = W.cell? ⟨g, j, none⟩) := hide fun W W' k j => World.cell?_of_block (k.1 g rfl)
          have HX2D := hide (HX2.out.below (Below.refl _ _).drew)
          clear hP hEE CP CE CM HE HX2
          go_wp2_with fail
          go_region_held3 (fun w' => w'.cell? ⟨b, 1, none⟩ = some (.int .i64 t) ∧ w'.cell? ⟨b, 2, none⟩ = some (.int .i64 i) ∧ w'.cell? ⟨b, 3, none⟩ = some (.int .i64 v)) (first | (refine ⟨?_, ?_, ?_⟩ <;> assumption) | go_keep) (first | (go_at_call 18; refine (C1.out _ _ HX2D.out).mono ?_; rintro e w4 ⟨rfl, hX4, hk4⟩; have z1 := (HP.out _ hX4.2.2).1; have z2 := (HP.out _ hX4.2.2).2.1; have z3 := (HP.out _ hX4.2.2).2.2) | (go_at_call 19; refine (C2.out _ _ hX4).mono ?_; rintro e w5 ⟨rfl, hX5, hk5⟩; have y1 := (HP.out _ hX5.2.2).1; have y2 := (HP.out _ hX5.2.2).2.1; have y3 := (HP.out _ hX5.2.2).2.2))
          have HG5 : Hid (∀ j, j < k → w5.cell? ⟨g, j, none⟩ = some (.int .i64 (gz s.l j))) := hide fun j hj => ((HKG.out _ _ hk5 j).trans (HKG.out _ _ hk4 j)).trans (HG.out j hj)
          have HX5 := hide hX5
          clear hX4 hk4 hX5 hk5 z1 z2 z3 p1 p2 p3 HG HX2D C1 C2
          by_cases h0 : Wr = 0
          · subst h0
            clear HP HKG CB y1 y2 y3
            go_wp2_with fail
            go_loop [19] (fun v19 => ∃ j : Nat, v19 = .int .i64 (j : Int) ∧ j ≤ k) (fun v19 => k - (intOf v19).toNat)
            case atStart => exact ⟨0, rfl, by omega⟩
            case round =>
              obtain ⟨j, rfl, hj⟩ := hrel
              by_cases qj : j < k
              · have j1 : (j : Int) < (k : Int) := by omega
                have j0 : (0 : Int) ≤ (j : Int) := by omega
                have pc := HG5.out j qj
                have C1 := hide (CD.out _ _ j qj HX5.out)
                clear HG5 CD CT CW HAW HX5 HFB
                generalize gz s.l j = x at *
                have xx : (x == x) = true := by simp
                go_wp2_with fail
                refine C1.out.mono ?_
                rintro e w8 ⟨rfl, hw8⟩
                subst hw8
                clear C1
                go_wp2_with fail
                go_round
                case rel => exact ⟨j + 1, by go_num, by omega⟩
                case measure => simp [intOf]; omega
              · have j1 : ¬ (j : Int) < (k : Int) := by omega
                have C1 := hide (CT.out _ _ HX5.out)
                clear HG5 CD CT
                go_wp2_with fail
                refine C1.out.mono ?_
                rintro e w8 ⟨rfl, hw8⟩
                subst hw8
                clear C1
                have tn : (N == N) = true := by simp
                have te : (E0 == E0) = true := by simp
                go_wp2_with fail
                refine (HAW.out _).mono ?_
                rintro e w9 ⟨rfl, hb⟩
                have HX9 := hide (HX5.out.below hb)
                have C2 := hide (CW.out _ _ HX9.out)
                have HF := hide (HFB.out _ HX9.out.2.2)
                clear hb HX5 HX9 HAW CW HFB
                go_wp2_with fail
                refine C2.out.mono ?_
                rintro e w8 ⟨rfl, hw8⟩
                subst hw8
                clear C2
                go_wp2
                go_ret
                exact ⟨by first | rfl | simp, HF.out⟩
          · obtain ⟨be, hbe, hBE⟩ := CB.out ht h0
            have C3 := hide (hBE _ _ HX5.out)
            have hbb : (be == 0) = false := by simp; exact hbe
            have hwb : (Wr == 0) = false := by simp; exact h0
            clear hBE CB HP
            go_wp2_with fail
            refine C3.out.mono ?_
            rintro e w6 ⟨rfl, hX6, hk6⟩
            have HG6 : Hid (∀ j, j < k → w6.cell? ⟨g, j, none⟩ = some (.int .i64 (gz s.l j))) := hide fun j hj => (HKG.out _ _ hk6 j).trans (HG5.out j hj)
            have HX6 := hide hX6
            clear hX6 hk6 HG5 HX5 HKG C3 y1 y2 y3
            go_wp2_with fail
            go_loop [19] (fun v19 => ∃ j : Nat, v19 = .int .i64 (j : Int) ∧ j ≤ k) (fun v19 => k - (intOf v19).toNat)
            case atStart => exact ⟨0, rfl, by omega⟩
            case round =>
              obtain ⟨j, rfl, hj⟩ := hrel
              by_cases qj : j < k
              · have j1 : (j : Int) < (k : Int) := by omega
                have j0 : (0 : Int) ≤ (j : Int) := by omega
                have pc := HG6.out j qj
                have C1 := hide (CD.out _ _ j qj HX6.out)
                clear HG6 CD CT CW HAW HX6 HFB
                generalize gz s.l j = x at *
                have xx : (x == x) = true := by simp
                go_wp2_with fail
                refine C1.out.mono ?_
                rintro e w8 ⟨rfl, hw8⟩
                subst hw8
                clear C1
                go_wp2_with fail
                go_round
                case rel => exact ⟨j + 1, by go_num, by omega⟩
                case measure => simp [intOf]; omega
              · have j1 : ¬ (j : Int) < (k : Int) := by omega
                have C1 := hide (CT.out _ _ HX6.out)
                clear HG6 CD CT
                go_wp2_with fail
                refine C1.out.mono ?_
                rintro e w8 ⟨rfl, hw8⟩
                subst hw8
                clear C1
                have tn : (N == N) = true := by simp
                have te : (E0 == E0) = true := by simp
                go_wp2_with fail
                refine (HAW.out _).mono ?_
                rintro e w9 ⟨rfl, hb⟩
                have HX9 := hide (HX6.out.below hb)
                have C2 := hide (CW.out _ _ HX9.out)
                have HF := hide (HFB.out _ HX9.out.2.2)
                have tw : (Wr == Wr) = true := by simp
                clear hb HX6 HX9 HAW CW HFB
                go_wp2_with fail
                refine C2.out.mono ?_
                rintro e w8 ⟨rfl, hw8⟩
                subst hw8
                clear C2
                go_wp2
                go_ret
                exact ⟨by first | rfl | simp, HF.out⟩

end Go.Proofs.Ythadcampbchihaa
