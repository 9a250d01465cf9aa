/-
  What the law GroupSums asks comes out true at any list of acts.
-/
import Derived.Test.YtgfkleaekaggoaaAwake
import Derived.Test.YtgfkleaekaggoaaUp
import Derived.Test.YtgfkleaekaggoaaMem
import Derived.Deep.DeepCutAuto
import Derived.Deep.CutBlock
namespace Go.Proofs.Ytgfkleaekaggoaa
open Go.RowKit

theorem Xs.boxed {W0 w : World} {M : Nat} {c : Int} {l : List Int} (h : Xs W0 M none0 c l w) (ob : Obj) : Xs W0 M (fun k => k = w.heap.size) c l (w.alloc ob) := by
  obtain ⟨h1, ⟨v, h2, _⟩, h4⟩ := h
  exact ⟨h1, ⟨v, h2.below (below1 _ _), fun j hj => ⟨by rw [hj]; simp, fun m => by have := h2.mine_lt m; omega⟩⟩, h4.alloc h4.size _⟩
theorem wait_ways (c : Int) (l : List Int) (t : Int) : (waitE c l t = 0 ∧ c = 0) ∨ (waitE c l t = 14 ∧ ¬ c = 0) ∨ (¬ waitE c l t = 0 ∧ ¬ waitE c l t = 14) := by
  by_cases h1 : t < 1
  · rw [(wait_low (c := c) (l := l) h1).1]; simp
  cases h2 : inZ l t
  · by_cases h3 : c = 0
    · rw [(wait_zero h1 h2 h3).1]; simp [h3]
    · rw [(wait_new h1 h2 h3).1]; simp [h3]
  · rw [(wait_in (c := c) h1 h2).1]; simp
theorem add_ways (c n : Int) : (addE c n = 0 ∧ addC c n = c + n ∧ 0 ≤ c + n ∧ c + n ≤ 1048576) ∨ (addE c n = 11 ∧ addC c n = c) ∨ (addE c n = 13 ∧ addC c n = c) := by
  by_cases h1 : c + n < 0
  · obtain ⟨e1, e2, _⟩ := add_low (l := []) h1
    exact Or.inr (Or.inl ⟨e1, e2⟩)
  by_cases h2 : 1048576 < c + n
  · obtain ⟨e1, e2, _⟩ := add_over (l := []) h2
    exact Or.inr (Or.inr ⟨e1, e2⟩)
  obtain ⟨e1, e2, _⟩ := add_fit (c := c) (n := n) (by omega) (by omega)
  exact Or.inl ⟨e1, e2, by omega, by omega⟩
/-- The program's behind an act: v is the sum. -/
def AfterS (w : World) (M k : Nat) (v : Value) (wx : World) : Prop := ∃ c l, v = .int .i64 c ∧ Hid (Okc c l) ∧ Hid (l.length ≤ k + 1) ∧ Hid (Xs w M none0 c l wx)

set_option maxRecDepth 20000 in
set_option maxHeartbeats 8000000 in
theorem sums_walk (a1 : Option Addr) (l1 c1 : Nat) (h1 : l1 ≤ c1) (g1 : c1 ≤ maxLen) (w : World) (hact1 : Acts w a1 l1) : Calls Try.prog 4 #[.slice a1 l1 c1] w fun e w' => e = .returned (.bool true) ∧ Below w.heap.size w w' := by
  have hl1 : l1 ≤ maxLen := Nat.le_trans h1 g1
  unfold maxLen at hl1
  clear h1 g1
  have HA1 := hide hact1
  clear hact1
  have N0 := hide (x_new (w := w))
  have HAW := hide awake_any
  go_enter Try.func4, Try.ntmps4
  go_wp2_with fail
  refine N0.out.mono ?_
  rintro e w1 ⟨rfl, hA⟩
  have HX0 := hide hA
  clear hA N0
  obtain ⟨M, hMe⟩ : ∃ M, M = w.heap.size := ⟨_, rfl⟩
  rw [← hMe] at HX0 ⊢
  clear hMe
  go_wp2_with fail
  go_loopw [4, 5] (fun s i wr => ∃ k c l, s = .int .i64 c ∧ i = .int .i64 ((k : Nat) : Int) ∧ k ≤ 60 ∧ k ≤ l1 ∧ Hid (Okc c l) ∧ List.length l ≤ k ∧ Hid (Xs w M none0 c l wr)) (fun _ i _ => 60 - (intOf i).toNat)
  case atStart => exact ⟨0, 0, [], rfl, rfl, by omega, by omega, Okc.start, by simp, HX0⟩
  case round =>
    clear HX0
    obtain ⟨k, c, l, rfl, rfl, hk60, hkl, HO, hlen, HX⟩ := hrel
    by_cases q1 : k < l1
    · have q1' : (k : Int) < (l1 : Int) := by omega
      by_cases q2 : k < 60
      · have q2' : (k : Int) < 60 := by omega
        have q0' : (0 : Int) ≤ (k : Int) := by omega
        obtain ⟨b2, off2, d, t, n, rfl, hlt2, p0, p1, p2, hd, _, hn⟩ := HA1.out k q1
        have p0' := ((bcell HX.out.2.2).1 _ _ hlt2).trans p0
        have p1' := ((bcell HX.out.2.2).1 _ _ hlt2).trans p1
        have p2' := ((bcell HX.out.2.2).1 _ _ hlt2).trans p2
        have hl9 : l.length ≤ 1000 := by omega
        obtain ⟨m, hm0, hm3, _, _⟩ := u8_mod hd 3 (by omega) (by omega)
        have HM3 : Hid (d.tmod 3 = (m : Int) ∧ m < 3) := ⟨hm0, hm3⟩
        obtain ⟨b, hb⟩ : ∃ b, b = wr.heap.size := ⟨_, rfl⟩
        obtain ⟨w2, hw2⟩ : ∃ w2, w2 = wr.alloc (.cells #[.int .u8 d, .int .i64 t, .int .i64 n] 30) := ⟨_, rfl⟩
        have HX2 : Hid (Xs w M (fun k => k = b) c l w2) := hide (by rw [hw2, hb]; exact HX.out.boxed _)
        have bc0 : w2.cell? ⟨b, 0, none⟩ = some (.int .u8 d) := by
          rw [hw2, hb]
          exact Lib.cell_of_heap (heap_alloc_new _ _) 0
        have bc1 : w2.cell? ⟨b, 1, none⟩ = some (.int .i64 t) := by
          rw [hw2, hb]
          exact Lib.cell_of_heap (heap_alloc_new _ _) 1
        have bc2 : w2.cell? ⟨b, 2, none⟩ = some (.int .i64 n) := by
          rw [hw2, hb]
          exact Lib.cell_of_heap (heap_alloc_new _ _) 2
        have HKL := hide (show k + 1 ≤ 60 ∧ k + 1 ≤ l1 from by omega)
        have HLN := hide hlen
        have HNN := hide hn
        clear p0 p1 p2 hm0 hm3 hd hn HX
        go_upto_if 28 with fail
        rw [← hw2, ← hb]
        clear hw2 hb p0' p1' p2' q0' q1' q2' hlt2
        go_cut [4, 7, 8, 9, 27, 28] (fun v4 _ _ _ _ _ wx => AfterS w M k v4 wx)
        case first =>
          clear hkl hk60 hl1 q1 q2 HKL HA1 hlen HAW
          obtain ⟨hm, hm3⟩ := HM3.out
          clear HM3
          have hc := HO.out.lo
          have hc2 := HO.out.hi
          have h3 : m = 0 ∨ m = 1 ∨ m = 2 := by omega
          rcases h3 with rfl | rfl | rfl
          · have hm' : d.tmod 3 = 0 := hm
            clear hm hm3
            have HO2 := hide (HO.out.wait t)
            have HL2 : Hid ((waitL c l t).length ≤ k + 1) := hide (Nat.le_trans (wait_len c l t) (Nat.succ_le_succ HLN.out))
            have hways := wait_ways c l t
            have C1 := hide (x_wait (W0 := w) (M := M) (F := fun k => k = b) (c := c) (w := w2) hl9 t HX2.out)
            clear HLN HO HNN hl9
            generalize waitL c l t = L2 at *
            generalize waitE c l t = E0 at *
            rcases hways with ⟨hE, hC⟩ | ⟨hE, hC⟩ | ⟨hE, hC⟩
            · subst hE
              subst hC
              go_wp2_with fail
              clear hm'
              refine C1.out.mono ?_
              rintro e w3 ⟨rfl, hA, _⟩
              have HX3 := hide (hA.mono (G := none0) fun _ h => h.elim)
              clear hA C1 HX2 bc0 bc1 bc2
              go_wp2_with fail
              go_meet
              exact ⟨_, _, rfl, HO2, HL2, HX3⟩
            · subst hE
              go_wp2_with fail
              clear hm'
              refine C1.out.mono ?_
              rintro e w3 ⟨rfl, hA, _⟩
              have HX3 := hide (hA.mono (G := none0) fun _ h => h.elim)
              clear hA C1 HX2 bc0 bc1 bc2
              go_wp2_with fail
              go_meet
              exact ⟨_, _, rfl, HO2, HL2, HX3⟩
            · go_wp2_with fail
              clear hm'
              refine C1.out.mono ?_
              rintro e w3 ⟨rfl, hA, _⟩
              have HX3 := hide (hA.mono (G := none0) fun _ h => h.elim)
              clear hA C1 HX2 bc0 bc1 bc2
              go_wp2_with fail
              go_meet
              exact ⟨_, _, rfl, HO2, HL2, HX3⟩
          · have hm' : d.tmod 3 = 1 := hm
            clear hm hm3
            have HO2 := hide (HO.out.add n)
            have HL2 : Hid ((addL c n l).length ≤ k + 1) := hide (Nat.le_trans (addL_len c n l) (Nat.le_succ_of_le HLN.out))
            have hways := add_ways c n
            have C1 := hide (x_add0 (W0 := w) (M := M) (F := fun k => k = b) (w := w2) ⟨hc, hc2⟩ n HX2.out)
            clear HLN HO HNN hl9
            generalize addL c n l = L2 at *
            rcases hways with ⟨hE, hC, hlo, hhi⟩ | ⟨hE, hC⟩ | ⟨hE, hC⟩
            · rw [hE, hC] at C1
              rw [hC] at HO2
              have u1 : IntKind.i64.wrap (c + n) = c + n := wrapB (by omega)
              clear hE hC
              go_wp2_with fail
              clear hm'
              refine C1.out.mono ?_
              rintro e w3 ⟨r3, rfl, hA, hk⟩
              have HX3 := hide (hA.mono (G := none0) fun _ h => h.elim)
              have bd2 : w3.cell? ⟨b, 2, none⟩ = some (.int .i64 n) := (World.cell?_of_block (hk.1 b rfl)).trans bc2
              clear hA hk C1 HX2 bc0 bc1 bc2
              go_wp2_with fail
              go_meet
              exact ⟨_, _, rfl, HO2, HL2, HX3⟩
            · rw [hE, hC] at C1
              rw [hC] at HO2
              clear hE hC
              go_wp2_with fail
              clear hm'
              refine C1.out.mono ?_
              rintro e w3 ⟨r3, rfl, hA, hk⟩
              have HX3 := hide (hA.mono (G := none0) fun _ h => h.elim)
              have bd2 : w3.cell? ⟨b, 2, none⟩ = some (.int .i64 n) := (World.cell?_of_block (hk.1 b rfl)).trans bc2
              clear hA hk C1 HX2 bc0 bc1 bc2
              go_wp2_with fail
              go_meet
              exact ⟨_, _, rfl, HO2, HL2, HX3⟩
            · rw [hE, hC] at C1
              rw [hC] at HO2
              clear hE hC
              go_wp2_with fail
              clear hm'
              refine C1.out.mono ?_
              rintro e w3 ⟨r3, rfl, hA, hk⟩
              have HX3 := hide (hA.mono (G := none0) fun _ h => h.elim)
              have bd2 : w3.cell? ⟨b, 2, none⟩ = some (.int .i64 n) := (World.cell?_of_block (hk.1 b rfl)).trans bc2
              clear hA hk C1 HX2 bc0 bc1 bc2
              go_wp2_with fail
              go_meet
              exact ⟨_, _, rfl, HO2, HL2, HX3⟩
          · have hm' : d.tmod 3 = 2 := hm
            clear hm hm3
            have HO2 := hide (HO.out.add n)
            have HL2 : Hid ((addL c n l).length ≤ k + 1) := hide (Nat.le_trans (addL_len c n l) (Nat.le_succ_of_le HLN.out))
            have hways := add_ways c n
            have C1 := hide (x_add0 (W0 := w) (M := M) (F := fun k => k = b) (w := w2) ⟨hc, hc2⟩ n HX2.out)
            clear HLN HO HNN hl9
            generalize addL c n l = L2 at *
            rcases hways with ⟨hE, hC, hlo, hhi⟩ | ⟨hE, hC⟩ | ⟨hE, hC⟩
            · rw [hE, hC] at C1
              rw [hC] at HO2
              have u1 : IntKind.i64.wrap (c + n) = c + n := wrapB (by omega)
              clear hE hC
              go_wp2_with fail
              clear hm'
              refine C1.out.mono ?_
              rintro e w3 ⟨r3, rfl, hA, hk⟩
              have HX3 := hide (hA.mono (G := none0) fun _ h => h.elim)
              have bd2 : w3.cell? ⟨b, 2, none⟩ = some (.int .i64 n) := (World.cell?_of_block (hk.1 b rfl)).trans bc2
              clear hA hk C1 HX2 bc0 bc1 bc2
              go_wp2_with fail
              go_meet
              exact ⟨_, _, rfl, HO2, HL2, HX3⟩
            · rw [hE, hC] at C1
              rw [hC] at HO2
              clear hE hC
              go_wp2_with fail
              clear hm'
              refine C1.out.mono ?_
              rintro e w3 ⟨r3, rfl, hA, hk⟩
              have HX3 := hide (hA.mono (G := none0) fun _ h => h.elim)
              have bd2 : w3.cell? ⟨b, 2, none⟩ = some (.int .i64 n) := (World.cell?_of_block (hk.1 b rfl)).trans bc2
              clear hA hk C1 HX2 bc0 bc1 bc2
              go_wp2_with fail
              go_meet
              exact ⟨_, _, rfl, HO2, HL2, HX3⟩
            · rw [hE, hC] at C1
              rw [hC] at HO2
              clear hE hC
              go_wp2_with fail
              clear hm'
              refine C1.out.mono ?_
              rintro e w3 ⟨r3, rfl, hA, hk⟩
              have HX3 := hide (hA.mono (G := none0) fun _ h => h.elim)
              have bd2 : w3.cell? ⟨b, 2, none⟩ = some (.int .i64 n) := (World.cell?_of_block (hk.1 b rfl)).trans bc2
              clear hA hk C1 HX2 bc0 bc1 bc2
              go_wp2_with fail
              go_meet
              exact ⟨_, _, rfl, HO2, HL2, HX3⟩
        case rest =>
          clear HO HX2 bc0 bc1 bc2 HLN HNN HM3 HA1 HAW hl1 hl9 hlen
          obtain ⟨C2, L2, rfl, HO, HL, HX⟩ := hcut
          have hc := HO.out.lo
          have hc2 := HO.out.hi
          have ne : (C2 != C2) = false := by simp
          by_cases hz : C2 = 0
          · subst hz
            obtain rfl : L2 = [] := HO.out.none rfl
            have CW := hide (x_waits (l := []) (by simp) HX.out)
            go_wp2_with fail
            refine (x_count HX.out).mono ?_
            rintro e w5 ⟨rfl, hw5⟩
            subst hw5
            go_wp2_with fail
            refine CW.out.mono ?_
            rintro e w6 ⟨a6, d6, rfl, _, hb⟩
            have HX6 := hide (HX.out.below hb)
            clear hb CW HX
            go_wp2_with fail
            go_roundw
            case rel => exact ⟨k + 1, 0, [], rfl, by go_num, HKL.out.1, HKL.out.2, HO, by simp, HX6⟩
            case measure => have := HKL.out; simp [intOf]; omega
          · go_wp2_with fail
            refine (x_count HX.out).mono ?_
            rintro e w5 ⟨rfl, hw5⟩
            subst hw5
            go_wp2_with fail
            go_roundw
            case rel => exact ⟨k + 1, C2, L2, rfl, by go_num, HKL.out.1, HKL.out.2, HO, HL.out, HX⟩
            case measure => have := HKL.out; simp [intOf]; omega
      · have q2' : ¬ (k : Int) < 60 := by omega
        have q1' : (k : Int) < (l1 : Int) := by omega
        have HBB := hide HX.out.2.2
        clear HX
        go_wp2_with fail
        refine (HAW.out _).mono ?_
        rintro e w3 ⟨rfl, hb⟩
        have HF := hide (below_next HBB.out hb)
        clear hb HBB HAW
        go_wp2
        go_ret
        exact ⟨rfl, HF.out⟩
    · have q1' : ¬ (k : Int) < (l1 : Int) := by omega
      have HBB := hide HX.out.2.2
      clear HX
      go_wp2_with fail
      refine (HAW.out _).mono ?_
      rintro e w3 ⟨rfl, hb⟩
      have HF := hide (below_next HBB.out hb)
      clear hb HBB HAW
      go_wp2
      go_ret
      exact ⟨rfl, HF.out⟩

end Go.Proofs.Ytgfkleaekaggoaa
