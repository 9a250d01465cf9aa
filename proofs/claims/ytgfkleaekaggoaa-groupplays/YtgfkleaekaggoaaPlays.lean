/-
  What the law GroupPlays asks comes out true at any list of acts.
-/
import Derived.Test.YtgfkleaekaggoaaBoth
import Derived.Test.YtgfkleaekaggoaaAwake
import Derived.Test.YtgfkleaekaggoaaUp
import Derived.Test.YtgfkleaekaggoaaMem
import Derived.Deep.DeepCutAuto
import Derived.Deep.CutBlock
namespace Go.Proofs.Ytgfkleaekaggoaa
open Go.RowKit

theorem eight {m : Nat} (h : m < 8) : m = 0 ∨ m = 1 ∨ m = 2 ∨ m = 3 ∨ m = 4 ∨ m = 5 ∨ m = 6 ∨ m = 7 := by omega
theorem Bth.drew {W0 w : World} {M R : Nat} {F : Nat → Prop} {c o d : Int} {l q : List Int} (h : Bth W0 M R F c l o d q w) : Bth W0 M R F c l o d q w.drew := h.below (Below.refl _ _).drew
/-- What went out is bounded by how many acts there were. -/
def Out (k : Nat) (o : Int) : Prop := 0 ≤ o ∧ o ≤ 1048576 * (k : Int)
theorem Out.next {k : Nat} {o : Int} (h : Out k o) : Out (k + 1) o := ⟨h.1, by have := h.2; rw [Int.natCast_add]; omega⟩
theorem Out.add {k : Nat} {o c : Int} (h : Out k o) (h1 : 0 ≤ c) (h2 : c ≤ 1048576) (n : Int) : Out (k + 1) (addO c o n) := by
  have h3 := addO_le (c := c) (n := n) o h1 h2
  obtain ⟨h4, h5⟩ := h
  exact ⟨by omega, by rw [Int.natCast_add]; omega⟩
theorem Out.top {k : Nat} {o : Int} (h : Out k o) (hk : k ≤ 60) : 0 ≤ o ∧ o ≤ 1152921504606846976 := ⟨h.1, by have := h.2; omega⟩
/-- Both, behind an act. -/
def After (w : World) (M R k : Nat) (v : Value) (wx : World) : Prop := v = .bool true ∧ ∃ c l o, Hid (Okc c l) ∧ Hid (List.length l ≤ k + 1) ∧ Hid (Out (k + 1) o) ∧ Hid (Bth w M R none0 c l o c l wx)
/-- What lies in the document's box. -/
def RS (R : Nat) (x o : Int) (a : Option Addr) (n s : Nat) (l : List Int) (w : World) : Prop :=
  R < w.heap.size ∧ RowZ w a l ∧ w.cell? ⟨R, 0, none⟩ = some (.int .i64 x) ∧ w.cell? ⟨R, 1, none⟩ = some (.int .i64 o) ∧ w.cell? ⟨R, 2, none⟩ = some (.slice a n s)
theorem RS.below {R : Nat} {x o : Int} {a : Option Addr} {n s : Nat} {l : List Int} {w w' : World} (h : RS R x o a n s l w) (k : Below w.heap.size w w') : RS R x o a n s l w' := by
  obtain ⟨h1, h2, h3, h4, h5⟩ := h
  exact ⟨Nat.lt_of_lt_of_le h1 k.size, h2.below k, (k.cell (p := ⟨R, _, none⟩) h1).trans h3, (k.cell (p := ⟨R, _, none⟩) h1).trans h4, (k.cell (p := ⟨R, _, none⟩) h1).trans h5⟩
theorem RS.drew {R : Nat} {x o : Int} {a : Option Addr} {n s : Nat} {l : List Int} {w : World} (h : RS R x o a n s l w) : RS R x o a n s l w.drew := h.below (Below.refl _ _).drew

set_option maxRecDepth 20000 in
set_option maxHeartbeats 8000000 in
set_option linter.unusedSimpArgs false in
theorem plays_walk (a1 : Option Addr) (l1 c1 : Nat) (h1 : l1 ≤ c1) (g1 : c1 ≤ maxLen) (w : World) (hact1 : Acts w a1 l1) : Calls Try.prog 3 #[.slice a1 l1 c1] w fun e w' => e = .returned (.bool true) ∧ Below w.heap.size w w' := by
  have hl1 : l1 ≤ maxLen := Nat.le_trans h1 g1
  unfold maxLen at hl1
  clear h1 g1
  have HA1 := hide hact1
  clear hact1
  have N0 := hide (x_new (w := w))
  go_enter Try.func3, Try.ntmps3
  go_wp2_with fail
  refine N0.out.mono ?_
  rintro e w1 ⟨rfl, hA⟩
  have HB0 := hide (Bth.start hA)
  obtain ⟨M, hMe⟩ : ∃ M, M = w.heap.size := ⟨_, rfl⟩
  obtain ⟨R, hRe⟩ : ∃ R, R = w1.heap.size := ⟨_, rfl⟩
  rw [← hMe, ← hRe] at HB0
  rw [← hMe]
  clear hA hMe N0
  go_wp2_with fail
  rw [← hRe]
  clear hRe
  go_loopw [5] (fun i wr => ∃ k c l o, i = .int .i64 ((k : Nat) : Int) ∧ k ≤ 60 ∧ k ≤ l1 ∧ Hid (Okc c l) ∧ List.length l ≤ k ∧ Hid (Out k o) ∧ Hid (Bth w M R none0 c l o c l wr)) (fun i _ => 60 - (intOf i).toNat)
  case atStart => exact ⟨0, 0, [], 0, rfl, by omega, by omega, Okc.start, by simp, ⟨by omega, by simp⟩, HB0⟩
  case round =>
    clear HB0
    obtain ⟨k, c, l, o, rfl, hk60, hkl, HO, hlen, HOU, HB⟩ := hrel
    by_cases q1 : k < l1
    · have q1' : (k : Int) < (l1 : Int) := by omega
      by_cases q2 : k < 60
      · have q2' : (k : Int) < 60 := by omega
        have q0' : (0 : Int) ≤ (k : Int) := by omega
        obtain ⟨b2, off2, d, t, n, rfl, hlt2, p0, p1, p2, hd, _, hn⟩ := HA1.out k q1
        have p0' := ((bcell HB.out.2.2).1 _ _ hlt2).trans p0
        have p1' := ((bcell HB.out.2.2).1 _ _ hlt2).trans p1
        have p2' := ((bcell HB.out.2.2).1 _ _ hlt2).trans p2
        have hl9 : l.length ≤ 1000 := by omega
        obtain ⟨m, hm0, hm8, _, _⟩ := u8_mod hd 8 (by omega) (by omega)
        have HM8 : Hid (d.tmod 8 = (m : Int) ∧ m < 8) := ⟨hm0, hm8⟩
        obtain ⟨b, hb⟩ : ∃ b, b = wr.heap.size := ⟨_, rfl⟩
        obtain ⟨w2, hw2⟩ : ∃ w2, w2 = wr.alloc (.cells #[.int .u8 d, .int .i64 t, .int .i64 n] 30) := ⟨_, rfl⟩
        have HB2 : Hid (Bth w M R (fun k => k = b) c l o c l w2) := hide (by rw [hw2, hb]; exact HB.out.boxed _)
        have bc0 : w2.cell? ⟨b, 0, none⟩ = some (.int .u8 d) := by
          rw [hw2, hb]
          exact Lib.cell_of_heap (heap_alloc_new _ _) 0
        have bc1 : w2.cell? ⟨b, 1, none⟩ = some (.int .i64 t) := by
          rw [hw2, hb]
          exact Lib.cell_of_heap (heap_alloc_new _ _) 1
        have bc2 : w2.cell? ⟨b, 2, none⟩ = some (.int .i64 n) := by
          rw [hw2, hb]
          exact Lib.cell_of_heap (heap_alloc_new _ _) 2
        have HKL := hide (show k + 1 ≤ 60 ∧ k + 1 ≤ l1 from by omega)
        have HLN := hide hlen
        have HNN := hide hn
        clear p0 p1 p2 hm0 hm8 hd hn HB
        go_upto_block 2 with fail
        rw [← hw2, ← hb]
        clear hw2 hb p0' p1' p2' q0' q1' q2' hlt2
        go_cut [7, 8, 9, 10, 11, 31] (fun v7 _ _ _ _ _ wx => After w M R k v7 wx)
        case first =>
          have hOT := HOU.out.top hk60
          clear hkl hk60 hl1 q1 q2 HKL HA1 hlen
          have hc := HO.out.lo
          have hc2 := HO.out.hi
          obtain ⟨hm, hm8⟩ := HM8.out
          clear HM8
          rcases eight hm8 with rfl | rfl | rfl | rfl | rfl | rfl | rfl | rfl
          · have hm' : d.tmod 8 = 0 := hm
            clear hm hm8 hOT hc hc2
            have HO2 := hide (HO.out.rm t)
            have HU2 := hide HOU.out.next
            have HL2 : Hid (List.length (rmZ l t) ≤ k + 1) := hide (Nat.le_trans (rm_len l t) (Nat.le_succ_of_le HLN.out))
            have C1 : Hid (∀ W, Bth w M R (fun k => k = b) c l o c l W → Calls Try.prog 9 #[.pointer (some ⟨M, 0, none⟩), .int .i64 t] W fun e w' => e = .returned (.bool (inZ l t)) ∧ Bth w M R (fun k => k = b) c (rmZ l t) o c l w' ∧ Kept (fun k => k = b) W w') := hide fun W hW => b_drop HO.out.row hl9 t hW
            have C2 : Hid (∀ W, Bth w M R (fun k => k = b) c (rmZ l t) o c l W → Calls Try.prog 10 #[.pointer (some ⟨R, 0, none⟩), .int .i64 t] W fun e w' => e = .returned (.bool (inZ l t)) ∧ Bth w M R (fun k => k = b) c (rmZ l t) o c (rmZ l t) w' ∧ Kept (fun k => k = b) W w') := hide fun W hW => r_drop HO.out.row hl9 t hW
            clear HLN HNN
            generalize rmZ l t = L2 at *
            generalize (inZ l t) = E0 at *
            have tt0 : (E0 == E0) = true := by simp
            go_wp2_with fail
            clear hm'
            refine wp_region_noPanic ?_
            refine wp_region_held_drew (S := fun w' => w'.cell? ⟨b, 1, none⟩ = some (.int .i64 t)) (by kernel_rfl) ?_ (fun hHeld => ?_)
            · exact bc1
            refine wpAnyH_take (i := 0) (v := ?_) rfl (by kernel_rfl) (by kernel_rfl) (by kernel_rfl) (fun _ _ _ h => h) (Or.inl ⟨by rfl, ?_⟩) (by first | trivial | assumption) ?_
            rotate_left 1
            · (intro w hSw; (try dsimp only at hSw); go_simp; all_goals with_reducible rfl)
            try simp only [Act.put, List.getElem_toArray, List.getElem_cons_zero, List.getElem_cons_succ, List.setIfInBounds_toArray, List.set_cons_zero, List.set_cons_succ]
            refine wpAnyH_take (i := 1) (v := ?_) rfl (by kernel_rfl) (by kernel_rfl) (by kernel_rfl) (fun _ _ _ h => h) (Or.inl ⟨by rfl, ?_⟩) (by first | trivial | assumption) ?_
            rotate_left 1
            · (intro w hSw; (try dsimp only at hSw); go_simp; all_goals with_reducible rfl)
            try simp only [Act.put, List.getElem_toArray, List.getElem_cons_zero, List.getElem_cons_succ, List.setIfInBounds_toArray, List.set_cons_zero, List.set_cons_succ]
            refine wpAnyH_take (i := 2) (v := ?_) rfl (by kernel_rfl) (by kernel_rfl) (by kernel_rfl) (fun _ _ _ h => h) (Or.inl ⟨by rfl, ?_⟩) (by first | trivial | assumption) ?_
            rotate_left 1
            · (intro w hSw; (try dsimp only at hSw); go_simp; all_goals with_reducible rfl)
            try simp only [Act.put, List.getElem_toArray, List.getElem_cons_zero, List.getElem_cons_succ, List.setIfInBounds_toArray, List.set_cons_zero, List.set_cons_succ]
            refine wpAnyH_take (i := 4) (v := ?_) rfl (by kernel_rfl) (by kernel_rfl) (by kernel_rfl) (fun _ _ _ h => h) (Or.inl ⟨by rfl, ?_⟩) (by first | trivial | assumption) ?_
            rotate_left 1
            · (intro w hSw; (try dsimp only at hSw); go_simp; all_goals with_reducible rfl)
            try simp only [Act.put, List.getElem_toArray, List.getElem_cons_zero, List.getElem_cons_succ, List.setIfInBounds_toArray, List.set_cons_zero, List.set_cons_succ]
            refine wpAnyH_take (i := 5) (v := ?_) rfl (by kernel_rfl) (by kernel_rfl) (by kernel_rfl) (fun _ _ _ h => h) (Or.inl ⟨by rfl, ?_⟩) (by first | trivial | assumption) ?_
            rotate_left 1
            · (intro w hSw; (try dsimp only at hSw); go_simp; all_goals with_reducible rfl)
            try simp only [Act.put, List.getElem_toArray, List.getElem_cons_zero, List.getElem_cons_succ, List.setIfInBounds_toArray, List.set_cons_zero, List.set_cons_succ]
            refine wpAnyH_take (i := 6) (v := ?_) rfl (by kernel_rfl) (by kernel_rfl) (by kernel_rfl) (fun _ _ _ h => h) (Or.inl ⟨by rfl, ?_⟩) (by first | trivial | assumption) ?_
            rotate_left 1
            · (intro w hSw; (try dsimp only at hSw); go_simp; all_goals with_reducible rfl)
            try simp only [Act.put, List.getElem_toArray, List.getElem_cons_zero, List.getElem_cons_succ, List.setIfInBounds_toArray, List.set_cons_zero, List.set_cons_succ]
            refine wpAnyH_ready (rs := [3]) (by kernel_rfl) (by simp) ?_
            refine AllReadyH.cons rfl (fun K hK => ?_) ?_
            · (go_simp; go_at_call 9; refine (C1.out _ HB2.out.drew).mono ?_; rintro e w3 ⟨rfl, hB, hk⟩; have HB3 := hide hB; have bc3 : w3.cell? ⟨b, 1, none⟩ = some (.int .i64 t) := (World.cell?_of_block (hk.1 b rfl)).trans bc1; clear hB hk)
              refine hK.out _ _ ?_ (fun hHeld => ?_)
              · (first | exact bc3 | exact bc4 | assumption)
              clear hK K
              try simp only [Act.put, List.getElem_toArray, List.getElem_cons_zero, List.getElem_cons_succ, List.setIfInBounds_toArray, List.set_cons_zero, List.set_cons_succ]
              refine wpAnyH_ready (rs := [7]) (by kernel_rfl) (by simp) ?_
              refine AllReadyH.cons rfl (fun K hK => ?_) ?_
              · (go_simp; go_at_call 10; refine (C2.out _ HB3.out).mono ?_; rintro e w4 ⟨rfl, hB, hk⟩; have HB4 := hide hB; have bc4 : w4.cell? ⟨b, 1, none⟩ = some (.int .i64 t) := (World.cell?_of_block (hk.1 b rfl)).trans bc3; clear hB hk)
                refine hK.out _ _ ?_ (fun hHeld => ?_)
                · (first | exact bc3 | exact bc4 | assumption)
                clear hK K
                try simp only [Act.put, List.getElem_toArray, List.getElem_cons_zero, List.getElem_cons_succ, List.setIfInBounds_toArray, List.set_cons_zero, List.set_cons_succ]
                refine wpAnyH_take (i := 8) (v := ?_) rfl (by kernel_rfl) (by kernel_rfl) (by kernel_rfl) (fun _ _ _ h => h) (Or.inl ⟨by rfl, ?_⟩) (by first | trivial | assumption) ?_
                rotate_left 1
                · (intro w hSw; (try dsimp only at hSw); go_simp; all_goals with_reducible rfl)
                try simp only [Act.put, List.getElem_toArray, List.getElem_cons_zero, List.getElem_cons_succ, List.setIfInBounds_toArray, List.set_cons_zero, List.set_cons_succ]
                refine wpAnyH_take (i := 9) (v := ?_) rfl (by kernel_rfl) (by kernel_rfl) (by kernel_rfl) (fun _ _ _ h => h) (Or.inl ⟨by rfl, ?_⟩) (by first | trivial | assumption) ?_
                rotate_left 1
                · (intro w hSw; (try dsimp only at hSw); go_simp; all_goals with_reducible rfl)
                try simp only [Act.put, List.getElem_toArray, List.getElem_cons_zero, List.getElem_cons_succ, List.setIfInBounds_toArray, List.set_cons_zero, List.set_cons_succ]
                refine wpAnyH_done (by kernel_rfl) ?_ _
                refine NoPanic.normal ?_
                clear hHeld bc3 bc4 C1 C2 HB2 HB3
                go_wp2_with fail
                go_meet
                exact ⟨by simp, _, _, _, HO2, HL2, HU2, hide (HB4.out.mono fun _ h => h.elim)⟩
              exact AllReadyH.nil
            exact AllReadyH.nil
          · have hm' : d.tmod 8 = 1 := hm
            clear hm hm8 hOT hc hc2
            have HO2 := hide (HO.out.wait t)
            have HU2 := hide HOU.out.next
            have HL2 : Hid (List.length (waitL c l t) ≤ k + 1) := hide (Nat.le_trans (wait_len c l t) (Nat.succ_le_succ HLN.out))
            have C1 : Hid (∀ W, Bth w M R (fun k => k = b) c l o c l W → Calls Try.prog 11 #[.pointer (some ⟨M, 0, none⟩), .int .i64 t] W fun e w' => e = .returned (.int .i64 (waitE c l t)) ∧ Bth w M R (fun k => k = b) c (waitL c l t) o c l w' ∧ Kept (fun k => k = b) W w') := hide fun W hW => b_wait hl9 t hW
            have C2 : Hid (∀ W, Bth w M R (fun k => k = b) c (waitL c l t) o c l W → Calls Try.prog 12 #[.pointer (some ⟨R, 0, none⟩), .int .i64 t] W fun e w' => e = .returned (.int .i64 (waitE c l t)) ∧ Bth w M R (fun k => k = b) c (waitL c l t) o c (waitL c l t) w' ∧ Kept (fun k => k = b) W w') := hide fun W hW => r_wait hl9 t hW
            clear HLN HNN
            generalize waitL c l t = L2 at *
            generalize (waitE c l t) = E0 at *
            have tt0 : (E0 == E0) = true := by simp
            go_wp2_with fail
            clear hm'
            refine wp_region_noPanic ?_
            refine wp_region_held_drew (S := fun w' => w'.cell? ⟨b, 1, none⟩ = some (.int .i64 t)) (by kernel_rfl) ?_ (fun hHeld => ?_)
            · exact bc1
            refine wpAnyH_take (i := 0) (v := ?_) rfl (by kernel_rfl) (by kernel_rfl) (by kernel_rfl) (fun _ _ _ h => h) (Or.inl ⟨by rfl, ?_⟩) (by first | trivial | assumption) ?_
            rotate_left 1
            · (intro w hSw; (try dsimp only at hSw); go_simp; all_goals with_reducible rfl)
            try simp only [Act.put, List.getElem_toArray, List.getElem_cons_zero, List.getElem_cons_succ, List.setIfInBounds_toArray, List.set_cons_zero, List.set_cons_succ]
            refine wpAnyH_take (i := 1) (v := ?_) rfl (by kernel_rfl) (by kernel_rfl) (by kernel_rfl) (fun _ _ _ h => h) (Or.inl ⟨by rfl, ?_⟩) (by first | trivial | assumption) ?_
            rotate_left 1
            · (intro w hSw; (try dsimp only at hSw); go_simp; all_goals with_reducible rfl)
            try simp only [Act.put, List.getElem_toArray, List.getElem_cons_zero, List.getElem_cons_succ, List.setIfInBounds_toArray, List.set_cons_zero, List.set_cons_succ]
            refine wpAnyH_take (i := 2) (v := ?_) rfl (by kernel_rfl) (by kernel_rfl) (by kernel_rfl) (fun _ _ _ h => h) (Or.inl ⟨by rfl, ?_⟩) (by first | trivial | assumption) ?_
            rotate_left 1
            · (intro w hSw; (try dsimp only at hSw); go_simp; all_goals with_reducible rfl)
            try simp only [Act.put, List.getElem_toArray, List.getElem_cons_zero, List.getElem_cons_succ, List.setIfInBounds_toArray, List.set_cons_zero, List.set_cons_succ]
            refine wpAnyH_take (i := 4) (v := ?_) rfl (by kernel_rfl) (by kernel_rfl) (by kernel_rfl) (fun _ _ _ h => h) (Or.inl ⟨by rfl, ?_⟩) (by first | trivial | assumption) ?_
            rotate_left 1
            · (intro w hSw; (try dsimp only at hSw); go_simp; all_goals with_reducible rfl)
            try simp only [Act.put, List.getElem_toArray, List.getElem_cons_zero, List.getElem_cons_succ, List.setIfInBounds_toArray, List.set_cons_zero, List.set_cons_succ]
            refine wpAnyH_take (i := 5) (v := ?_) rfl (by kernel_rfl) (by kernel_rfl) (by kernel_rfl) (fun _ _ _ h => h) (Or.inl ⟨by rfl, ?_⟩) (by first | trivial | assumption) ?_
            rotate_left 1
            · (intro w hSw; (try dsimp only at hSw); go_simp; all_goals with_reducible rfl)
            try simp only [Act.put, List.getElem_toArray, List.getElem_cons_zero, List.getElem_cons_succ, List.setIfInBounds_toArray, List.set_cons_zero, List.set_cons_succ]
            refine wpAnyH_take (i := 6) (v := ?_) rfl (by kernel_rfl) (by kernel_rfl) (by kernel_rfl) (fun _ _ _ h => h) (Or.inl ⟨by rfl, ?_⟩) (by first | trivial | assumption) ?_
            rotate_left 1
            · (intro w hSw; (try dsimp only at hSw); go_simp; all_goals with_reducible rfl)
            try simp only [Act.put, List.getElem_toArray, List.getElem_cons_zero, List.getElem_cons_succ, List.setIfInBounds_toArray, List.set_cons_zero, List.set_cons_succ]
            refine wpAnyH_ready (rs := [3]) (by kernel_rfl) (by simp) ?_
            refine AllReadyH.cons rfl (fun K hK => ?_) ?_
            · (go_simp; go_at_call 11; refine (C1.out _ HB2.out.drew).mono ?_; rintro e w3 ⟨rfl, hB, hk⟩; have HB3 := hide hB; have bc3 : w3.cell? ⟨b, 1, none⟩ = some (.int .i64 t) := (World.cell?_of_block (hk.1 b rfl)).trans bc1; clear hB hk)
              refine hK.out _ _ ?_ (fun hHeld => ?_)
              · (first | exact bc3 | exact bc4 | assumption)
              clear hK K
              try simp only [Act.put, List.getElem_toArray, List.getElem_cons_zero, List.getElem_cons_succ, List.setIfInBounds_toArray, List.set_cons_zero, List.set_cons_succ]
              refine wpAnyH_ready (rs := [7]) (by kernel_rfl) (by simp) ?_
              refine AllReadyH.cons rfl (fun K hK => ?_) ?_
              · (go_simp; go_at_call 12; refine (C2.out _ HB3.out).mono ?_; rintro e w4 ⟨rfl, hB, hk⟩; have HB4 := hide hB; have bc4 : w4.cell? ⟨b, 1, none⟩ = some (.int .i64 t) := (World.cell?_of_block (hk.1 b rfl)).trans bc3; clear hB hk)
                refine hK.out _ _ ?_ (fun hHeld => ?_)
                · (first | exact bc3 | exact bc4 | assumption)
                clear hK K
                try simp only [Act.put, List.getElem_toArray, List.getElem_cons_zero, List.getElem_cons_succ, List.setIfInBounds_toArray, List.set_cons_zero, List.set_cons_succ]
                refine wpAnyH_take (i := 8) (v := ?_) rfl (by kernel_rfl) (by kernel_rfl) (by kernel_rfl) (fun _ _ _ h => h) (Or.inl ⟨by rfl, ?_⟩) (by first | trivial | assumption) ?_
                rotate_left 1
                · (intro w hSw; (try dsimp only at hSw); go_simp; all_goals with_reducible rfl)
                try simp only [Act.put, List.getElem_toArray, List.getElem_cons_zero, List.getElem_cons_succ, List.setIfInBounds_toArray, List.set_cons_zero, List.set_cons_succ]
                refine wpAnyH_take (i := 9) (v := ?_) rfl (by kernel_rfl) (by kernel_rfl) (by kernel_rfl) (fun _ _ _ h => h) (Or.inl ⟨by rfl, ?_⟩) (by first | trivial | assumption) ?_
                rotate_left 1
                · (intro w hSw; (try dsimp only at hSw); go_simp; all_goals with_reducible rfl)
                try simp only [Act.put, List.getElem_toArray, List.getElem_cons_zero, List.getElem_cons_succ, List.setIfInBounds_toArray, List.set_cons_zero, List.set_cons_succ]
                refine wpAnyH_done (by kernel_rfl) ?_ _
                refine NoPanic.normal ?_
                clear hHeld bc3 bc4 C1 C2 HB2 HB3
                go_wp2_with fail
                go_meet
                exact ⟨by simp, _, _, _, HO2, HL2, HU2, hide (HB4.out.mono fun _ h => h.elim)⟩
              exact AllReadyH.nil
            exact AllReadyH.nil
          · have hm' : d.tmod 8 = 2 := hm
            clear hm hm8 hOT hc hc2
            have HO2 := hide (HO.out.wait t)
            have HU2 := hide HOU.out.next
            have HL2 : Hid (List.length (waitL c l t) ≤ k + 1) := hide (Nat.le_trans (wait_len c l t) (Nat.succ_le_succ HLN.out))
            have C1 : Hid (∀ W, Bth w M R (fun k => k = b) c l o c l W → Calls Try.prog 11 #[.pointer (some ⟨M, 0, none⟩), .int .i64 t] W fun e w' => e = .returned (.int .i64 (waitE c l t)) ∧ Bth w M R (fun k => k = b) c (waitL c l t) o c l w' ∧ Kept (fun k => k = b) W w') := hide fun W hW => b_wait hl9 t hW
            have C2 : Hid (∀ W, Bth w M R (fun k => k = b) c (waitL c l t) o c l W → Calls Try.prog 12 #[.pointer (some ⟨R, 0, none⟩), .int .i64 t] W fun e w' => e = .returned (.int .i64 (waitE c l t)) ∧ Bth w M R (fun k => k = b) c (waitL c l t) o c (waitL c l t) w' ∧ Kept (fun k => k = b) W w') := hide fun W hW => r_wait hl9 t hW
            clear HLN HNN
            generalize waitL c l t = L2 at *
            generalize (waitE c l t) = E0 at *
            have tt0 : (E0 == E0) = true := by simp
            go_wp2_with fail
            clear hm'
            refine wp_region_noPanic ?_
            refine wp_region_held_drew (S := fun w' => w'.cell? ⟨b, 1, none⟩ = some (.int .i64 t)) (by kernel_rfl) ?_ (fun hHeld => ?_)
            · exact bc1
            refine wpAnyH_take (i := 0) (v := ?_) rfl (by kernel_rfl) (by kernel_rfl) (by kernel_rfl) (fun _ _ _ h => h) (Or.inl ⟨by rfl, ?_⟩) (by first | trivial | assumption) ?_
            rotate_left 1
            · (intro w hSw; (try dsimp only at hSw); go_simp; all_goals with_reducible rfl)
            try simp only [Act.put, List.getElem_toArray, List.getElem_cons_zero, List.getElem_cons_succ, List.setIfInBounds_toArray, List.set_cons_zero, List.set_cons_succ]
            refine wpAnyH_take (i := 1) (v := ?_) rfl (by kernel_rfl) (by kernel_rfl) (by kernel_rfl) (fun _ _ _ h => h) (Or.inl ⟨by rfl, ?_⟩) (by first | trivial | assumption) ?_
            rotate_left 1
            · (intro w hSw; (try dsimp only at hSw); go_simp; all_goals with_reducible rfl)
            try simp only [Act.put, List.getElem_toArray, List.getElem_cons_zero, List.getElem_cons_succ, List.setIfInBounds_toArray, List.set_cons_zero, List.set_cons_succ]
            refine wpAnyH_take (i := 2) (v := ?_) rfl (by kernel_rfl) (by kernel_rfl) (by kernel_rfl) (fun _ _ _ h => h) (Or.inl ⟨by rfl, ?_⟩) (by first | trivial | assumption) ?_
            rotate_left 1
            · (intro w hSw; (try dsimp only at hSw); go_simp; all_goals with_reducible rfl)
            try simp only [Act.put, List.getElem_toArray, List.getElem_cons_zero, List.getElem_cons_succ, List.setIfInBounds_toArray, List.set_cons_zero, List.set_cons_succ]
            refine wpAnyH_take (i := 4) (v := ?_) rfl (by kernel_rfl) (by kernel_rfl) (by kernel_rfl) (fun _ _ _ h => h) (Or.inl ⟨by rfl, ?_⟩) (by first | trivial | assumption) ?_
            rotate_left 1
            · (intro w hSw; (try dsimp only at hSw); go_simp; all_goals with_reducible rfl)
            try simp only [Act.put, List.getElem_toArray, List.getElem_cons_zero, List.getElem_cons_succ, List.setIfInBounds_toArray, List.set_cons_zero, List.set_cons_succ]
            refine wpAnyH_take (i := 5) (v := ?_) rfl (by kernel_rfl) (by kernel_rfl) (by kernel_rfl) (fun _ _ _ h => h) (Or.inl ⟨by rfl, ?_⟩) (by first | trivial | assumption) ?_
            rotate_left 1
            · (intro w hSw; (try dsimp only at hSw); go_simp; all_goals with_reducible rfl)
            try simp only [Act.put, List.getElem_toArray, List.getElem_cons_zero, List.getElem_cons_succ, List.setIfInBounds_toArray, List.set_cons_zero, List.set_cons_succ]
            refine wpAnyH_take (i := 6) (v := ?_) rfl (by kernel_rfl) (by kernel_rfl) (by kernel_rfl) (fun _ _ _ h => h) (Or.inl ⟨by rfl, ?_⟩) (by first | trivial | assumption) ?_
            rotate_left 1
            · (intro w hSw; (try dsimp only at hSw); go_simp; all_goals with_reducible rfl)
            try simp only [Act.put, List.getElem_toArray, List.getElem_cons_zero, List.getElem_cons_succ, List.setIfInBounds_toArray, List.set_cons_zero, List.set_cons_succ]
            refine wpAnyH_ready (rs := [3]) (by kernel_rfl) (by simp) ?_
            refine AllReadyH.cons rfl (fun K hK => ?_) ?_
            · (go_simp; go_at_call 11; refine (C1.out _ HB2.out.drew).mono ?_; rintro e w3 ⟨rfl, hB, hk⟩; have HB3 := hide hB; have bc3 : w3.cell? ⟨b, 1, none⟩ = some (.int .i64 t) := (World.cell?_of_block (hk.1 b rfl)).trans bc1; clear hB hk)
              refine hK.out _ _ ?_ (fun hHeld => ?_)
              · (first | exact bc3 | exact bc4 | assumption)
              clear hK K
              try simp only [Act.put, List.getElem_toArray, List.getElem_cons_zero, List.getElem_cons_succ, List.setIfInBounds_toArray, List.set_cons_zero, List.set_cons_succ]
              refine wpAnyH_ready (rs := [7]) (by kernel_rfl) (by simp) ?_
              refine AllReadyH.cons rfl (fun K hK => ?_) ?_
              · (go_simp; go_at_call 12; refine (C2.out _ HB3.out).mono ?_; rintro e w4 ⟨rfl, hB, hk⟩; have HB4 := hide hB; have bc4 : w4.cell? ⟨b, 1, none⟩ = some (.int .i64 t) := (World.cell?_of_block (hk.1 b rfl)).trans bc3; clear hB hk)
                refine hK.out _ _ ?_ (fun hHeld => ?_)
                · (first | exact bc3 | exact bc4 | assumption)
                clear hK K
                try simp only [Act.put, List.getElem_toArray, List.getElem_cons_zero, List.getElem_cons_succ, List.setIfInBounds_toArray, List.set_cons_zero, List.set_cons_succ]
                refine wpAnyH_take (i := 8) (v := ?_) rfl (by kernel_rfl) (by kernel_rfl) (by kernel_rfl) (fun _ _ _ h => h) (Or.inl ⟨by rfl, ?_⟩) (by first | trivial | assumption) ?_
                rotate_left 1
                · (intro w hSw; (try dsimp only at hSw); go_simp; all_goals with_reducible rfl)
                try simp only [Act.put, List.getElem_toArray, List.getElem_cons_zero, List.getElem_cons_succ, List.setIfInBounds_toArray, List.set_cons_zero, List.set_cons_succ]
                refine wpAnyH_take (i := 9) (v := ?_) rfl (by kernel_rfl) (by kernel_rfl) (by kernel_rfl) (fun _ _ _ h => h) (Or.inl ⟨by rfl, ?_⟩) (by first | trivial | assumption) ?_
                rotate_left 1
                · (intro w hSw; (try dsimp only at hSw); go_simp; all_goals with_reducible rfl)
                try simp only [Act.put, List.getElem_toArray, List.getElem_cons_zero, List.getElem_cons_succ, List.setIfInBounds_toArray, List.set_cons_zero, List.set_cons_succ]
                refine wpAnyH_done (by kernel_rfl) ?_ _
                refine NoPanic.normal ?_
                clear hHeld bc3 bc4 C1 C2 HB2 HB3
                go_wp2_with fail
                go_meet
                exact ⟨by simp, _, _, _, HO2, HL2, HU2, hide (HB4.out.mono fun _ h => h.elim)⟩
              exact AllReadyH.nil
            exact AllReadyH.nil
          · have hm' : d.tmod 8 = 3 := hm
            clear hm hm8 hOT hc hc2
            have HO2 := hide (HO.out.wait t)
            have HU2 := hide HOU.out.next
            have HL2 : Hid (List.length (waitL c l t) ≤ k + 1) := hide (Nat.le_trans (wait_len c l t) (Nat.succ_le_succ HLN.out))
            have C1 : Hid (∀ W, Bth w M R (fun k => k = b) c l o c l W → Calls Try.prog 11 #[.pointer (some ⟨M, 0, none⟩), .int .i64 t] W fun e w' => e = .returned (.int .i64 (waitE c l t)) ∧ Bth w M R (fun k => k = b) c (waitL c l t) o c l w' ∧ Kept (fun k => k = b) W w') := hide fun W hW => b_wait hl9 t hW
            have C2 : Hid (∀ W, Bth w M R (fun k => k = b) c (waitL c l t) o c l W → Calls Try.prog 12 #[.pointer (some ⟨R, 0, none⟩), .int .i64 t] W fun e w' => e = .returned (.int .i64 (waitE c l t)) ∧ Bth w M R (fun k => k = b) c (waitL c l t) o c (waitL c l t) w' ∧ Kept (fun k => k = b) W w') := hide fun W hW => r_wait hl9 t hW
            clear HLN HNN
            generalize waitL c l t = L2 at *
            generalize (waitE c l t) = E0 at *
            have tt0 : (E0 == E0) = true := by simp
            go_wp2_with fail
            clear hm'
            refine wp_region_noPanic ?_
            refine wp_region_held_drew (S := fun w' => w'.cell? ⟨b, 1, none⟩ = some (.int .i64 t)) (by kernel_rfl) ?_ (fun hHeld => ?_)
            · exact bc1
            refine wpAnyH_take (i := 0) (v := ?_) rfl (by kernel_rfl) (by kernel_rfl) (by kernel_rfl) (fun _ _ _ h => h) (Or.inl ⟨by rfl, ?_⟩) (by first | trivial | assumption) ?_
            rotate_left 1
            · (intro w hSw; (try dsimp only at hSw); go_simp; all_goals with_reducible rfl)
            try simp only [Act.put, List.getElem_toArray, List.getElem_cons_zero, List.getElem_cons_succ, List.setIfInBounds_toArray, List.set_cons_zero, List.set_cons_succ]
            refine wpAnyH_take (i := 1) (v := ?_) rfl (by kernel_rfl) (by kernel_rfl) (by kernel_rfl) (fun _ _ _ h => h) (Or.inl ⟨by rfl, ?_⟩) (by first | trivial | assumption) ?_
            rotate_left 1
            · (intro w hSw; (try dsimp only at hSw); go_simp; all_goals with_reducible rfl)
            try simp only [Act.put, List.getElem_toArray, List.getElem_cons_zero, List.getElem_cons_succ, List.setIfInBounds_toArray, List.set_cons_zero, List.set_cons_succ]
            refine wpAnyH_take (i := 2) (v := ?_) rfl (by kernel_rfl) (by kernel_rfl) (by kernel_rfl) (fun _ _ _ h => h) (Or.inl ⟨by rfl, ?_⟩) (by first | trivial | assumption) ?_
            rotate_left 1
            · (intro w hSw; (try dsimp only at hSw); go_simp; all_goals with_reducible rfl)
            try simp only [Act.put, List.getElem_toArray, List.getElem_cons_zero, List.getElem_cons_succ, List.setIfInBounds_toArray, List.set_cons_zero, List.set_cons_succ]
            refine wpAnyH_take (i := 4) (v := ?_) rfl (by kernel_rfl) (by kernel_rfl) (by kernel_rfl) (fun _ _ _ h => h) (Or.inl ⟨by rfl, ?_⟩) (by first | trivial | assumption) ?_
            rotate_left 1
            · (intro w hSw; (try dsimp only at hSw); go_simp; all_goals with_reducible rfl)
            try simp only [Act.put, List.getElem_toArray, List.getElem_cons_zero, List.getElem_cons_succ, List.setIfInBounds_toArray, List.set_cons_zero, List.set_cons_succ]
            refine wpAnyH_take (i := 5) (v := ?_) rfl (by kernel_rfl) (by kernel_rfl) (by kernel_rfl) (fun _ _ _ h => h) (Or.inl ⟨by rfl, ?_⟩) (by first | trivial | assumption) ?_
            rotate_left 1
            · (intro w hSw; (try dsimp only at hSw); go_simp; all_goals with_reducible rfl)
            try simp only [Act.put, List.getElem_toArray, List.getElem_cons_zero, List.getElem_cons_succ, List.setIfInBounds_toArray, List.set_cons_zero, List.set_cons_succ]
            refine wpAnyH_take (i := 6) (v := ?_) rfl (by kernel_rfl) (by kernel_rfl) (by kernel_rfl) (fun _ _ _ h => h) (Or.inl ⟨by rfl, ?_⟩) (by first | trivial | assumption) ?_
            rotate_left 1
            · (intro w hSw; (try dsimp only at hSw); go_simp; all_goals with_reducible rfl)
            try simp only [Act.put, List.getElem_toArray, List.getElem_cons_zero, List.getElem_cons_succ, List.setIfInBounds_toArray, List.set_cons_zero, List.set_cons_succ]
            refine wpAnyH_ready (rs := [3]) (by kernel_rfl) (by simp) ?_
            refine AllReadyH.cons rfl (fun K hK => ?_) ?_
            · (go_simp; go_at_call 11; refine (C1.out _ HB2.out.drew).mono ?_; rintro e w3 ⟨rfl, hB, hk⟩; have HB3 := hide hB; have bc3 : w3.cell? ⟨b, 1, none⟩ = some (.int .i64 t) := (World.cell?_of_block (hk.1 b rfl)).trans bc1; clear hB hk)
              refine hK.out _ _ ?_ (fun hHeld => ?_)
              · (first | exact bc3 | exact bc4 | assumption)
              clear hK K
              try simp only [Act.put, List.getElem_toArray, List.getElem_cons_zero, List.getElem_cons_succ, List.setIfInBounds_toArray, List.set_cons_zero, List.set_cons_succ]
              refine wpAnyH_ready (rs := [7]) (by kernel_rfl) (by simp) ?_
              refine AllReadyH.cons rfl (fun K hK => ?_) ?_
              · (go_simp; go_at_call 12; refine (C2.out _ HB3.out).mono ?_; rintro e w4 ⟨rfl, hB, hk⟩; have HB4 := hide hB; have bc4 : w4.cell? ⟨b, 1, none⟩ = some (.int .i64 t) := (World.cell?_of_block (hk.1 b rfl)).trans bc3; clear hB hk)
                refine hK.out _ _ ?_ (fun hHeld => ?_)
                · (first | exact bc3 | exact bc4 | assumption)
                clear hK K
                try simp only [Act.put, List.getElem_toArray, List.getElem_cons_zero, List.getElem_cons_succ, List.setIfInBounds_toArray, List.set_cons_zero, List.set_cons_succ]
                refine wpAnyH_take (i := 8) (v := ?_) rfl (by kernel_rfl) (by kernel_rfl) (by kernel_rfl) (fun _ _ _ h => h) (Or.inl ⟨by rfl, ?_⟩) (by first | trivial | assumption) ?_
                rotate_left 1
                · (intro w hSw; (try dsimp only at hSw); go_simp; all_goals with_reducible rfl)
                try simp only [Act.put, List.getElem_toArray, List.getElem_cons_zero, List.getElem_cons_succ, List.setIfInBounds_toArray, List.set_cons_zero, List.set_cons_succ]
                refine wpAnyH_take (i := 9) (v := ?_) rfl (by kernel_rfl) (by kernel_rfl) (by kernel_rfl) (fun _ _ _ h => h) (Or.inl ⟨by rfl, ?_⟩) (by first | trivial | assumption) ?_
                rotate_left 1
                · (intro w hSw; (try dsimp only at hSw); go_simp; all_goals with_reducible rfl)
                try simp only [Act.put, List.getElem_toArray, List.getElem_cons_zero, List.getElem_cons_succ, List.setIfInBounds_toArray, List.set_cons_zero, List.set_cons_succ]
                refine wpAnyH_done (by kernel_rfl) ?_ _
                refine NoPanic.normal ?_
                clear hHeld bc3 bc4 C1 C2 HB2 HB3
                go_wp2_with fail
                go_meet
                exact ⟨by simp, _, _, _, HO2, HL2, HU2, hide (HB4.out.mono fun _ h => h.elim)⟩
              exact AllReadyH.nil
            exact AllReadyH.nil
          · have hm' : d.tmod 8 = 4 := hm
            clear hm hm8
            have HO2 := hide (HO.out.add n)
            have HU2 := hide (HOU.out.add hc hc2 n)
            have HL2 : Hid (List.length (addL c n l) ≤ k + 1) := hide (Nat.le_trans (addL_len c n l) (Nat.le_succ_of_le HLN.out))
            have hW9 : (addW c n l).length ≤ 1000 := Nat.le_trans (addW_len c n l) hl9
            have D1 := b_add (W0 := w) (M := M) (R := R) (F := fun k => k = b) (o := o) (d := c) (q := l) (w := w2) ⟨hc, hc2⟩ n HB2.out
            have D2 : ∀ F W, Bth w M R F (addC c n) (addL c n l) o c l W → Calls Try.prog 14 #[.pointer (some ⟨R, 0, none⟩), .int .i64 n] W fun e w' => (∃ a s, e = .returned (.tuple #[.slice a (addW c n l).length s, .int .i64 (addE c n)]) ∧ RowZ w' a (addW c n l)) ∧ Bth w M R F (addC c n) (addL c n l) (addO c o n) (addC c n) (addL c n l) w' ∧ Kept F W w' := fun F W hW => r_add ⟨hc, hc2⟩ hOT n HNN.out hW
            generalize addW c n l = T at *
            obtain ⟨z, hz⟩ : ∃ z, T.length = z := ⟨_, rfl⟩
            have I1 : ∀ a1 a2 c1 c2 W, RowZ W a1 T → RowZ W a2 T → Calls Try.prog 15 #[.slice a1 T.length c1, .slice a2 T.length c2] W fun e w' => e = .returned (.bool true) ∧ Below W.heap.size W w' := fun a1 a2 c1 c2 W k1 k2 => same_ints a1 a2 c1 c2 T W hW9 k1 k2
            rw [hz] at D1 I1
            simp only [hz] at D2
            have C1 := hide D1
            have C2 := hide D2
            have HI := hide I1
            clear HLN HNN HO HOU HB2 D1 D2 I1 hz hW9 hl9 hOT hc hc2
            generalize addL c n l = L2 at *
            generalize addC c n = A2 at *
            generalize addO c o n = O2 at *
            generalize addE c n = E0 at *
            have tt1 : (E0 == E0) = true := by simp
            go_wp2_with fail
            clear hm'
            refine C1.out.mono ?_
            rintro e w3 ⟨a3, c3, rfl, hr, hB, hk⟩
            have HB3 := hide hB
            have HR3 := hide hr
            have bd2 : w3.cell? ⟨b, 2, none⟩ = some (.int .i64 n) := (World.cell?_of_block (hk.1 b rfl)).trans bc2
            clear hB hr hk C1 bc0 bc1 bc2
            go_wp2_with fail
            refine (C2.out _ _ HB3.out).mono ?_
            rintro e w4 ⟨⟨a4, c4, rfl, hz⟩, hB, hk⟩
            have HB4 := hide hB
            have HZ4 := hide hz
            have HR4 := hide (HR3.out.kept hk).row
            clear hB hz hk C2 HB3 HR3 bd2
            go_wp2_with fail
            refine (HI.out _ _ _ _ _ HR4.out HZ4.out).mono ?_
            rintro e w5 ⟨rfl, hb⟩
            have HB5 := hide ((HB4.out.below hb).mono (G := none0) fun _ h => h.elim)
            clear hb HI HR4 HZ4 HB4
            go_wp2_with fail
            go_meet
            exact ⟨by simp, _, _, _, HO2, HL2, HU2, HB5⟩
          · have hm' : d.tmod 8 = 5 := hm
            clear hm hm8
            have HO2 := hide (HO.out.add n)
            have HU2 := hide (HOU.out.add hc hc2 n)
            have HL2 : Hid (List.length (addL c n l) ≤ k + 1) := hide (Nat.le_trans (addL_len c n l) (Nat.le_succ_of_le HLN.out))
            have hW9 : (addW c n l).length ≤ 1000 := Nat.le_trans (addW_len c n l) hl9
            have D1 := b_add (W0 := w) (M := M) (R := R) (F := fun k => k = b) (o := o) (d := c) (q := l) (w := w2) ⟨hc, hc2⟩ n HB2.out
            have D2 : ∀ F W, Bth w M R F (addC c n) (addL c n l) o c l W → Calls Try.prog 14 #[.pointer (some ⟨R, 0, none⟩), .int .i64 n] W fun e w' => (∃ a s, e = .returned (.tuple #[.slice a (addW c n l).length s, .int .i64 (addE c n)]) ∧ RowZ w' a (addW c n l)) ∧ Bth w M R F (addC c n) (addL c n l) (addO c o n) (addC c n) (addL c n l) w' ∧ Kept F W w' := fun F W hW => r_add ⟨hc, hc2⟩ hOT n HNN.out hW
            generalize addW c n l = T at *
            obtain ⟨z, hz⟩ : ∃ z, T.length = z := ⟨_, rfl⟩
            have I1 : ∀ a1 a2 c1 c2 W, RowZ W a1 T → RowZ W a2 T → Calls Try.prog 15 #[.slice a1 T.length c1, .slice a2 T.length c2] W fun e w' => e = .returned (.bool true) ∧ Below W.heap.size W w' := fun a1 a2 c1 c2 W k1 k2 => same_ints a1 a2 c1 c2 T W hW9 k1 k2
            rw [hz] at D1 I1
            simp only [hz] at D2
            have C1 := hide D1
            have C2 := hide D2
            have HI := hide I1
            clear HLN HNN HO HOU HB2 D1 D2 I1 hz hW9 hl9 hOT hc hc2
            generalize addL c n l = L2 at *
            generalize addC c n = A2 at *
            generalize addO c o n = O2 at *
            generalize addE c n = E0 at *
            have tt1 : (E0 == E0) = true := by simp
            go_wp2_with fail
            clear hm'
            refine C1.out.mono ?_
            rintro e w3 ⟨a3, c3, rfl, hr, hB, hk⟩
            have HB3 := hide hB
            have HR3 := hide hr
            have bd2 : w3.cell? ⟨b, 2, none⟩ = some (.int .i64 n) := (World.cell?_of_block (hk.1 b rfl)).trans bc2
            clear hB hr hk C1 bc0 bc1 bc2
            go_wp2_with fail
            refine (C2.out _ _ HB3.out).mono ?_
            rintro e w4 ⟨⟨a4, c4, rfl, hz⟩, hB, hk⟩
            have HB4 := hide hB
            have HZ4 := hide hz
            have HR4 := hide (HR3.out.kept hk).row
            clear hB hz hk C2 HB3 HR3 bd2
            go_wp2_with fail
            refine (HI.out _ _ _ _ _ HR4.out HZ4.out).mono ?_
            rintro e w5 ⟨rfl, hb⟩
            have HB5 := hide ((HB4.out.below hb).mono (G := none0) fun _ h => h.elim)
            clear hb HI HR4 HZ4 HB4
            go_wp2_with fail
            go_meet
            exact ⟨by simp, _, _, _, HO2, HL2, HU2, HB5⟩
          · have hm' : d.tmod 8 = 6 := hm
            clear hm hm8
            have HO2 := hide (HO.out.add n)
            have HU2 := hide (HOU.out.add hc hc2 n)
            have HL2 : Hid (List.length (addL c n l) ≤ k + 1) := hide (Nat.le_trans (addL_len c n l) (Nat.le_succ_of_le HLN.out))
            have hW9 : (addW c n l).length ≤ 1000 := Nat.le_trans (addW_len c n l) hl9
            have D1 := b_add (W0 := w) (M := M) (R := R) (F := fun k => k = b) (o := o) (d := c) (q := l) (w := w2) ⟨hc, hc2⟩ n HB2.out
            have D2 : ∀ F W, Bth w M R F (addC c n) (addL c n l) o c l W → Calls Try.prog 14 #[.pointer (some ⟨R, 0, none⟩), .int .i64 n] W fun e w' => (∃ a s, e = .returned (.tuple #[.slice a (addW c n l).length s, .int .i64 (addE c n)]) ∧ RowZ w' a (addW c n l)) ∧ Bth w M R F (addC c n) (addL c n l) (addO c o n) (addC c n) (addL c n l) w' ∧ Kept F W w' := fun F W hW => r_add ⟨hc, hc2⟩ hOT n HNN.out hW
            generalize addW c n l = T at *
            obtain ⟨z, hz⟩ : ∃ z, T.length = z := ⟨_, rfl⟩
            have I1 : ∀ a1 a2 c1 c2 W, RowZ W a1 T → RowZ W a2 T → Calls Try.prog 15 #[.slice a1 T.length c1, .slice a2 T.length c2] W fun e w' => e = .returned (.bool true) ∧ Below W.heap.size W w' := fun a1 a2 c1 c2 W k1 k2 => same_ints a1 a2 c1 c2 T W hW9 k1 k2
            rw [hz] at D1 I1
            simp only [hz] at D2
            have C1 := hide D1
            have C2 := hide D2
            have HI := hide I1
            clear HLN HNN HO HOU HB2 D1 D2 I1 hz hW9 hl9 hOT hc hc2
            generalize addL c n l = L2 at *
            generalize addC c n = A2 at *
            generalize addO c o n = O2 at *
            generalize addE c n = E0 at *
            have tt1 : (E0 == E0) = true := by simp
            go_wp2_with fail
            clear hm'
            refine C1.out.mono ?_
            rintro e w3 ⟨a3, c3, rfl, hr, hB, hk⟩
            have HB3 := hide hB
            have HR3 := hide hr
            have bd2 : w3.cell? ⟨b, 2, none⟩ = some (.int .i64 n) := (World.cell?_of_block (hk.1 b rfl)).trans bc2
            clear hB hr hk C1 bc0 bc1 bc2
            go_wp2_with fail
            refine (C2.out _ _ HB3.out).mono ?_
            rintro e w4 ⟨⟨a4, c4, rfl, hz⟩, hB, hk⟩
            have HB4 := hide hB
            have HZ4 := hide hz
            have HR4 := hide (HR3.out.kept hk).row
            clear hB hz hk C2 HB3 HR3 bd2
            go_wp2_with fail
            refine (HI.out _ _ _ _ _ HR4.out HZ4.out).mono ?_
            rintro e w5 ⟨rfl, hb⟩
            have HB5 := hide ((HB4.out.below hb).mono (G := none0) fun _ h => h.elim)
            clear hb HI HR4 HZ4 HB4
            go_wp2_with fail
            go_meet
            exact ⟨by simp, _, _, _, HO2, HL2, HU2, HB5⟩
          · have hm' : d.tmod 8 = 7 := hm
            clear hm hm8
            have HO2 := hide (HO.out.add n)
            have HU2 := hide (HOU.out.add hc hc2 n)
            have HL2 : Hid (List.length (addL c n l) ≤ k + 1) := hide (Nat.le_trans (addL_len c n l) (Nat.le_succ_of_le HLN.out))
            have hW9 : (addW c n l).length ≤ 1000 := Nat.le_trans (addW_len c n l) hl9
            have D1 := b_add (W0 := w) (M := M) (R := R) (F := fun k => k = b) (o := o) (d := c) (q := l) (w := w2) ⟨hc, hc2⟩ n HB2.out
            have D2 : ∀ F W, Bth w M R F (addC c n) (addL c n l) o c l W → Calls Try.prog 14 #[.pointer (some ⟨R, 0, none⟩), .int .i64 n] W fun e w' => (∃ a s, e = .returned (.tuple #[.slice a (addW c n l).length s, .int .i64 (addE c n)]) ∧ RowZ w' a (addW c n l)) ∧ Bth w M R F (addC c n) (addL c n l) (addO c o n) (addC c n) (addL c n l) w' ∧ Kept F W w' := fun F W hW => r_add ⟨hc, hc2⟩ hOT n HNN.out hW
            generalize addW c n l = T at *
            obtain ⟨z, hz⟩ : ∃ z, T.length = z := ⟨_, rfl⟩
            have I1 : ∀ a1 a2 c1 c2 W, RowZ W a1 T → RowZ W a2 T → Calls Try.prog 15 #[.slice a1 T.length c1, .slice a2 T.length c2] W fun e w' => e = .returned (.bool true) ∧ Below W.heap.size W w' := fun a1 a2 c1 c2 W k1 k2 => same_ints a1 a2 c1 c2 T W hW9 k1 k2
            rw [hz] at D1 I1
            simp only [hz] at D2
            have C1 := hide D1
            have C2 := hide D2
            have HI := hide I1
            clear HLN HNN HO HOU HB2 D1 D2 I1 hz hW9 hl9 hOT hc hc2
            generalize addL c n l = L2 at *
            generalize addC c n = A2 at *
            generalize addO c o n = O2 at *
            generalize addE c n = E0 at *
            have tt1 : (E0 == E0) = true := by simp
            go_wp2_with fail
            clear hm'
            refine C1.out.mono ?_
            rintro e w3 ⟨a3, c3, rfl, hr, hB, hk⟩
            have HB3 := hide hB
            have HR3 := hide hr
            have bd2 : w3.cell? ⟨b, 2, none⟩ = some (.int .i64 n) := (World.cell?_of_block (hk.1 b rfl)).trans bc2
            clear hB hr hk C1 bc0 bc1 bc2
            go_wp2_with fail
            refine (C2.out _ _ HB3.out).mono ?_
            rintro e w4 ⟨⟨a4, c4, rfl, hz⟩, hB, hk⟩
            have HB4 := hide hB
            have HZ4 := hide hz
            have HR4 := hide (HR3.out.kept hk).row
            clear hB hz hk C2 HB3 HR3 bd2
            go_wp2_with fail
            refine (HI.out _ _ _ _ _ HR4.out HZ4.out).mono ?_
            rintro e w5 ⟨rfl, hb⟩
            have HB5 := hide ((HB4.out.below hb).mono (G := none0) fun _ h => h.elim)
            clear hb HI HR4 HZ4 HB4
            go_wp2_with fail
            go_meet
            exact ⟨by simp, _, _, _, HO2, HL2, HU2, HB5⟩
        case rest =>
          clear HO HB2 bc0 bc1 bc2 HM8 HOU HNN hlen hkl HLN hl9 HA1
          obtain ⟨rfl, c, l, o, HO2, HLQ2, HU2, HBx⟩ := hcut
          have q0' : (0 : Int) ≤ (k : Int) := by omega
          have hl9 : l.length ≤ 1000 := by have := HLQ2.out; have := HKL.out; omega
          obtain ⟨r0, r1, ra, rs, r2, rz⟩ := r_cells HBx.out
          obtain ⟨hR1, hR2⟩ : R < wc.heap.size ∧ (0 ≤ c ∧ c ≤ 1048576) := ⟨(by obtain ⟨_, ⟨_, _, _, h3, _⟩, _⟩ := HBx.out; exact h3.lt), HO2.out.lo, HO2.out.hi⟩
          have hot := HU2.out.top HKL.out.1
          have e1 : IntKind.i64.wrap (o + c - o) = c := by rw [show o + c - o = c by omega]; exact wrapB (by omega)
          obtain ⟨I, hI⟩ : ∃ I, o + c = I := ⟨_, rfl⟩
          rw [hI] at r0 e1
          obtain ⟨z, hz⟩ : ∃ z, l.length = z := ⟨_, rfl⟩
          rw [hz] at r2
          have HSx : Hid (RS R I o ra z rs l wc) := hide ⟨hR1, rz, r0, r1, r2⟩
          have bc0 := HSx.out.2.2
          have C1 : Hid (∀ W, Bth w M R none0 c l o c l W → Calls Try.prog 16 #[.pointer (some ⟨M, 0, none⟩)] W fun e w' => e = .returned (.int .i64 c) ∧ Below W.heap.size W w') := hide fun W kW => (b_count kW).mono fun e w' ⟨h1, h2⟩ => ⟨h1, h2 ▸ Below.refl _ _⟩
          have C4 : Hid (∀ W, Bth w M R none0 c l o c l W → Calls Try.prog 17 #[.pointer (some ⟨M, 0, none⟩)] W fun e w' => ∃ a s, e = .returned (.slice a z s) ∧ RowZ w' a l ∧ Below W.heap.size W w') := hide fun W kW => by
            have := b_waits hl9 kW
            rw [hz] at this
            exact this
          have HI : Hid (∀ a1 a2 c1 c2 W, RowZ W a1 l → RowZ W a2 l → Calls Try.prog 15 #[.slice a1 z c1, .slice a2 z c2] W fun e w' => e = .returned (.bool true) ∧ Below W.heap.size W w') := hide fun a1 a2 c1 c2 W k1 k2 => by
            have := same_ints a1 a2 c1 c2 l W hl9 k1 k2
            rw [hz] at this
            exact this
          clear hz hl9 r0 r1 r2 rz hR1 hR2 hot hI
          have tt2 : (c != c) = false := by simp
          go_wp2_with fail
          refine wp_region_noPanic ?_
          refine wp_region_held_drew (S := fun w' => w'.cell? ⟨R, 0, none⟩ = some (.int .i64 I) ∧ w'.cell? ⟨R, 1, none⟩ = some (.int .i64 o) ∧ w'.cell? ⟨R, 2, none⟩ = some (.slice ra z rs)) (by kernel_rfl) ?_ (fun hHeld => ?_)
          · exact bc0
          refine wpAnyH_take (i := 0) (v := ?_) rfl (by kernel_rfl) (by kernel_rfl) (by kernel_rfl) (fun _ _ _ h => h) (Or.inl ⟨by rfl, ?_⟩) (by first | trivial | assumption) ?_
          rotate_left 1
          · (intro w hSw; (try dsimp only at hSw); go_simp; all_goals with_reducible rfl)
          try simp only [Act.put, List.getElem_toArray, List.getElem_cons_zero, List.getElem_cons_succ, List.setIfInBounds_toArray, List.set_cons_zero, List.set_cons_succ]
          refine wpAnyH_take (i := 1) (v := ?_) rfl (by kernel_rfl) (by kernel_rfl) (by kernel_rfl) (fun _ _ _ h => h) (Or.inl ⟨by rfl, ?_⟩) (by first | trivial | assumption) ?_
          rotate_left 1
          · (intro w hSw; (try dsimp only at hSw); go_simp; all_goals with_reducible rfl)
          try simp only [Act.put, List.getElem_toArray, List.getElem_cons_zero, List.getElem_cons_succ, List.setIfInBounds_toArray, List.set_cons_zero, List.set_cons_succ]
          refine wpAnyH_take (i := 2) (v := ?_) rfl (by kernel_rfl) (by kernel_rfl) (by kernel_rfl) (fun _ _ _ h => h) (Or.inl ⟨by rfl, ?_⟩) (by first | trivial | assumption) ?_
          rotate_left 1
          · (intro w hSw; (try dsimp only at hSw); go_simp; all_goals with_reducible rfl)
          try simp only [Act.put, List.getElem_toArray, List.getElem_cons_zero, List.getElem_cons_succ, List.setIfInBounds_toArray, List.set_cons_zero, List.set_cons_succ]
          refine wpAnyH_take (i := 3) (v := ?_) rfl (by kernel_rfl) (by kernel_rfl) (by kernel_rfl) (fun _ _ _ h => h) (Or.inl ⟨by rfl, ?_⟩) (by first | trivial | assumption) ?_
          rotate_left 1
          · (intro w hSw; (try dsimp only at hSw); go_simp; all_goals with_reducible rfl)
          try simp only [Act.put, List.getElem_toArray, List.getElem_cons_zero, List.getElem_cons_succ, List.setIfInBounds_toArray, List.set_cons_zero, List.set_cons_succ]
          refine wpAnyH_take (i := 5) (v := ?_) rfl (by kernel_rfl) (by kernel_rfl) (by kernel_rfl) (fun _ _ _ h => h) (Or.inl ⟨by rfl, ?_⟩) (by first | trivial | assumption) ?_
          rotate_left 1
          · (intro w hSw; (try dsimp only at hSw); go_simp; all_goals with_reducible rfl)
          try simp only [Act.put, List.getElem_toArray, List.getElem_cons_zero, List.getElem_cons_succ, List.setIfInBounds_toArray, List.set_cons_zero, List.set_cons_succ]
          refine wpAnyH_take (i := 6) (v := ?_) rfl (by kernel_rfl) (by kernel_rfl) (by kernel_rfl) (fun _ _ _ h => h) (Or.inl ⟨by rfl, ?_⟩) (by first | trivial | assumption) ?_
          rotate_left 1
          · (intro w hSw; (try dsimp only at hSw); go_simp; all_goals with_reducible rfl)
          try simp only [Act.put, List.getElem_toArray, List.getElem_cons_zero, List.getElem_cons_succ, List.setIfInBounds_toArray, List.set_cons_zero, List.set_cons_succ]
          refine wpAnyH_take (i := 7) (v := ?_) rfl (by kernel_rfl) (by kernel_rfl) (by kernel_rfl) (fun _ _ _ h => h) (Or.inl ⟨by rfl, ?_⟩) (by first | trivial | assumption) ?_
          rotate_left 1
          · (intro w hSw; (try dsimp only at hSw); go_simp; all_goals with_reducible rfl)
          try simp only [Act.put, List.getElem_toArray, List.getElem_cons_zero, List.getElem_cons_succ, List.setIfInBounds_toArray, List.set_cons_zero, List.set_cons_succ]
          refine wpAnyH_take (i := 8) (v := ?_) rfl (by kernel_rfl) (by kernel_rfl) (by kernel_rfl) (fun _ _ _ h => h) (Or.inl ⟨by rfl, ?_⟩) (by first | trivial | assumption) ?_
          rotate_left 1
          · (intro w hSw; (try dsimp only at hSw); go_simp; all_goals with_reducible rfl)
          try simp only [Act.put, List.getElem_toArray, List.getElem_cons_zero, List.getElem_cons_succ, List.setIfInBounds_toArray, List.set_cons_zero, List.set_cons_succ]
          refine wpAnyH_take (i := 9) (v := ?_) rfl (by kernel_rfl) (by kernel_rfl) (by kernel_rfl) (fun _ _ _ h => h) (Or.inl ⟨by rfl, ?_⟩) (by first | trivial | assumption) ?_
          rotate_left 1
          · (intro w hSw; (try dsimp only at hSw); go_simp; all_goals with_reducible rfl)
          try simp only [Act.put, List.getElem_toArray, List.getElem_cons_zero, List.getElem_cons_succ, List.setIfInBounds_toArray, List.set_cons_zero, List.set_cons_succ]
          refine wpAnyH_take (i := 10) (v := ?_) rfl (by kernel_rfl) (by kernel_rfl) (by kernel_rfl) (fun _ _ _ h => h) (Or.inl ⟨by rfl, ?_⟩) (by first | trivial | assumption) ?_
          rotate_left 1
          · (intro w hSw; (try dsimp only at hSw); go_simp; all_goals with_reducible rfl)
          try simp only [Act.put, List.getElem_toArray, List.getElem_cons_zero, List.getElem_cons_succ, List.setIfInBounds_toArray, List.set_cons_zero, List.set_cons_succ]
          refine wpAnyH_take (i := 11) (v := ?_) rfl (by kernel_rfl) (by kernel_rfl) (by kernel_rfl) (fun _ _ _ h => h) (Or.inl ⟨by rfl, ?_⟩) (by first | trivial | assumption) ?_
          rotate_left 1
          · (intro w hSw; (try dsimp only at hSw); go_simp; all_goals with_reducible rfl)
          try simp only [Act.put, List.getElem_toArray, List.getElem_cons_zero, List.getElem_cons_succ, List.setIfInBounds_toArray, List.set_cons_zero, List.set_cons_succ]
          refine wpAnyH_take (i := 12) (v := ?_) rfl (by kernel_rfl) (by kernel_rfl) (by kernel_rfl) (fun _ _ _ h => h) (Or.inl ⟨by rfl, ?_⟩) (by first | trivial | assumption) ?_
          rotate_left 1
          · (intro w hSw; (try dsimp only at hSw); go_simp; all_goals with_reducible rfl)
          try simp only [Act.put, List.getElem_toArray, List.getElem_cons_zero, List.getElem_cons_succ, List.setIfInBounds_toArray, List.set_cons_zero, List.set_cons_succ]
          refine wpAnyH_take (i := 13) (v := ?_) rfl (by kernel_rfl) (by kernel_rfl) (by kernel_rfl) (fun _ _ _ h => h) (Or.inl ⟨by rfl, ?_⟩) (by first | trivial | assumption) ?_
          rotate_left 1
          · (intro w hSw; (try dsimp only at hSw); go_simp; all_goals with_reducible rfl)
          try simp only [Act.put, List.getElem_toArray, List.getElem_cons_zero, List.getElem_cons_succ, List.setIfInBounds_toArray, List.set_cons_zero, List.set_cons_succ]
          refine wpAnyH_ready (rs := [4]) (by kernel_rfl) (by simp) ?_
          refine AllReadyH.cons rfl (fun K hK => ?_) ?_
          · (go_simp; go_at_call 16; refine (C1.out _ HBx.out.drew).mono ?_; rintro e w3 ⟨rfl, hb⟩; have HB3 := hide (HBx.out.drew.below hb); have HS3 := hide (HSx.out.drew.below hb); have bc3 := HS3.out.2.2; clear hb C1)
            refine hK.out _ _ ?_ (fun hHeld => ?_)
            · (first | exact bc3 | exact bc4 | exact bc5 | assumption)
            clear hK K
            try simp only [Act.put, List.getElem_toArray, List.getElem_cons_zero, List.getElem_cons_succ, List.setIfInBounds_toArray, List.set_cons_zero, List.set_cons_succ]
            refine wpAnyH_take (i := 14) (v := ?_) rfl (by kernel_rfl) (by kernel_rfl) (by kernel_rfl) (fun _ _ _ h => h) (Or.inl ⟨by rfl, ?_⟩) (by first | trivial | assumption) ?_
            rotate_left 1
            · (intro w hSw; (try dsimp only at hSw); go_simp; all_goals with_reducible rfl)
            try simp only [Act.put, List.getElem_toArray, List.getElem_cons_zero, List.getElem_cons_succ, List.setIfInBounds_toArray, List.set_cons_zero, List.set_cons_succ]
            refine wpAnyH_take (i := 15) (v := ?_) rfl (by kernel_rfl) (by kernel_rfl) (by kernel_rfl) (fun _ _ _ h => h) (Or.inl ⟨by rfl, ?_⟩) (by first | trivial | assumption) ?_
            rotate_left 1
            · (intro w hSw; (try dsimp only at hSw); go_simp; all_goals with_reducible rfl)
            try simp only [Act.put, List.getElem_toArray, List.getElem_cons_zero, List.getElem_cons_succ, List.setIfInBounds_toArray, List.set_cons_zero, List.set_cons_succ]
            refine wpAnyH_take (i := 16) (v := ?_) rfl (by kernel_rfl) (by kernel_rfl) (by kernel_rfl) (fun _ _ _ h => h) (Or.inl ⟨by rfl, ?_⟩) (by first | trivial | assumption) ?_
            rotate_left 1
            · (intro w hSw; (try dsimp only at hSw); go_simp; all_goals with_reducible rfl)
            try simp only [Act.put, List.getElem_toArray, List.getElem_cons_zero, List.getElem_cons_succ, List.setIfInBounds_toArray, List.set_cons_zero, List.set_cons_succ]
            refine wpAnyH_take (i := 17) (v := ?_) rfl (by kernel_rfl) (by kernel_rfl) (by kernel_rfl) (fun _ _ _ h => h) (Or.inl ⟨by rfl, ?_⟩) (by first | trivial | assumption) ?_
            rotate_left 1
            · (intro w hSw; (try dsimp only at hSw); go_simp; all_goals with_reducible rfl)
            try simp only [Act.put, List.getElem_toArray, List.getElem_cons_zero, List.getElem_cons_succ, List.setIfInBounds_toArray, List.set_cons_zero, List.set_cons_succ]
            refine wpAnyH_take (i := 19) (v := ?_) rfl (by kernel_rfl) (by kernel_rfl) (by kernel_rfl) (fun _ _ _ h => h) (Or.inl ⟨by rfl, ?_⟩) (by first | trivial | assumption) ?_
            rotate_left 1
            · (intro w hSw; (try dsimp only at hSw); go_simp; all_goals with_reducible rfl)
            try simp only [Act.put, List.getElem_toArray, List.getElem_cons_zero, List.getElem_cons_succ, List.setIfInBounds_toArray, List.set_cons_zero, List.set_cons_succ]
            refine wpAnyH_take (i := 20) (v := ?_) rfl (by kernel_rfl) (by kernel_rfl) (by kernel_rfl) (fun _ _ _ h => h) (Or.inl ⟨by rfl, ?_⟩) (by first | trivial | assumption) ?_
            rotate_left 1
            · (intro w hSw; (try dsimp only at hSw); go_simp; all_goals with_reducible rfl)
            try simp only [Act.put, List.getElem_toArray, List.getElem_cons_zero, List.getElem_cons_succ, List.setIfInBounds_toArray, List.set_cons_zero, List.set_cons_succ]
            refine wpAnyH_take (i := 21) (v := ?_) rfl (by kernel_rfl) (by kernel_rfl) (by kernel_rfl) (fun _ _ _ h => h) (Or.inl ⟨by rfl, ?_⟩) (by first | trivial | assumption) ?_
            rotate_left 1
            · (intro w hSw; (try dsimp only at hSw); go_simp; all_goals with_reducible rfl)
            try simp only [Act.put, List.getElem_toArray, List.getElem_cons_zero, List.getElem_cons_succ, List.setIfInBounds_toArray, List.set_cons_zero, List.set_cons_succ]
            refine wpAnyH_take (i := 22) (v := ?_) rfl (by kernel_rfl) (by kernel_rfl) (by kernel_rfl) (fun _ _ _ h => h) (Or.inl ⟨by rfl, ?_⟩) (by first | trivial | assumption) ?_
            rotate_left 1
            · (intro w hSw; (try dsimp only at hSw); go_simp; all_goals with_reducible rfl)
            try simp only [Act.put, List.getElem_toArray, List.getElem_cons_zero, List.getElem_cons_succ, List.setIfInBounds_toArray, List.set_cons_zero, List.set_cons_succ]
            refine wpAnyH_ready (rs := [18]) (by kernel_rfl) (by simp) ?_
            refine AllReadyH.cons rfl (fun K hK => ?_) ?_
            · (go_simp; go_at_call 17; refine (C4.out _ HB3.out).mono ?_; rintro e w4 ⟨a4, d4, rfl, hz, hb⟩; have HB4 := hide (HB3.out.below hb); have HS4 := hide (HS3.out.below hb); have HZ4 := hide hz; have bc4 := HS4.out.2.2; clear hz hb C4)
              refine hK.out _ _ ?_ (fun hHeld => ?_)
              · (first | exact bc3 | exact bc4 | exact bc5 | assumption)
              clear hK K
              try simp only [Act.put, List.getElem_toArray, List.getElem_cons_zero, List.getElem_cons_succ, List.setIfInBounds_toArray, List.set_cons_zero, List.set_cons_succ]
              refine wpAnyH_ready (rs := [23]) (by kernel_rfl) (by simp) ?_
              refine AllReadyH.cons rfl (fun K hK => ?_) ?_
              · (go_simp; go_at_call 15; refine (HI.out _ _ _ _ _ HZ4.out HS4.out.2.1).mono ?_; rintro e w5 ⟨rfl, hb⟩; have HB5 := hide (HB4.out.below hb); have HS5 := hide (HS4.out.below hb); have bc5 := HS5.out.2.2; clear hb HI)
                refine hK.out _ _ ?_ (fun hHeld => ?_)
                · (first | exact bc3 | exact bc4 | exact bc5 | assumption)
                clear hK K
                try simp only [Act.put, List.getElem_toArray, List.getElem_cons_zero, List.getElem_cons_succ, List.setIfInBounds_toArray, List.set_cons_zero, List.set_cons_succ]
                refine wpAnyH_take (i := 24) (v := ?_) rfl (by kernel_rfl) (by kernel_rfl) (by kernel_rfl) (fun _ _ _ h => h) (Or.inl ⟨by rfl, ?_⟩) (by first | trivial | assumption) ?_
                rotate_left 1
                · (intro w hSw; (try dsimp only at hSw); go_simp; all_goals with_reducible rfl)
                try simp only [Act.put, List.getElem_toArray, List.getElem_cons_zero, List.getElem_cons_succ, List.setIfInBounds_toArray, List.set_cons_zero, List.set_cons_succ]
                refine wpAnyH_take (i := 25) (v := ?_) rfl (by kernel_rfl) (by kernel_rfl) (by kernel_rfl) (fun _ _ _ h => h) (Or.inl ⟨by rfl, ?_⟩) (by first | trivial | assumption) ?_
                rotate_left 1
                · (intro w hSw; (try dsimp only at hSw); go_simp; all_goals with_reducible rfl)
                try simp only [Act.put, List.getElem_toArray, List.getElem_cons_zero, List.getElem_cons_succ, List.setIfInBounds_toArray, List.set_cons_zero, List.set_cons_succ]
                refine wpAnyH_done (by kernel_rfl) ?_ _
                refine NoPanic.normal ?_
                clear hHeld bc0 bc3 bc4 bc5 HBx HB3 HB4 HSx HS3 HS4 HS5 HZ4
                go_wp2_with fail
                go_roundw
                case rel => exact ⟨k + 1, c, l, o, by go_num, HKL.out.1, HKL.out.2, HO2, HLQ2.out, HU2, HB5⟩
                case measure => have := HKL.out; simp [intOf]; omega
              exact AllReadyH.nil
            exact AllReadyH.nil
          exact AllReadyH.nil
      · have q2' : ¬ (k : Int) < 60 := by omega
        have q1' : (k : Int) < (l1 : Int) := by omega
        have HBB := hide HB.out.2.2
        have HAW := hide awake_any
        clear HB
        go_wp2_with fail
        refine (HAW.out _).mono ?_
        rintro e w3 ⟨rfl, hb⟩
        have HF := hide (below_next HBB.out hb)
        clear hb HBB HAW
        go_wp2
        go_ret
        exact ⟨rfl, HF.out⟩
    · have q1' : ¬ (k : Int) < (l1 : Int) := by omega
      have HBB := hide HB.out.2.2
      have HAW := hide awake_any
      clear HB
      go_wp2_with fail
      refine (HAW.out _).mono ?_
      rintro e w3 ⟨rfl, hb⟩
      have HF := hide (below_next HBB.out hb)
      clear hb HBB HAW
      go_wp2
      go_ret
      exact ⟨rfl, HF.out⟩

end Go.Proofs.Ytgfkleaekaggoaa
