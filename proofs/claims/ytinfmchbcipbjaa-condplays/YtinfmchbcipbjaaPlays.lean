/-
  What the law CondPlays asks comes out true at any list of acts.
-/
import Derived.Test.YtinfmchbcipbjaaBoth
import Derived.Test.YtinfmchbcipbjaaAwake
import Derived.Test.YtinfmchbcipbjaaUp
import Derived.Test.YtinfmchbcipbjaaMem
import Derived.Deep.DeepCutAuto
import Derived.Deep.CutBlock
namespace Go.Proofs.Ytinfmchbcipbjaa
open Go.RowKit

theorem eight {m : Nat} (h : m < 8) : m = 0 ∨ m = 1 ∨ m = 2 ∨ m = 3 ∨ m = 4 ∨ m = 5 ∨ m = 6 ∨ m = 7 := by omega
/-- Both, behind an act. -/
def After (w : World) (M R k : Nat) (wx : World) : Prop := ∃ l q, Hid (Rep l q) ∧ Hid (Okz l) ∧ Hid (q.length ≤ k + 1) ∧ Hid (Bth w M R none0 l q wx)
theorem okz_drop {l : List Int} (h : Okz l) (k : Nat) : Okz (l.drop k) := ⟨h.nd.sublist (List.drop_sublist k l), fun x hx => h.pos x (List.mem_of_mem_drop hx)⟩
theorem drop_next {l : List Int} (h : Okz l) (k : Nat) : rmZ (l.drop k) (gz l k) = l.drop (k + 1) := by
  have e : hold (l.drop k) = gz l k := by
    unfold hold gz
    rw [List.getD_eq_getElem?_getD, List.getD_eq_getElem?_getD, List.getElem?_drop]
    rfl
  rw [← e, rm_hold (okz_drop h k), List.tail_drop]

set_option maxRecDepth 20000 in
set_option maxHeartbeats 8000000 in
set_option linter.unusedSimpArgs false in
theorem plays_walk (a1 : Option Addr) (l1 c1 : Nat) (h1 : l1 ≤ c1) (g1 : c1 ≤ maxLen) (w : World) (hact1 : Acts w a1 l1) : Calls Try.prog 3 #[.slice a1 l1 c1] w fun e w' => e = .returned (.bool true) ∧ Below w.heap.size w w' := by
  have hl1 : l1 ≤ maxLen := Nat.le_trans h1 g1
  unfold maxLen at hl1
  clear h1 g1
  have HA1 := hide hact1
  clear hact1
  have N0 := hide (x_new (w := w))
  go_enter Try.func3, Try.ntmps3
  go_wp2_with fail
  refine N0.out.mono ?_
  rintro e w1 ⟨rfl, hA⟩
  have HB0 := hide (Bth.start hA)
  obtain ⟨M, hMe⟩ : ∃ M, M = w.heap.size := ⟨_, rfl⟩
  obtain ⟨R, hRe⟩ : ∃ R, R = w1.heap.size := ⟨_, rfl⟩
  rw [← hMe, ← hRe] at HB0
  rw [← hMe]
  clear hA hMe N0
  go_wp2_with fail
  rw [← hRe]
  clear hRe
  go_loopw [5] (fun i wr => ∃ k l q, i = .int .i64 ((k : Nat) : Int) ∧ k ≤ 60 ∧ k ≤ l1 ∧ Hid (Rep l q) ∧ Hid (Okz l) ∧ List.length q ≤ k ∧ Hid (Bth w M R none0 l q wr)) (fun i _ => 60 - (intOf i).toNat)
  case atStart => exact ⟨0, [], [], rfl, by omega, by omega, Rep.nil, Okz.nil, by simp, HB0⟩
  case round =>
    clear HB0
    obtain ⟨k, l, q, rfl, hk60, hkl, HRP, HO, hlen, HB⟩ := hrel
    by_cases q1 : k < l1
    · have q1' : (k : Int) < (l1 : Int) := by omega
      by_cases q2 : k < 60
      · have q2' : (k : Int) < 60 := by omega
        have q0' : (0 : Int) ≤ (k : Int) := by omega
        obtain ⟨b2, off2, d, t, rfl, hlt2, p0, p1, hd, _⟩ := HA1.out k q1
        have p0' := ((bcell HB.out.2.2).1 _ _ hlt2).trans p0
        have p1' := ((bcell HB.out.2.2).1 _ _ hlt2).trans p1
        have hq9 : q.length ≤ 1000 := by omega
        have hl9 : l.length ≤ 1000 := by have := wts_len q; rw [HRP.out.wts] at this; omega
        obtain ⟨m, hm0, hm8, _, _⟩ := u8_mod hd 8 (by omega) (by omega)
        have HM8 : Hid (d.tmod 8 = (m : Int) ∧ m < 8) := ⟨hm0, hm8⟩
        obtain ⟨b, hb⟩ : ∃ b, b = wr.heap.size := ⟨_, rfl⟩
        obtain ⟨w2, hw2⟩ : ∃ w2, w2 = wr.alloc (.cells #[.int .u8 d, .int .i64 t] 31) := ⟨_, rfl⟩
        have HB2 : Hid (Bth w M R (fun k => k = b) l q w2) := hide (by rw [hw2, hb]; exact HB.out.boxed _)
        have bc1 : w2.cell? ⟨b, 1, none⟩ = some (.int .i64 t) := by
          rw [hw2, hb]
          exact Lib.cell_of_heap (heap_alloc_new _ _) 1
        have HKL := hide (show k + 1 ≤ 60 ∧ k + 1 ≤ l1 from by omega)
        have HLQ := hide (show q.length ≤ k + 1 from by omega)
        have HLW := hide (show q.length + 1 ≤ k + 1 from by omega)
        clear p0 p1 hm0 hm8 hd HB
        go_upto_block 2 with fail
        rw [← hw2, ← hb]
        clear hw2 hb p0' p1' q0' q1' q2' hlt2
        go_cut [7, 8, 9, 10, 11, 12, 32] (fun _ _ _ _ _ _ _ wx => After w M R k wx)
        case first =>
          clear hkl hk60 hl1 q1 q2 HKL HA1 hlen
          obtain ⟨hm, hm8⟩ := HM8.out
          clear HM8
          rcases eight hm8 with rfl | rfl | rfl | rfl | rfl | rfl | rfl | rfl
          · have hm' : d.tmod 8 = 0 := hm
            clear hm hm8
            have HR2 := hide (HRP.out.off t)
            have HO2 := hide (HO.out.rm t)
            have HL2 : Hid ((offQ q t).length ≤ k + 1) := hide (by rw [off_len]; exact HLQ.out)
            have C1 : Hid (∀ W, Bth w M R (fun k => k = b) l q W → Calls Try.prog 8 #[.pointer (some ⟨M, 0, none⟩), .int .i64 t] W fun e w' => e = .returned (.bool (inZ l t)) ∧ Bth w M R (fun k => k = b) (rmZ l t) q w' ∧ Kept (fun k => k = b) W w') := hide fun W hW => b_drop HO.out hl9 t hW
            have C2 : Hid (∀ W, Bth w M R (fun k => k = b) (rmZ l t) q W → Calls Try.prog 9 #[.pointer (some ⟨R, 0, none⟩), .int .i64 t] W fun e w' => e = .returned (.bool (inZ l t)) ∧ Bth w M R (fun k => k = b) (rmZ l t) (offQ q t) w' ∧ Kept (fun k => k = b) W w') := hide fun W hW => by
              have := r_drop HRP.out.inv hq9 t hW
              rw [HRP.out.wts] at this
              exact this
            clear HLQ
            generalize rmZ l t = L2 at *
            generalize offQ q t = Q2 at *
            generalize inZ l t = E0 at *
            have tt0 : (E0 != E0) = false := by simp
            go_wp2_with fail
            clear hm'
            refine wp_region_noPanic ?_
            refine wp_region_held_drew (S := fun w' => w'.cell? ⟨b, 1, none⟩ = some (.int .i64 t)) (by kernel_rfl) ?_ (fun hHeld => ?_)
            · exact bc1
            refine wpAnyH_take (i := 0) (v := ?_) rfl (by kernel_rfl) (by kernel_rfl) (by kernel_rfl) (fun _ _ _ h => h) (Or.inl ⟨by rfl, ?_⟩) (by first | trivial | assumption) ?_
            rotate_left 1
            · (intro w hSw; (try dsimp only at hSw); go_simp; all_goals with_reducible rfl)
            try simp only [Act.put, List.getElem_toArray, List.getElem_cons_zero, List.getElem_cons_succ, List.setIfInBounds_toArray, List.set_cons_zero, List.set_cons_succ]
            refine wpAnyH_take (i := 1) (v := ?_) rfl (by kernel_rfl) (by kernel_rfl) (by kernel_rfl) (fun _ _ _ h => h) (Or.inl ⟨by rfl, ?_⟩) (by first | trivial | assumption) ?_
            rotate_left 1
            · (intro w hSw; (try dsimp only at hSw); go_simp; all_goals with_reducible rfl)
            try simp only [Act.put, List.getElem_toArray, List.getElem_cons_zero, List.getElem_cons_succ, List.setIfInBounds_toArray, List.set_cons_zero, List.set_cons_succ]
            refine wpAnyH_take (i := 2) (v := ?_) rfl (by kernel_rfl) (by kernel_rfl) (by kernel_rfl) (fun _ _ _ h => h) (Or.inl ⟨by rfl, ?_⟩) (by first | trivial | assumption) ?_
            rotate_left 1
            · (intro w hSw; (try dsimp only at hSw); go_simp; all_goals with_reducible rfl)
            try simp only [Act.put, List.getElem_toArray, List.getElem_cons_zero, List.getElem_cons_succ, List.setIfInBounds_toArray, List.set_cons_zero, List.set_cons_succ]
            refine wpAnyH_take (i := 4) (v := ?_) rfl (by kernel_rfl) (by kernel_rfl) (by kernel_rfl) (fun _ _ _ h => h) (Or.inl ⟨by rfl, ?_⟩) (by first | trivial | assumption) ?_
            rotate_left 1
            · (intro w hSw; (try dsimp only at hSw); go_simp; all_goals with_reducible rfl)
            try simp only [Act.put, List.getElem_toArray, List.getElem_cons_zero, List.getElem_cons_succ, List.setIfInBounds_toArray, List.set_cons_zero, List.set_cons_succ]
            refine wpAnyH_take (i := 5) (v := ?_) rfl (by kernel_rfl) (by kernel_rfl) (by kernel_rfl) (fun _ _ _ h => h) (Or.inl ⟨by rfl, ?_⟩) (by first | trivial | assumption) ?_
            rotate_left 1
            · (intro w hSw; (try dsimp only at hSw); go_simp; all_goals with_reducible rfl)
            try simp only [Act.put, List.getElem_toArray, List.getElem_cons_zero, List.getElem_cons_succ, List.setIfInBounds_toArray, List.set_cons_zero, List.set_cons_succ]
            refine wpAnyH_take (i := 6) (v := ?_) rfl (by kernel_rfl) (by kernel_rfl) (by kernel_rfl) (fun _ _ _ h => h) (Or.inl ⟨by rfl, ?_⟩) (by first | trivial | assumption) ?_
            rotate_left 1
            · (intro w hSw; (try dsimp only at hSw); go_simp; all_goals with_reducible rfl)
            try simp only [Act.put, List.getElem_toArray, List.getElem_cons_zero, List.getElem_cons_succ, List.setIfInBounds_toArray, List.set_cons_zero, List.set_cons_succ]
            refine wpAnyH_ready (rs := [3]) (by kernel_rfl) (by simp) ?_
            refine AllReadyH.cons rfl (fun K hK => ?_) ?_
            · (go_simp; go_at_call 8; refine (C1.out _ HB2.out.drew).mono ?_; rintro e w3 ⟨rfl, hB, hk⟩; have HB3 := hide hB; have bc3 : w3.cell? ⟨b, 1, none⟩ = some (.int .i64 t) := (World.cell?_of_block (hk.1 b rfl)).trans bc1; clear hB hk)
              refine hK.out _ _ ?_ (fun hHeld => ?_)
              · (first | exact bc3 | exact bc4 | assumption)
              clear hK K
              try simp only [Act.put, List.getElem_toArray, List.getElem_cons_zero, List.getElem_cons_succ, List.setIfInBounds_toArray, List.set_cons_zero, List.set_cons_succ]
              refine wpAnyH_ready (rs := [7]) (by kernel_rfl) (by simp) ?_
              refine AllReadyH.cons rfl (fun K hK => ?_) ?_
              · (go_simp; go_at_call 9; refine (C2.out _ HB3.out).mono ?_; rintro e w4 ⟨rfl, hB, hk⟩; have HB4 := hide hB; have bc4 : w4.cell? ⟨b, 1, none⟩ = some (.int .i64 t) := (World.cell?_of_block (hk.1 b rfl)).trans bc3; clear hB hk)
                refine hK.out _ _ ?_ (fun hHeld => ?_)
                · (first | exact bc3 | exact bc4 | assumption)
                clear hK K
                try simp only [Act.put, List.getElem_toArray, List.getElem_cons_zero, List.getElem_cons_succ, List.setIfInBounds_toArray, List.set_cons_zero, List.set_cons_succ]
                refine wpAnyH_take (i := 8) (v := ?_) rfl (by kernel_rfl) (by kernel_rfl) (by kernel_rfl) (fun _ _ _ h => h) (Or.inl ⟨by rfl, ?_⟩) (by first | trivial | assumption) ?_
                rotate_left 1
                · (intro w hSw; (try dsimp only at hSw); go_simp; all_goals with_reducible rfl)
                try simp only [Act.put, List.getElem_toArray, List.getElem_cons_zero, List.getElem_cons_succ, List.setIfInBounds_toArray, List.set_cons_zero, List.set_cons_succ]
                refine wpAnyH_done (by kernel_rfl) ?_ _
                refine NoPanic.normal ?_
                clear hHeld bc3 bc4 C1 C2 HB2 HB3
                go_wp2_with fail
                go_meet
                exact ⟨_, _, HR2, HO2, HL2, hide (HB4.out.mono fun _ h => h.elim)⟩
              exact AllReadyH.nil
            exact AllReadyH.nil
          · have hm' : d.tmod 8 = 1 := hm
            clear hm hm8
            have HR2 : Hid (Rep l.tail (offQ q (hold l))) := hide (by have := HRP.out.off (hold l); rw [rm_hold HO.out] at this; exact this)
            have HO2 := hide HO.out.tail
            have HL2 : Hid ((offQ q (hold l)).length ≤ k + 1) := hide (by rw [off_len]; exact HLQ.out)
            have C1 : Hid (∀ W, Bth w M R (fun k => k = b) l q W → Calls Try.prog 10 #[.pointer (some ⟨M, 0, none⟩)] W fun e w' => e = .returned (.tuple #[.int .i64 (hold l), .bool (some1 l)]) ∧ Bth w M R (fun k => k = b) l.tail q w' ∧ Kept (fun k => k = b) W w') := hide fun W hW => b_signal HO.out hl9 hW
            have C2 : Hid (∀ W, Bth w M R (fun k => k = b) l.tail q W → Calls Try.prog 11 #[.pointer (some ⟨R, 0, none⟩)] W fun e w' => e = .returned (.tuple #[.int .i64 (hold l), .bool (some1 l)]) ∧ Bth w M R (fun k => k = b) l.tail (offQ q (hold l)) w' ∧ Kept (fun k => k = b) W w') := hide fun W hW => by
              have := r_signal HRP.out.inv hq9 hW
              rw [HRP.out.wts] at this
              exact this
            clear HLQ bc1
            generalize offQ q (hold l) = Q2 at *
            generalize l.tail = L2 at *
            generalize hold l = H0 at *
            generalize some1 l = E0 at *
            have tt0 : (E0 != E0) = false := by simp
            have tt1 : (H0 != H0) = false := by simp
            go_wp2_with fail
            clear hm'
            refine (C1.out _ HB2.out).mono ?_
            rintro e w3 ⟨rfl, hB, _⟩
            have HB3 := hide hB
            clear hB C1 HB2
            go_wp2_with fail
            refine (C2.out _ HB3.out).mono ?_
            rintro e w4 ⟨rfl, hB, _⟩
            have HB4 := hide hB
            clear hB C2 HB3
            go_wp2_with fail
            go_meet
            exact ⟨_, _, HR2, HO2, HL2, hide (HB4.out.mono fun _ h => h.elim)⟩
          · have hm' : d.tmod 8 = 2 := hm
            clear hm hm8
            have HR2 : Hid (Rep l.tail (offQ q (hold l))) := hide (by have := HRP.out.off (hold l); rw [rm_hold HO.out] at this; exact this)
            have HO2 := hide HO.out.tail
            have HL2 : Hid ((offQ q (hold l)).length ≤ k + 1) := hide (by rw [off_len]; exact HLQ.out)
            have C1 : Hid (∀ W, Bth w M R (fun k => k = b) l q W → Calls Try.prog 10 #[.pointer (some ⟨M, 0, none⟩)] W fun e w' => e = .returned (.tuple #[.int .i64 (hold l), .bool (some1 l)]) ∧ Bth w M R (fun k => k = b) l.tail q w' ∧ Kept (fun k => k = b) W w') := hide fun W hW => b_signal HO.out hl9 hW
            have C2 : Hid (∀ W, Bth w M R (fun k => k = b) l.tail q W → Calls Try.prog 11 #[.pointer (some ⟨R, 0, none⟩)] W fun e w' => e = .returned (.tuple #[.int .i64 (hold l), .bool (some1 l)]) ∧ Bth w M R (fun k => k = b) l.tail (offQ q (hold l)) w' ∧ Kept (fun k => k = b) W w') := hide fun W hW => by
              have := r_signal HRP.out.inv hq9 hW
              rw [HRP.out.wts] at this
              exact this
            clear HLQ bc1
            generalize offQ q (hold l) = Q2 at *
            generalize l.tail = L2 at *
            generalize hold l = H0 at *
            generalize some1 l = E0 at *
            have tt0 : (E0 != E0) = false := by simp
            have tt1 : (H0 != H0) = false := by simp
            go_wp2_with fail
            clear hm'
            refine (C1.out _ HB2.out).mono ?_
            rintro e w3 ⟨rfl, hB, _⟩
            have HB3 := hide hB
            clear hB C1 HB2
            go_wp2_with fail
            refine (C2.out _ HB3.out).mono ?_
            rintro e w4 ⟨rfl, hB, _⟩
            have HB4 := hide hB
            clear hB C2 HB3
            go_wp2_with fail
            go_meet
            exact ⟨_, _, HR2, HO2, HL2, hide (HB4.out.mono fun _ h => h.elim)⟩
          · have hm' : d.tmod 8 = 3 := hm
            clear hm hm8
            have CW := r_waits hq9 HB2.out
            rw [HRP.out.wts] at CW
            have HCW := hide CW
            obtain ⟨L, hL⟩ : ∃ L, l.length = L := ⟨_, rfl⟩
            have HL := hide hL
            have hL9 : L ≤ 1000 := by rw [← hL]; exact hl9
            rw [hL] at HCW
            clear CW bc1 hL
            go_wp2_with fail
            clear hm'
            refine HCW.out.mono ?_
            rintro e w3 ⟨a3, c3, rfl, hr, hB, _⟩
            have HB3 := hide hB
            have HZ3 := hide hr
            clear hr hB HCW HB2
            go_wp2_with fail
            go_loopw [12] (fun i wx => ∃ (j : Nat) (p : Q), i = .int .i64 (j : Int) ∧ j ≤ L ∧ Hid (Rep (l.drop j) p) ∧ Hid (List.length p = List.length q) ∧ Hid (Bth w M R (fun k => k = b ∨ adr l a3 k) l p wx) ∧ Hid (RowF (fun k => k = b ∨ adr l a3 k) wx a3 l)) (fun i _ => L - (intOf i).toNat)
            case atStart => exact ⟨0, q, rfl, by omega, HRP, hide rfl, HB3, HZ3⟩
            case round =>
              clear HB3 HZ3
              obtain ⟨j, p, rfl, hj, HRP2, HLP, HBx, HZx⟩ := hrel
              by_cases hlt : j < L
              · have hjl : j < l.length := by rw [HL.out]; exact hlt
                have hn : l ≠ [] := fun e => by rw [e] at hjl; simp at hjl
                obtain ⟨g, off, e3, _, _, hc⟩ := HZx.out hn
                subst e3
                have e1 := hc j hjl
                have i1 : (j : Int) < (L : Int) := by omega
                have i0 : (0 : Int) ≤ (j : Int) := by omega
                have CD := r_drop HRP2.out.inv (by rw [HLP.out]; exact hq9) (gz l j) HBx.out
                have HR3 : Hid (Rep (l.drop (j + 1)) (offQ p (gz l j))) := hide (by have := HRP2.out.off (gz l j); rw [drop_next HO.out j] at this; exact this)
                have HL3 : Hid ((offQ p (gz l j)).length = q.length) := hide (by rw [off_len]; exact HLP.out)
                have HCD := hide CD
                clear CD hc hn hjl HRP2 HLP HBx
                generalize offQ p (gz l j) = p2 at *
                generalize gz l j = X at *
                generalize inZ (wts p) X = E1 at *
                go_wp2_with fail
                refine HCD.out.mono ?_
                rintro e w4 ⟨rfl, hB, hk⟩
                have HB4 := hide hB
                have HZ4 := hide (HZx.out.kept hk)
                clear hB hk HCD HZx e1
                go_wp2_with fail
                go_roundw
                case rel => exact ⟨j + 1, p2, by go_num, by omega, HR3, HL3, HB4, HZ4⟩
                case measure => simp [intOf]; omega
              · have i1 : ¬ (j : Int) < (L : Int) := by omega
                have HR3 : Hid (Rep [] p) := hide (by have := HRP2.out; rw [List.drop_of_length_le (by have := HL.out; omega)] at this; exact this)
                have HL3 : Hid (p.length ≤ k + 1) := hide (by rw [HLP.out]; exact HLQ.out)
                have CB := b_broad HBx.out
                rw [HL.out] at CB
                have HCB := hide CB
                have HI : Hid (∀ a1 a2 c1 c2 W, RowZ W a1 l → RowZ W a2 l → Calls Try.prog 13 #[.slice a1 L c1, .slice a2 L c2] W fun e w' => e = .returned (.bool true) ∧ Below W.heap.size W w') := hide fun a1 a2 c1 c2 W k1 k2 => by
                  have := same_ints a1 a2 c1 c2 l W hl9 k1 k2
                  rw [HL.out] at this
                  exact this
                clear CB HBx HLP HRP2 HL
                go_wp2_with fail
                refine HCB.out.mono ?_
                rintro e w4 ⟨a4, c4, rfl, hz, hB, hk⟩
                have HB4 := hide hB
                have HZ4 := hide (HZx.out.kept hk).row
                have HZ5 := hide hz
                clear hB hk hz HCB HZx
                go_wp2_with fail
                refine (HI.out _ _ _ _ _ HZ5.out HZ4.out).mono ?_
                rintro e w5 ⟨rfl, hb5⟩
                have HB5 := hide (HB4.out.below hb5)
                clear hb5 HI HZ4 HZ5 HB4
                go_wp2_with fail
                go_meet
                exact ⟨_, _, HR3, Okz.nil, HL3, hide (HB5.out.mono fun _ h => h.elim)⟩
          · have hm' : d.tmod 8 = 4 := hm
            clear hm hm8
            have HR2 := hide (HRP.out.wait t)
            have HO2 := hide (HO.out.wait t)
            have HL2 : Hid ((waitQ q t).length ≤ k + 1) := hide (Nat.le_trans (waitQ_len q t) HLW.out)
            have C1 : Hid (∀ W, Bth w M R (fun k => k = b) l q W → Calls Try.prog 15 #[.pointer (some ⟨M, 0, none⟩), .int .i64 t] W fun e w' => e = .returned (.int .i64 (waitE l t)) ∧ Bth w M R (fun k => k = b) (waitL l t) q w' ∧ Kept (fun k => k = b) W w') := hide fun W hW => b_wait hl9 t hW
            have C2 : Hid (∀ W, Bth w M R (fun k => k = b) (waitL l t) q W → Calls Try.prog 16 #[.pointer (some ⟨R, 0, none⟩), .int .i64 t] W fun e w' => e = .returned (.int .i64 (waitE l t)) ∧ Bth w M R (fun k => k = b) (waitL l t) (waitQ q t) w' ∧ Kept (fun k => k = b) W w') := hide fun W hW => by
              have := r_wait HRP.out.inv hq9 t hW
              rw [HRP.out.wts] at this
              exact this
            clear HLQ
            generalize waitL l t = L2 at *
            generalize waitQ q t = Q2 at *
            generalize waitE l t = E0 at *
            have tt0 : (E0 != E0) = false := by simp
            go_wp2_with fail
            clear hm'
            refine wp_region_noPanic ?_
            refine wp_region_held_drew (S := fun w' => w'.cell? ⟨b, 1, none⟩ = some (.int .i64 t)) (by kernel_rfl) ?_ (fun hHeld => ?_)
            · exact bc1
            refine wpAnyH_take (i := 0) (v := ?_) rfl (by kernel_rfl) (by kernel_rfl) (by kernel_rfl) (fun _ _ _ h => h) (Or.inl ⟨by rfl, ?_⟩) (by first | trivial | assumption) ?_
            rotate_left 1
            · (intro w hSw; (try dsimp only at hSw); go_simp; all_goals with_reducible rfl)
            try simp only [Act.put, List.getElem_toArray, List.getElem_cons_zero, List.getElem_cons_succ, List.setIfInBounds_toArray, List.set_cons_zero, List.set_cons_succ]
            refine wpAnyH_take (i := 1) (v := ?_) rfl (by kernel_rfl) (by kernel_rfl) (by kernel_rfl) (fun _ _ _ h => h) (Or.inl ⟨by rfl, ?_⟩) (by first | trivial | assumption) ?_
            rotate_left 1
            · (intro w hSw; (try dsimp only at hSw); go_simp; all_goals with_reducible rfl)
            try simp only [Act.put, List.getElem_toArray, List.getElem_cons_zero, List.getElem_cons_succ, List.setIfInBounds_toArray, List.set_cons_zero, List.set_cons_succ]
            refine wpAnyH_take (i := 2) (v := ?_) rfl (by kernel_rfl) (by kernel_rfl) (by kernel_rfl) (fun _ _ _ h => h) (Or.inl ⟨by rfl, ?_⟩) (by first | trivial | assumption) ?_
            rotate_left 1
            · (intro w hSw; (try dsimp only at hSw); go_simp; all_goals with_reducible rfl)
            try simp only [Act.put, List.getElem_toArray, List.getElem_cons_zero, List.getElem_cons_succ, List.setIfInBounds_toArray, List.set_cons_zero, List.set_cons_succ]
            refine wpAnyH_take (i := 4) (v := ?_) rfl (by kernel_rfl) (by kernel_rfl) (by kernel_rfl) (fun _ _ _ h => h) (Or.inl ⟨by rfl, ?_⟩) (by first | trivial | assumption) ?_
            rotate_left 1
            · (intro w hSw; (try dsimp only at hSw); go_simp; all_goals with_reducible rfl)
            try simp only [Act.put, List.getElem_toArray, List.getElem_cons_zero, List.getElem_cons_succ, List.setIfInBounds_toArray, List.set_cons_zero, List.set_cons_succ]
            refine wpAnyH_take (i := 5) (v := ?_) rfl (by kernel_rfl) (by kernel_rfl) (by kernel_rfl) (fun _ _ _ h => h) (Or.inl ⟨by rfl, ?_⟩) (by first | trivial | assumption) ?_
            rotate_left 1
            · (intro w hSw; (try dsimp only at hSw); go_simp; all_goals with_reducible rfl)
            try simp only [Act.put, List.getElem_toArray, List.getElem_cons_zero, List.getElem_cons_succ, List.setIfInBounds_toArray, List.set_cons_zero, List.set_cons_succ]
            refine wpAnyH_take (i := 6) (v := ?_) rfl (by kernel_rfl) (by kernel_rfl) (by kernel_rfl) (fun _ _ _ h => h) (Or.inl ⟨by rfl, ?_⟩) (by first | trivial | assumption) ?_
            rotate_left 1
            · (intro w hSw; (try dsimp only at hSw); go_simp; all_goals with_reducible rfl)
            try simp only [Act.put, List.getElem_toArray, List.getElem_cons_zero, List.getElem_cons_succ, List.setIfInBounds_toArray, List.set_cons_zero, List.set_cons_succ]
            refine wpAnyH_ready (rs := [3]) (by kernel_rfl) (by simp) ?_
            refine AllReadyH.cons rfl (fun K hK => ?_) ?_
            · (go_simp; go_at_call 15; refine (C1.out _ HB2.out.drew).mono ?_; rintro e w3 ⟨rfl, hB, hk⟩; have HB3 := hide hB; have bc3 : w3.cell? ⟨b, 1, none⟩ = some (.int .i64 t) := (World.cell?_of_block (hk.1 b rfl)).trans bc1; clear hB hk)
              refine hK.out _ _ ?_ (fun hHeld => ?_)
              · (first | exact bc3 | exact bc4 | assumption)
              clear hK K
              try simp only [Act.put, List.getElem_toArray, List.getElem_cons_zero, List.getElem_cons_succ, List.setIfInBounds_toArray, List.set_cons_zero, List.set_cons_succ]
              refine wpAnyH_ready (rs := [7]) (by kernel_rfl) (by simp) ?_
              refine AllReadyH.cons rfl (fun K hK => ?_) ?_
              · (go_simp; go_at_call 16; refine (C2.out _ HB3.out).mono ?_; rintro e w4 ⟨rfl, hB, hk⟩; have HB4 := hide hB; have bc4 : w4.cell? ⟨b, 1, none⟩ = some (.int .i64 t) := (World.cell?_of_block (hk.1 b rfl)).trans bc3; clear hB hk)
                refine hK.out _ _ ?_ (fun hHeld => ?_)
                · (first | exact bc3 | exact bc4 | assumption)
                clear hK K
                try simp only [Act.put, List.getElem_toArray, List.getElem_cons_zero, List.getElem_cons_succ, List.setIfInBounds_toArray, List.set_cons_zero, List.set_cons_succ]
                refine wpAnyH_take (i := 8) (v := ?_) rfl (by kernel_rfl) (by kernel_rfl) (by kernel_rfl) (fun _ _ _ h => h) (Or.inl ⟨by rfl, ?_⟩) (by first | trivial | assumption) ?_
                rotate_left 1
                · (intro w hSw; (try dsimp only at hSw); go_simp; all_goals with_reducible rfl)
                try simp only [Act.put, List.getElem_toArray, List.getElem_cons_zero, List.getElem_cons_succ, List.setIfInBounds_toArray, List.set_cons_zero, List.set_cons_succ]
                refine wpAnyH_done (by kernel_rfl) ?_ _
                refine NoPanic.normal ?_
                clear hHeld bc3 bc4 C1 C2 HB2 HB3
                go_wp2_with fail
                go_meet
                exact ⟨_, _, HR2, HO2, HL2, hide (HB4.out.mono fun _ h => h.elim)⟩
              exact AllReadyH.nil
            exact AllReadyH.nil
          · have hm' : d.tmod 8 = 5 := hm
            clear hm hm8
            have HR2 := hide (HRP.out.wait t)
            have HO2 := hide (HO.out.wait t)
            have HL2 : Hid ((waitQ q t).length ≤ k + 1) := hide (Nat.le_trans (waitQ_len q t) HLW.out)
            have C1 : Hid (∀ W, Bth w M R (fun k => k = b) l q W → Calls Try.prog 15 #[.pointer (some ⟨M, 0, none⟩), .int .i64 t] W fun e w' => e = .returned (.int .i64 (waitE l t)) ∧ Bth w M R (fun k => k = b) (waitL l t) q w' ∧ Kept (fun k => k = b) W w') := hide fun W hW => b_wait hl9 t hW
            have C2 : Hid (∀ W, Bth w M R (fun k => k = b) (waitL l t) q W → Calls Try.prog 16 #[.pointer (some ⟨R, 0, none⟩), .int .i64 t] W fun e w' => e = .returned (.int .i64 (waitE l t)) ∧ Bth w M R (fun k => k = b) (waitL l t) (waitQ q t) w' ∧ Kept (fun k => k = b) W w') := hide fun W hW => by
              have := r_wait HRP.out.inv hq9 t hW
              rw [HRP.out.wts] at this
              exact this
            clear HLQ
            generalize waitL l t = L2 at *
            generalize waitQ q t = Q2 at *
            generalize waitE l t = E0 at *
            have tt0 : (E0 != E0) = false := by simp
            go_wp2_with fail
            clear hm'
            refine wp_region_noPanic ?_
            refine wp_region_held_drew (S := fun w' => w'.cell? ⟨b, 1, none⟩ = some (.int .i64 t)) (by kernel_rfl) ?_ (fun hHeld => ?_)
            · exact bc1
            refine wpAnyH_take (i := 0) (v := ?_) rfl (by kernel_rfl) (by kernel_rfl) (by kernel_rfl) (fun _ _ _ h => h) (Or.inl ⟨by rfl, ?_⟩) (by first | trivial | assumption) ?_
            rotate_left 1
            · (intro w hSw; (try dsimp only at hSw); go_simp; all_goals with_reducible rfl)
            try simp only [Act.put, List.getElem_toArray, List.getElem_cons_zero, List.getElem_cons_succ, List.setIfInBounds_toArray, List.set_cons_zero, List.set_cons_succ]
            refine wpAnyH_take (i := 1) (v := ?_) rfl (by kernel_rfl) (by kernel_rfl) (by kernel_rfl) (fun _ _ _ h => h) (Or.inl ⟨by rfl, ?_⟩) (by first | trivial | assumption) ?_
            rotate_left 1
            · (intro w hSw; (try dsimp only at hSw); go_simp; all_goals with_reducible rfl)
            try simp only [Act.put, List.getElem_toArray, List.getElem_cons_zero, List.getElem_cons_succ, List.setIfInBounds_toArray, List.set_cons_zero, List.set_cons_succ]
            refine wpAnyH_take (i := 2) (v := ?_) rfl (by kernel_rfl) (by kernel_rfl) (by kernel_rfl) (fun _ _ _ h => h) (Or.inl ⟨by rfl, ?_⟩) (by first | trivial | assumption) ?_
            rotate_left 1
            · (intro w hSw; (try dsimp only at hSw); go_simp; all_goals with_reducible rfl)
            try simp only [Act.put, List.getElem_toArray, List.getElem_cons_zero, List.getElem_cons_succ, List.setIfInBounds_toArray, List.set_cons_zero, List.set_cons_succ]
            refine wpAnyH_take (i := 4) (v := ?_) rfl (by kernel_rfl) (by kernel_rfl) (by kernel_rfl) (fun _ _ _ h => h) (Or.inl ⟨by rfl, ?_⟩) (by first | trivial | assumption) ?_
            rotate_left 1
            · (intro w hSw; (try dsimp only at hSw); go_simp; all_goals with_reducible rfl)
            try simp only [Act.put, List.getElem_toArray, List.getElem_cons_zero, List.getElem_cons_succ, List.setIfInBounds_toArray, List.set_cons_zero, List.set_cons_succ]
            refine wpAnyH_take (i := 5) (v := ?_) rfl (by kernel_rfl) (by kernel_rfl) (by kernel_rfl) (fun _ _ _ h => h) (Or.inl ⟨by rfl, ?_⟩) (by first | trivial | assumption) ?_
            rotate_left 1
            · (intro w hSw; (try dsimp only at hSw); go_simp; all_goals with_reducible rfl)
            try simp only [Act.put, List.getElem_toArray, List.getElem_cons_zero, List.getElem_cons_succ, List.setIfInBounds_toArray, List.set_cons_zero, List.set_cons_succ]
            refine wpAnyH_take (i := 6) (v := ?_) rfl (by kernel_rfl) (by kernel_rfl) (by kernel_rfl) (fun _ _ _ h => h) (Or.inl ⟨by rfl, ?_⟩) (by first | trivial | assumption) ?_
            rotate_left 1
            · (intro w hSw; (try dsimp only at hSw); go_simp; all_goals with_reducible rfl)
            try simp only [Act.put, List.getElem_toArray, List.getElem_cons_zero, List.getElem_cons_succ, List.setIfInBounds_toArray, List.set_cons_zero, List.set_cons_succ]
            refine wpAnyH_ready (rs := [3]) (by kernel_rfl) (by simp) ?_
            refine AllReadyH.cons rfl (fun K hK => ?_) ?_
            · (go_simp; go_at_call 15; refine (C1.out _ HB2.out.drew).mono ?_; rintro e w3 ⟨rfl, hB, hk⟩; have HB3 := hide hB; have bc3 : w3.cell? ⟨b, 1, none⟩ = some (.int .i64 t) := (World.cell?_of_block (hk.1 b rfl)).trans bc1; clear hB hk)
              refine hK.out _ _ ?_ (fun hHeld => ?_)
              · (first | exact bc3 | exact bc4 | assumption)
              clear hK K
              try simp only [Act.put, List.getElem_toArray, List.getElem_cons_zero, List.getElem_cons_succ, List.setIfInBounds_toArray, List.set_cons_zero, List.set_cons_succ]
              refine wpAnyH_ready (rs := [7]) (by kernel_rfl) (by simp) ?_
              refine AllReadyH.cons rfl (fun K hK => ?_) ?_
              · (go_simp; go_at_call 16; refine (C2.out _ HB3.out).mono ?_; rintro e w4 ⟨rfl, hB, hk⟩; have HB4 := hide hB; have bc4 : w4.cell? ⟨b, 1, none⟩ = some (.int .i64 t) := (World.cell?_of_block (hk.1 b rfl)).trans bc3; clear hB hk)
                refine hK.out _ _ ?_ (fun hHeld => ?_)
                · (first | exact bc3 | exact bc4 | assumption)
                clear hK K
                try simp only [Act.put, List.getElem_toArray, List.getElem_cons_zero, List.getElem_cons_succ, List.setIfInBounds_toArray, List.set_cons_zero, List.set_cons_succ]
                refine wpAnyH_take (i := 8) (v := ?_) rfl (by kernel_rfl) (by kernel_rfl) (by kernel_rfl) (fun _ _ _ h => h) (Or.inl ⟨by rfl, ?_⟩) (by first | trivial | assumption) ?_
                rotate_left 1
                · (intro w hSw; (try dsimp only at hSw); go_simp; all_goals with_reducible rfl)
                try simp only [Act.put, List.getElem_toArray, List.getElem_cons_zero, List.getElem_cons_succ, List.setIfInBounds_toArray, List.set_cons_zero, List.set_cons_succ]
                refine wpAnyH_done (by kernel_rfl) ?_ _
                refine NoPanic.normal ?_
                clear hHeld bc3 bc4 C1 C2 HB2 HB3
                go_wp2_with fail
                go_meet
                exact ⟨_, _, HR2, HO2, HL2, hide (HB4.out.mono fun _ h => h.elim)⟩
              exact AllReadyH.nil
            exact AllReadyH.nil
          · have hm' : d.tmod 8 = 6 := hm
            clear hm hm8
            have HR2 := hide (HRP.out.wait t)
            have HO2 := hide (HO.out.wait t)
            have HL2 : Hid ((waitQ q t).length ≤ k + 1) := hide (Nat.le_trans (waitQ_len q t) HLW.out)
            have C1 : Hid (∀ W, Bth w M R (fun k => k = b) l q W → Calls Try.prog 15 #[.pointer (some ⟨M, 0, none⟩), .int .i64 t] W fun e w' => e = .returned (.int .i64 (waitE l t)) ∧ Bth w M R (fun k => k = b) (waitL l t) q w' ∧ Kept (fun k => k = b) W w') := hide fun W hW => b_wait hl9 t hW
            have C2 : Hid (∀ W, Bth w M R (fun k => k = b) (waitL l t) q W → Calls Try.prog 16 #[.pointer (some ⟨R, 0, none⟩), .int .i64 t] W fun e w' => e = .returned (.int .i64 (waitE l t)) ∧ Bth w M R (fun k => k = b) (waitL l t) (waitQ q t) w' ∧ Kept (fun k => k = b) W w') := hide fun W hW => by
              have := r_wait HRP.out.inv hq9 t hW
              rw [HRP.out.wts] at this
              exact this
            clear HLQ
            generalize waitL l t = L2 at *
            generalize waitQ q t = Q2 at *
            generalize waitE l t = E0 at *
            have tt0 : (E0 != E0) = false := by simp
            go_wp2_with fail
            clear hm'
            refine wp_region_noPanic ?_
            refine wp_region_held_drew (S := fun w' => w'.cell? ⟨b, 1, none⟩ = some (.int .i64 t)) (by kernel_rfl) ?_ (fun hHeld => ?_)
            · exact bc1
            refine wpAnyH_take (i := 0) (v := ?_) rfl (by kernel_rfl) (by kernel_rfl) (by kernel_rfl) (fun _ _ _ h => h) (Or.inl ⟨by rfl, ?_⟩) (by first | trivial | assumption) ?_
            rotate_left 1
            · (intro w hSw; (try dsimp only at hSw); go_simp; all_goals with_reducible rfl)
            try simp only [Act.put, List.getElem_toArray, List.getElem_cons_zero, List.getElem_cons_succ, List.setIfInBounds_toArray, List.set_cons_zero, List.set_cons_succ]
            refine wpAnyH_take (i := 1) (v := ?_) rfl (by kernel_rfl) (by kernel_rfl) (by kernel_rfl) (fun _ _ _ h => h) (Or.inl ⟨by rfl, ?_⟩) (by first | trivial | assumption) ?_
            rotate_left 1
            · (intro w hSw; (try dsimp only at hSw); go_simp; all_goals with_reducible rfl)
            try simp only [Act.put, List.getElem_toArray, List.getElem_cons_zero, List.getElem_cons_succ, List.setIfInBounds_toArray, List.set_cons_zero, List.set_cons_succ]
            refine wpAnyH_take (i := 2) (v := ?_) rfl (by kernel_rfl) (by kernel_rfl) (by kernel_rfl) (fun _ _ _ h => h) (Or.inl ⟨by rfl, ?_⟩) (by first | trivial | assumption) ?_
            rotate_left 1
            · (intro w hSw; (try dsimp only at hSw); go_simp; all_goals with_reducible rfl)
            try simp only [Act.put, List.getElem_toArray, List.getElem_cons_zero, List.getElem_cons_succ, List.setIfInBounds_toArray, List.set_cons_zero, List.set_cons_succ]
            refine wpAnyH_take (i := 4) (v := ?_) rfl (by kernel_rfl) (by kernel_rfl) (by kernel_rfl) (fun _ _ _ h => h) (Or.inl ⟨by rfl, ?_⟩) (by first | trivial | assumption) ?_
            rotate_left 1
            · (intro w hSw; (try dsimp only at hSw); go_simp; all_goals with_reducible rfl)
            try simp only [Act.put, List.getElem_toArray, List.getElem_cons_zero, List.getElem_cons_succ, List.setIfInBounds_toArray, List.set_cons_zero, List.set_cons_succ]
            refine wpAnyH_take (i := 5) (v := ?_) rfl (by kernel_rfl) (by kernel_rfl) (by kernel_rfl) (fun _ _ _ h => h) (Or.inl ⟨by rfl, ?_⟩) (by first | trivial | assumption) ?_
            rotate_left 1
            · (intro w hSw; (try dsimp only at hSw); go_simp; all_goals with_reducible rfl)
            try simp only [Act.put, List.getElem_toArray, List.getElem_cons_zero, List.getElem_cons_succ, List.setIfInBounds_toArray, List.set_cons_zero, List.set_cons_succ]
            refine wpAnyH_take (i := 6) (v := ?_) rfl (by kernel_rfl) (by kernel_rfl) (by kernel_rfl) (fun _ _ _ h => h) (Or.inl ⟨by rfl, ?_⟩) (by first | trivial | assumption) ?_
            rotate_left 1
            · (intro w hSw; (try dsimp only at hSw); go_simp; all_goals with_reducible rfl)
            try simp only [Act.put, List.getElem_toArray, List.getElem_cons_zero, List.getElem_cons_succ, List.setIfInBounds_toArray, List.set_cons_zero, List.set_cons_succ]
            refine wpAnyH_ready (rs := [3]) (by kernel_rfl) (by simp) ?_
            refine AllReadyH.cons rfl (fun K hK => ?_) ?_
            · (go_simp; go_at_call 15; refine (C1.out _ HB2.out.drew).mono ?_; rintro e w3 ⟨rfl, hB, hk⟩; have HB3 := hide hB; have bc3 : w3.cell? ⟨b, 1, none⟩ = some (.int .i64 t) := (World.cell?_of_block (hk.1 b rfl)).trans bc1; clear hB hk)
              refine hK.out _ _ ?_ (fun hHeld => ?_)
              · (first | exact bc3 | exact bc4 | assumption)
              clear hK K
              try simp only [Act.put, List.getElem_toArray, List.getElem_cons_zero, List.getElem_cons_succ, List.setIfInBounds_toArray, List.set_cons_zero, List.set_cons_succ]
              refine wpAnyH_ready (rs := [7]) (by kernel_rfl) (by simp) ?_
              refine AllReadyH.cons rfl (fun K hK => ?_) ?_
              · (go_simp; go_at_call 16; refine (C2.out _ HB3.out).mono ?_; rintro e w4 ⟨rfl, hB, hk⟩; have HB4 := hide hB; have bc4 : w4.cell? ⟨b, 1, none⟩ = some (.int .i64 t) := (World.cell?_of_block (hk.1 b rfl)).trans bc3; clear hB hk)
                refine hK.out _ _ ?_ (fun hHeld => ?_)
                · (first | exact bc3 | exact bc4 | assumption)
                clear hK K
                try simp only [Act.put, List.getElem_toArray, List.getElem_cons_zero, List.getElem_cons_succ, List.setIfInBounds_toArray, List.set_cons_zero, List.set_cons_succ]
                refine wpAnyH_take (i := 8) (v := ?_) rfl (by kernel_rfl) (by kernel_rfl) (by kernel_rfl) (fun _ _ _ h => h) (Or.inl ⟨by rfl, ?_⟩) (by first | trivial | assumption) ?_
                rotate_left 1
                · (intro w hSw; (try dsimp only at hSw); go_simp; all_goals with_reducible rfl)
                try simp only [Act.put, List.getElem_toArray, List.getElem_cons_zero, List.getElem_cons_succ, List.setIfInBounds_toArray, List.set_cons_zero, List.set_cons_succ]
                refine wpAnyH_done (by kernel_rfl) ?_ _
                refine NoPanic.normal ?_
                clear hHeld bc3 bc4 C1 C2 HB2 HB3
                go_wp2_with fail
                go_meet
                exact ⟨_, _, HR2, HO2, HL2, hide (HB4.out.mono fun _ h => h.elim)⟩
              exact AllReadyH.nil
            exact AllReadyH.nil
          · have hm' : d.tmod 8 = 7 := hm
            clear hm hm8
            have HR2 := hide (HRP.out.wait t)
            have HO2 := hide (HO.out.wait t)
            have HL2 : Hid ((waitQ q t).length ≤ k + 1) := hide (Nat.le_trans (waitQ_len q t) HLW.out)
            have C1 : Hid (∀ W, Bth w M R (fun k => k = b) l q W → Calls Try.prog 15 #[.pointer (some ⟨M, 0, none⟩), .int .i64 t] W fun e w' => e = .returned (.int .i64 (waitE l t)) ∧ Bth w M R (fun k => k = b) (waitL l t) q w' ∧ Kept (fun k => k = b) W w') := hide fun W hW => b_wait hl9 t hW
            have C2 : Hid (∀ W, Bth w M R (fun k => k = b) (waitL l t) q W → Calls Try.prog 16 #[.pointer (some ⟨R, 0, none⟩), .int .i64 t] W fun e w' => e = .returned (.int .i64 (waitE l t)) ∧ Bth w M R (fun k => k = b) (waitL l t) (waitQ q t) w' ∧ Kept (fun k => k = b) W w') := hide fun W hW => by
              have := r_wait HRP.out.inv hq9 t hW
              rw [HRP.out.wts] at this
              exact this
            clear HLQ
            generalize waitL l t = L2 at *
            generalize waitQ q t = Q2 at *
            generalize waitE l t = E0 at *
            have tt0 : (E0 != E0) = false := by simp
            go_wp2_with fail
            clear hm'
            refine wp_region_noPanic ?_
            refine wp_region_held_drew (S := fun w' => w'.cell? ⟨b, 1, none⟩ = some (.int .i64 t)) (by kernel_rfl) ?_ (fun hHeld => ?_)
            · exact bc1
            refine wpAnyH_take (i := 0) (v := ?_) rfl (by kernel_rfl) (by kernel_rfl) (by kernel_rfl) (fun _ _ _ h => h) (Or.inl ⟨by rfl, ?_⟩) (by first | trivial | assumption) ?_
            rotate_left 1
            · (intro w hSw; (try dsimp only at hSw); go_simp; all_goals with_reducible rfl)
            try simp only [Act.put, List.getElem_toArray, List.getElem_cons_zero, List.getElem_cons_succ, List.setIfInBounds_toArray, List.set_cons_zero, List.set_cons_succ]
            refine wpAnyH_take (i := 1) (v := ?_) rfl (by kernel_rfl) (by kernel_rfl) (by kernel_rfl) (fun _ _ _ h => h) (Or.inl ⟨by rfl, ?_⟩) (by first | trivial | assumption) ?_
            rotate_left 1
            · (intro w hSw; (try dsimp only at hSw); go_simp; all_goals with_reducible rfl)
            try simp only [Act.put, List.getElem_toArray, List.getElem_cons_zero, List.getElem_cons_succ, List.setIfInBounds_toArray, List.set_cons_zero, List.set_cons_succ]
            refine wpAnyH_take (i := 2) (v := ?_) rfl (by kernel_rfl) (by kernel_rfl) (by kernel_rfl) (fun _ _ _ h => h) (Or.inl ⟨by rfl, ?_⟩) (by first | trivial | assumption) ?_
            rotate_left 1
            · (intro w hSw; (try dsimp only at hSw); go_simp; all_goals with_reducible rfl)
            try simp only [Act.put, List.getElem_toArray, List.getElem_cons_zero, List.getElem_cons_succ, List.setIfInBounds_toArray, List.set_cons_zero, List.set_cons_succ]
            refine wpAnyH_take (i := 4) (v := ?_) rfl (by kernel_rfl) (by kernel_rfl) (by kernel_rfl) (fun _ _ _ h => h) (Or.inl ⟨by rfl, ?_⟩) (by first | trivial | assumption) ?_
            rotate_left 1
            · (intro w hSw; (try dsimp only at hSw); go_simp; all_goals with_reducible rfl)
            try simp only [Act.put, List.getElem_toArray, List.getElem_cons_zero, List.getElem_cons_succ, List.setIfInBounds_toArray, List.set_cons_zero, List.set_cons_succ]
            refine wpAnyH_take (i := 5) (v := ?_) rfl (by kernel_rfl) (by kernel_rfl) (by kernel_rfl) (fun _ _ _ h => h) (Or.inl ⟨by rfl, ?_⟩) (by first | trivial | assumption) ?_
            rotate_left 1
            · (intro w hSw; (try dsimp only at hSw); go_simp; all_goals with_reducible rfl)
            try simp only [Act.put, List.getElem_toArray, List.getElem_cons_zero, List.getElem_cons_succ, List.setIfInBounds_toArray, List.set_cons_zero, List.set_cons_succ]
            refine wpAnyH_take (i := 6) (v := ?_) rfl (by kernel_rfl) (by kernel_rfl) (by kernel_rfl) (fun _ _ _ h => h) (Or.inl ⟨by rfl, ?_⟩) (by first | trivial | assumption) ?_
            rotate_left 1
            · (intro w hSw; (try dsimp only at hSw); go_simp; all_goals with_reducible rfl)
            try simp only [Act.put, List.getElem_toArray, List.getElem_cons_zero, List.getElem_cons_succ, List.setIfInBounds_toArray, List.set_cons_zero, List.set_cons_succ]
            refine wpAnyH_ready (rs := [3]) (by kernel_rfl) (by simp) ?_
            refine AllReadyH.cons rfl (fun K hK => ?_) ?_
            · (go_simp; go_at_call 15; refine (C1.out _ HB2.out.drew).mono ?_; rintro e w3 ⟨rfl, hB, hk⟩; have HB3 := hide hB; have bc3 : w3.cell? ⟨b, 1, none⟩ = some (.int .i64 t) := (World.cell?_of_block (hk.1 b rfl)).trans bc1; clear hB hk)
              refine hK.out _ _ ?_ (fun hHeld => ?_)
              · (first | exact bc3 | exact bc4 | assumption)
              clear hK K
              try simp only [Act.put, List.getElem_toArray, List.getElem_cons_zero, List.getElem_cons_succ, List.setIfInBounds_toArray, List.set_cons_zero, List.set_cons_succ]
              refine wpAnyH_ready (rs := [7]) (by kernel_rfl) (by simp) ?_
              refine AllReadyH.cons rfl (fun K hK => ?_) ?_
              · (go_simp; go_at_call 16; refine (C2.out _ HB3.out).mono ?_; rintro e w4 ⟨rfl, hB, hk⟩; have HB4 := hide hB; have bc4 : w4.cell? ⟨b, 1, none⟩ = some (.int .i64 t) := (World.cell?_of_block (hk.1 b rfl)).trans bc3; clear hB hk)
                refine hK.out _ _ ?_ (fun hHeld => ?_)
                · (first | exact bc3 | exact bc4 | assumption)
                clear hK K
                try simp only [Act.put, List.getElem_toArray, List.getElem_cons_zero, List.getElem_cons_succ, List.setIfInBounds_toArray, List.set_cons_zero, List.set_cons_succ]
                refine wpAnyH_take (i := 8) (v := ?_) rfl (by kernel_rfl) (by kernel_rfl) (by kernel_rfl) (fun _ _ _ h => h) (Or.inl ⟨by rfl, ?_⟩) (by first | trivial | assumption) ?_
                rotate_left 1
                · (intro w hSw; (try dsimp only at hSw); go_simp; all_goals with_reducible rfl)
                try simp only [Act.put, List.getElem_toArray, List.getElem_cons_zero, List.getElem_cons_succ, List.setIfInBounds_toArray, List.set_cons_zero, List.set_cons_succ]
                refine wpAnyH_done (by kernel_rfl) ?_ _
                refine NoPanic.normal ?_
                clear hHeld bc3 bc4 C1 C2 HB2 HB3
                go_wp2_with fail
                go_meet
                exact ⟨_, _, HR2, HO2, HL2, hide (HB4.out.mono fun _ h => h.elim)⟩
              exact AllReadyH.nil
            exact AllReadyH.nil
        case rest =>
          clear HRP HO HLQ HLW HB2 bc1 hq9 hl9 HM8 hlen q1 q2 hk60 hkl
          obtain ⟨l2, q2, HRP2, HO2, HLQ2, HBx⟩ := hcut
          have hk59 : k < 60 := by have := HKL.out; omega
          have q0' : (0 : Int) ≤ (k : Int) := by omega
          have hq9 : q2.length ≤ 1000 := by have := HLQ2.out; have := HKL.out; omega
          have hl9 : l2.length ≤ 1000 := by have := wts_len q2; rw [HRP2.out.wts] at this; omega
          obtain ⟨QL, hQL⟩ : ∃ QL, l2.length = QL := ⟨_, rfl⟩
          have HC1 : Hid (Calls Try.prog 17 #[.pointer (some ⟨M, 0, none⟩)] wc fun e w' => ∃ a c, e = .returned (.slice a QL c) ∧ RowZ w' a l2 ∧ Below wc.heap.size wc w') := hide (by have := b_waits hl9 HBx.out; rw [hQL] at this; exact this)
          have HC2 : Hid (∀ W, Bth w M R none0 l2 q2 W → Calls Try.prog 12 #[.pointer (some ⟨R, 0, none⟩)] W fun e w' => ∃ a c, e = .returned (.slice a QL c) ∧ RowZ w' a l2 ∧ Below W.heap.size W w') := hide fun W kW => by
            have := r_waits hq9 kW
            rw [HRP2.out.wts, hQL] at this
            exact this.mono fun e w' ⟨a, c, h1, h2, _, h4⟩ => ⟨a, c, h1, h2.row, h4⟩
          have HI : Hid (∀ a1 a2 c1 c2 W, RowZ W a1 l2 → RowZ W a2 l2 → Calls Try.prog 13 #[.slice a1 QL c1, .slice a2 QL c2] W fun e w' => e = .returned (.bool true) ∧ Below W.heap.size W w') := hide fun a1 a2 c1 c2 W k1 k2 => by
            have := same_ints a1 a2 c1 c2 l2 W hl9 k1 k2
            rw [hQL] at this
            exact this
          clear hQL hq9 hl9
          go_wp2_with fail
          refine HC1.out.mono ?_
          rintro e w3 ⟨a3, c3, rfl, hz, hb⟩
          have HB3 := hide (HBx.out.below hb)
          have HZ3 := hide hz
          clear hz hb HC1 HBx
          go_wp2_with fail
          refine (HC2.out _ HB3.out).mono ?_
          rintro e w4 ⟨a4, c4, rfl, hz, hb⟩
          have HB4 := hide (HB3.out.below hb)
          have HZ4 := hide (HZ3.out.below hb)
          have HZ5 := hide hz
          clear hz hb HC2 HB3 HZ3
          go_wp2_with fail
          refine (HI.out _ _ _ _ _ HZ4.out HZ5.out).mono ?_
          rintro e w5 ⟨rfl, hb⟩
          have HB5 := hide (HB4.out.below hb)
          clear hb HI HZ4 HZ5 HB4
          go_wp2_with fail
          go_roundw
          case rel => exact ⟨k + 1, l2, q2, by go_num, HKL.out.1, HKL.out.2, HRP2, HO2, HLQ2.out, HB5⟩
          case measure => have := HKL.out; simp [intOf]; omega
      · have q2' : ¬ (k : Int) < 60 := by omega
        have q1' : (k : Int) < (l1 : Int) := by omega
        have HBB := hide HB.out.2.2
        have HAW := hide awake_any
        clear HB
        go_wp2_with fail
        refine (HAW.out _).mono ?_
        rintro e w3 ⟨rfl, hb⟩
        have HF := hide (below_next HBB.out hb)
        clear hb HBB HAW
        go_wp2
        go_ret
        exact ⟨rfl, HF.out⟩
    · have q1' : ¬ (k : Int) < (l1 : Int) := by omega
      have HBB := hide HB.out.2.2
      have HAW := hide awake_any
      clear HB
      go_wp2_with fail
      refine (HAW.out _).mono ?_
      rintro e w3 ⟨rfl, hb⟩
      have HF := hide (below_next HBB.out hb)
      clear hb HBB HAW
      go_wp2
      go_ret
      exact ⟨rfl, HF.out⟩

end Go.Proofs.Ytinfmchbcipbjaa
