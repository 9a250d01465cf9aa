/-
  What the law MutexAlone asks comes out true at any list of bytes.
-/
import Derived.Test.YtbagkmijnjjmgaaAl
import Derived.Test.YtbagkmijnjjmgaaMem
import Derived.Deep.DeepCutAuto
namespace Go.Proofs.Ytbagkmijnjjmgaa
open Go.RowKit

theorem first_cell {W : World} {b c : Nat} {g off : Nat} {l : List Int} (h : OwnO W b (some ⟨g, off, none⟩) c l) (hn : l ≠ []) : W.cell? ⟨g, off, none⟩ = some (.int .i64 (hold l)) := by
  obtain ⟨g2, o2, e, _, hc⟩ := h.rowZ hn
  cases e
  have := hc 0 (List.length_pos_iff.2 hn)
  rwa [Nat.add_zero] at this
theorem its_some {W : World} {b c : Nat} {a : Option Addr} {l : List Int} (h : OwnO W b a c l) (hc : 0 < c) : ∃ g off, a = some ⟨g, off, none⟩ := by
  obtain ⟨g, off, _, e, _⟩ := h.here hc
  exact ⟨g, off, e⟩

set_option maxRecDepth 20000 in
set_option maxHeartbeats 8000000 in
theorem alone_walk (a1 : Option Addr) (l1 c1 : Nat) (h1 : l1 ≤ c1) (g1 : c1 ≤ maxLen) (w : World) (hact1 : Bytes w a1 l1) : Calls Try.prog 4 #[.slice a1 l1 c1] w fun e w' => e = .returned (.bool true) ∧ Below w.heap.size w w' := by
  have hl1 : l1 ≤ maxLen := Nat.le_trans h1 g1
  unfold maxLen at hl1
  clear h1 g1
  have HA1 := hide hact1
  clear hact1
  have N0 := hide (new_any w)
  go_enter Try.func4, Try.ntmps4
  go_wp2_with fail
  refine N0.out.mono ?_
  rintro e w1 ⟨rfl, hA, hb⟩
  obtain ⟨M, hMe⟩ : ∃ M, M = w.heap.size := ⟨_, rfl⟩
  rw [← hMe] at hA ⊢
  have HB0 := hide (Al.start (W0 := w) (by rw [← hMe]; rw [hMe] at hA ⊢; exact hA) hb (by omega : w.heap.size ≤ M))
  clear hA hMe N0 hb
  go_wp2_with fail
  go_loopw [4, 5] (fun u i wr => ∃ k n l a c, u = .slice a n c ∧ i = .int .i64 ((k : Nat) : Int) ∧ k ≤ 60 ∧ k ≤ l1 ∧ n ≤ k ∧ Hid (Okz l) ∧ Hid (List.length l = n) ∧ Hid (Al w M l l a c wr)) (fun _ i _ => 60 - (intOf i).toNat)
  case atStart => exact ⟨0, 0, [], _, _, rfl, rfl, by omega, by omega, by omega, Okz.nil, rfl, HB0⟩
  case round =>
    clear HB0
    obtain ⟨k, n, l, a, c, rfl, rfl, hk60, hkl, hnk, HO, HN, HB⟩ := hrel
    by_cases q1 : k < l1
    · have q1' : (k : Int) < (l1 : Int) := by omega
      by_cases q2 : k < 60
      · have q2' : (k : Int) < 60 := by omega
        have q0' : (0 : Int) ≤ (k : Int) := by omega
        obtain ⟨b2, off2, d, rfl, hlt2, p0, hd⟩ := HA1.out k q1
        have p0' := ((bcell HB.out.2.2).1 _ _ hlt2).trans p0
        clear p0
        have hk1 : k + 1 ≤ 60 ∧ k + 1 ≤ l1 := by omega
        have hn9 : n ≤ 59 := by omega
        have hlen9 : Hid (l.length ≤ 1000) := by show _ ≤ _; rw [HN.out]; omega
        obtain ⟨m, hm, _, hmu, hm64⟩ := u8_mod hd 8 (by omega) (by omega)
        have hm' : d.tmod 8 = (m : Int) := hm
        have hm0 : (0 : Int) ≤ (m : Int) := Int.natCast_nonneg m
        clear hm hd
        go_wp2_with fail
        clear hm' p0' hmu hm64
        generalize hT : 1 + (m : Int) = T
        have hT1 : 1 ≤ T := by rw [← hT]; exact Int.le_add_of_nonneg_right hm0
        clear hT hm0
        go_loop [7, 8] (fun u v => ∃ q A, u = .int .i64 A ∧ v = .int .i64 ((q : Nat) : Int) ∧ q ≤ n ∧ Hid ((A = -1 ∧ ∀ j, j < q → gz l j ≠ T) ∨ ∃ j : Nat, j < q ∧ A = (j : Int) ∧ gz l j = T)) (fun _ v => n - (intOf v).toNat)
        case atStart => exact ⟨0, -1, rfl, rfl, by omega, Or.inl ⟨rfl, fun j hj => absurd hj (by omega)⟩⟩
        case round =>
          obtain ⟨q, A, rfl, rfl, hqn, HC⟩ := hrel
          by_cases hq : q < n
          · have hq' : (q : Int) < (n : Int) := by omega
            have hq0 : (0 : Int) ≤ (q : Int) := by omega
            have hne : l ≠ [] := fun e => by have := HN.out; rw [e] at this; simp at this; omega
            obtain ⟨g, off, rfl, _, hcell⟩ := HB.out.own.rowZ hne
            have e1 := hcell q (by rw [HN.out]; exact hq)
            clear hcell hne
            by_cases hx : gz l q = T
            · have hx' : (gz l q == T) = true := by simpa using hx
              have HC2 : Hid (((q : Int) = -1 ∧ ∀ j, j < q + 1 → gz l j ≠ T) ∨ ∃ j : Nat, j < q + 1 ∧ (q : Int) = (j : Int) ∧ gz l j = T) := Or.inr ⟨q, by omega, rfl, hx⟩
              clear hx HC
              generalize gz l q = X at e1 hx'
              go_wp2_with fail
              go_round
              case rel => exact ⟨q + 1, q, rfl, by go_num, by omega, HC2⟩
              case measure => simp [intOf]; omega
            · have hx' : (gz l q == T) = false := by simpa using hx
              have HC2 : Hid ((A = -1 ∧ ∀ j, j < q + 1 → gz l j ≠ T) ∨ ∃ j : Nat, j < q + 1 ∧ A = (j : Int) ∧ gz l j = T) := by
                rcases HC.out with ⟨r1, r2⟩ | ⟨j, r1, r2, r3⟩
                · refine Or.inl ⟨r1, fun j hj => ?_⟩
                  by_cases e : j = q
                  · subst e; exact hx
                  · exact r2 j (by omega)
                · exact Or.inr ⟨j, by omega, r2, r3⟩
              clear hx HC
              generalize gz l q = X at e1 hx'
              go_wp2_with fail
              go_round
              case rel => exact ⟨q + 1, A, rfl, by go_num, by omega, HC2⟩
              case measure => simp [intOf]; omega
          · have hq' : ¬ (q : Int) < (n : Int) := by omega
            have HCN : Hid ((A = -1 ∧ ∀ j, j < l.length → gz l j ≠ T) ∨ ∃ j : Nat, j < l.length ∧ A = (j : Int) ∧ gz l j = T) := by show _; rw [HN.out, show n = q by omega]; exact HC.out
            have hcs := at_case HO.out hT1 HCN.out
            clear HC HCN hqn hq
            rcases hcs with ⟨rfl, r1, r2, r3, r4⟩ | ⟨rfl, r1, r2, r3⟩ | ⟨r0, r1, r2, r3, r4, r5, r6, r7⟩
            · have HU : Hid (∀ a' c' W, Al w M l l.tail a' c' W → Calls Try.prog 13 #[.pointer (some ⟨M, 0, none⟩), .int .i64 T] W fun e w' => e = .returned (.tuple #[.int .i64 (hold l.tail), .int .i64 0]) ∧ Al w M l.tail l.tail a' c' w') := fun a' c' W h => by
                have h9 := a_un HO.out hlen9.out T h
                rw [r2, r3, r4] at h9
                exact h9
              have HO2 : Hid (Okz l.tail) := HO.out.tail
              have hnp : 0 < n := by have h9 := List.length_pos_iff.2 r1; rw [HN.out] at h9; exact h9
              have hnc : n ≤ c := by have h9 := HB.out.own.le; rw [HN.out] at h9; exact h9
              obtain ⟨p, hp⟩ : ∃ p, n = p + 1 := ⟨n - 1, by omega⟩
              have HN2 : Hid (l.tail.length = p) := by show _ = _; rw [List.length_tail, HN.out]; omega
              have hpk : p ≤ k + 1 ∧ p ≤ 59 := by omega
              obtain ⟨g, off, rfl⟩ := its_some HB.out.own (by omega)
              have hcm := HB.out.own.mx
              unfold maxLen at hcm
              have hll : 1 ≤ l.length := by rw [HN.out]; omega
              by_cases hc1 : c = 1
              · subst hc1
                have hp0 : p = 0 := by omega
                subst hp0
                have hn1 : n = 1 := hp
                subst hn1
                have HB1 := hide HB.out.tail1
                have HBu := hide (HU.out _ _ _ HB1.out)
                have e9 : Hid (hold l.tail = 0) := by show _ = _; rw [List.length_eq_zero_iff.1 HN2.out]; rfl
                rw [e9.out] at HBu
                generalize hlt : l.tail = lt at *
                clear r1 r2 r3 r4 hp HU HN hll e9 hlt
                go_wp2_with fail
                refine HBu.out.mono ?_
                rintro e w3 ⟨rfl, hB⟩
                have HB3 := hide hB
                clear hB HBu HB

                go_wp2_with fail
                have HHo := hide (fun q => a_holder (HB3.out.below (below_drewN _ q)))
                have e9 : Hid (hold (lt) = 0) := by show _ = _; rw [List.length_eq_zero_iff.1 HN2.out]; rfl
                simp only [e9.out] at HHo
                clear e9
                go_quiet ((go_at_call 16; exact Calls.quiet_of_same (HHo.out _)))
                go_wp2_with fail
                go_roundw
                case rel => exact ⟨k + 1, 0, lt, some ⟨g, off, none⟩, 0, rfl, by go_num, hk1.1, hk1.2, by omega, HO2, HN2, HB3.out.below (below_drewN _ _)⟩
                case measure => simp [intOf]; omega

              · have HB1 := hide (HB.out.tail hll)
                have HBu := hide (HU.out _ _ _ HB1.out)
                have cc1 : (1 : Int) ≤ (c : Int) := by omega
                have cc2 : ¬ c = 1 := hc1
                by_cases hp0 : p = 0
                · subst hp0
                  have hn1 : n = 1 := hp
                  subst hn1
                  have e9 : Hid (hold l.tail = 0) := by show _ = _; rw [List.length_eq_zero_iff.1 HN2.out]; rfl
                  rw [e9.out] at HBu
                  generalize hlt : l.tail = lt at *
                  clear r1 r2 r3 r4 hp HU HN hll e9 hlt
                  go_wp2_with fail
                  refine HBu.out.mono ?_
                  rintro e w3 ⟨rfl, hB⟩
                  have HB3 := hide hB
                  clear hB HBu HB

                  go_wp2_with fail
                  have HHo := hide (fun q => a_holder (HB3.out.below (below_drewN _ q)))
                  have e9 : Hid (hold (lt) = 0) := by show _ = _; rw [List.length_eq_zero_iff.1 HN2.out]; rfl
                  simp only [e9.out] at HHo
                  clear e9
                  go_quiet ((go_at_call 16; exact Calls.quiet_of_same (HHo.out _)))
                  go_wp2_with fail
                  go_roundw
                  case rel => exact ⟨k + 1, 0, lt, some ⟨g, off + 1, none⟩, c - 1, rfl, by go_num, hk1.1, hk1.2, by omega, HO2, HN2, HB3.out.below (below_drewN _ _)⟩
                  case measure => simp [intOf]; omega

                · have hpp : 0 < p := by omega
                  have nn1 : n - 1 = p := by omega
                  have nn2 : (1 : Int) ≤ (n : Int) := by omega
                  have pp1 : (0 : Int) < (p : Int) := by omega
                  have pp2 : ((p : Int) == 0) = false := by simp; omega
                  generalize hlt : l.tail = lt at *
                  clear r1 r2 r3 r4 hp HU HN hll hlt
                  have HNE0 : Hid (lt ≠ []) := fun e => by have h9 := HN2.out; rw [e] at h9; simp at h9; omega
                  have HFC : Hid (∀ W, Al w M lt lt (some ⟨g, off + 1, none⟩) (c - 1) W → W.cell? ⟨g, off + 1, none⟩ = some (.int .i64 (hold lt))) := fun W h => first_cell h.own HNE0.out
                  clear HNE0
                  have yy : (hold lt != hold lt) = false := by simp
                  go_wp2_with fail
                  refine HBu.out.mono ?_
                  rintro e w3 ⟨rfl, hB⟩
                  have HB3 := hide hB
                  clear hB HBu HB
                  have ff := HFC.out _ HB3.out; clear HFC
                  go_wp2_with fail
                  clear yy ff
                  have HNE : Hid (lt ≠ []) := fun e => by have h9 := HN2.out; rw [e] at h9; first | (simp at h9; done) | (simp at h9; omega)
                  have e0 := first_cell HB3.out.own HNE.out
                  have HHo := hide (fun q => a_holder (HB3.out.below (below_drewN _ q)))
                  have y1 : (0 : Int) < (p : Int) := by omega
                  have y2 : ((p : Int) == 0) = false := by first | (simp; done) | (simp; omega)
                  have y4 : decide ((0 : Int) < (p : Int)) = true := decide_eq_true y1
                  clear HNE
                  generalize hold (lt) = X at *
                  have y3 : (X != X) = false := by simp
                  go_quiet ((go_at_call 16; exact Calls.quiet_of_same (HHo.out _)))
                  go_wp2_with fail
                  go_roundw
                  case rel => exact ⟨k + 1, p, lt, some ⟨g, off + 1, none⟩, c - 1, rfl, by go_num, hk1.1, hk1.2, hpk.1, HO2, HN2, HB3.out.below (below_drewN _ _)⟩
                  case measure => simp [intOf]; omega
            · have HBl := hide (a_lock HO.out hlen9.out T HB.out)
              rw [r1, r2] at HBl
              have HO2 : Hid (Okz (l ++ [T])) := r3
              have HN2 : Hid ((l ++ [T]).length = n + 1) := by show _ = _; rw [List.length_append, HN.out]; rfl
              have hE : ∃ E : Int, E = (if l = [] then 0 else 14) ∧ ((n = 0 ∧ E = 0) ∨ (0 < n ∧ E = 14)) := by
                refine ⟨_, rfl, ?_⟩
                by_cases h9 : l = []
                · left; rw [if_pos h9]; exact ⟨by rw [← HN.out, h9]; rfl, rfl⟩
                · right; rw [if_neg h9]; exact ⟨by rw [← HN.out]; exact List.length_pos_iff.2 h9, rfl⟩
              obtain ⟨E, hE1, hE2⟩ := hE
              rw [← hE1] at HBl
              clear r1 r2 r3 hE1
              rcases hE2 with ⟨rfl, rfl⟩ | ⟨hnp, rfl⟩
              · go_wp2_with fail
                refine HBl.out.mono ?_
                rintro e w3 ⟨rfl, hB⟩
                have HB3 := hide hB
                clear hB HBl HB
                go_wp2_with (at_builtin; refine wpList_append_o rfl _ _ rfl 0 HN.out rfl T w3.heap.size rfl (by simp) (HB3.out.own.below (below1 _ _)) (by omega) (by have := HB3.out.2.2.size; simp; omega) ?_)
                intro a4 c4 w4 k1 k2 k3
                have HB4 := hide ((HB3.out.below (below1 w3 (.cells #[.int .i64 T] 3))).setO k1 k2 (by simpa using k3))
                clear k1 k2 k3 HB3
                go_wp2_with fail
                have hcp : 0 < c4 := by have h9 := HB4.out.own.le; rw [HN2.out] at h9; omega
                obtain ⟨g4, off4, rfl⟩ := its_some HB4.out.own hcp
                have HNE : Hid (l ++ [T] ≠ []) := fun e => by have h9 := HN2.out; rw [e] at h9; first | (simp at h9; done) | (simp at h9; omega)
                have e0 := first_cell HB4.out.own HNE.out
                have HHo := hide (fun q => a_holder (HB4.out.below (below_drewN _ q)))
                have y1 : (0 : Int) < (1 : Int) := by omega
                have y2 : ((1 : Int) == 0) = false := by first | (simp; done) | (simp; omega)
                have y4 : decide ((0 : Int) < (1 : Int)) = true := decide_eq_true y1
                clear HNE
                generalize hold (l ++ [T]) = X at *
                have y3 : (X != X) = false := by simp
                go_quiet ((go_at_call 16; exact Calls.quiet_of_same (HHo.out _)))
                go_wp2_with fail
                go_roundw
                case rel => exact ⟨k + 1, 1, l ++ [T], some ⟨g4, off4, none⟩, c4, rfl, by go_num, hk1.1, hk1.2, by omega, HO2, HN2, HB4.out.below (below_drewN _ _)⟩
                case measure => simp [intOf]; omega

              · have hnn : ((n : Int) == 0) = false := by simp; omega
                go_wp2_with fail
                refine HBl.out.mono ?_
                rintro e w3 ⟨rfl, hB⟩
                have HB3 := hide hB
                clear hB HBl HB
                go_wp2_with (at_builtin; refine wpList_append_o rfl _ _ rfl n HN.out rfl T w3.heap.size rfl (by simp) (HB3.out.own.below (below1 _ _)) (by omega) (by have := HB3.out.2.2.size; simp; omega) ?_)
                intro a4 c4 w4 k1 k2 k3
                have HB4 := hide ((HB3.out.below (below1 w3 (.cells #[.int .i64 T] 3))).setO k1 k2 (by simpa using k3))
                clear k1 k2 k3 HB3
                generalize hp : n + 1 = p at *
                have hpk : p ≤ k + 1 ∧ 0 < p := by omega
                clear hp
                go_wp2_with fail
                have hcp : 0 < c4 := by have h9 := HB4.out.own.le; rw [HN2.out] at h9; omega
                obtain ⟨g4, off4, rfl⟩ := its_some HB4.out.own hcp
                have HNE : Hid (l ++ [T] ≠ []) := fun e => by have h9 := HN2.out; rw [e] at h9; first | (simp at h9; done) | (simp at h9; omega)
                have e0 := first_cell HB4.out.own HNE.out
                have HHo := hide (fun q => a_holder (HB4.out.below (below_drewN _ q)))
                have y1 : (0 : Int) < (p : Int) := by omega
                have y2 : ((p : Int) == 0) = false := by first | (simp; done) | (simp; omega)
                have y4 : decide ((0 : Int) < (p : Int)) = true := decide_eq_true y1
                clear HNE
                generalize hold (l ++ [T]) = X at *
                have y3 : (X != X) = false := by simp
                go_quiet ((go_at_call 16; exact Calls.quiet_of_same (HHo.out _)))
                go_wp2_with fail
                go_roundw
                case rel => exact ⟨k + 1, p, l ++ [T], some ⟨g4, off4, none⟩, c4, rfl, by go_num, hk1.1, hk1.2, hpk.1, HO2, HN2, HB4.out.below (below_drewN _ _)⟩
                case measure => simp [intOf]; omega
            · have HBx := hide (a_un HO.out hlen9.out T HB.out)
              rw [r2, r3] at HBx
              have r0' : ¬ A = 0 := by omega
              have r0'' : (A == 0) = false := by simpa using r0'
              have r0c : ¬ A < 0 := by omega
              have hnp : 0 < n := by have h9 := List.length_pos_iff.2 r1; rw [HN.out] at h9; exact h9
              have hcp : 0 < c := by have h9 := HB.out.own.le; rw [HN.out] at h9; omega
              obtain ⟨g, off, rfl⟩ := its_some HB.out.own hcp
              clear r0' r1 r2 r3
              generalize unN l T = E0 at *
              go_wp2_with fail
              refine HBx.out.mono ?_
              rintro e w3 ⟨rfl, hB⟩
              have HB3 := hide hB
              have HBl := hide (a_lock HO.out hlen9.out T hB)
              rw [r4, r5] at HBl
              clear hB HBx HB r4 r5
              go_wp2_with fail
              refine HBl.out.mono ?_
              rintro e w4 ⟨rfl, hB⟩
              have HB4 := hide hB
              have HBt := hide (a_try HO.out hlen9.out T hB)
              rw [r6, r7] at HBt
              clear hB HBl HB3 r6 r7
              go_wp2_with fail
              refine HBt.out.mono ?_
              rintro e w5 ⟨rfl, hB⟩
              have HB5 := hide hB
              clear hB HBt HB4
              go_wp2_with fail
              have HNE : Hid (l ≠ []) := fun e => by have h9 := HN.out; rw [e] at h9; first | (simp at h9; done) | (simp at h9; omega)
              have e0 := first_cell HB5.out.own HNE.out
              have HHo := hide (fun q => a_holder (HB5.out.below (below_drewN _ q)))
              have y1 : (0 : Int) < (n : Int) := by omega
              have y2 : ((n : Int) == 0) = false := by first | (simp; done) | (simp; omega)
              have y4 : decide ((0 : Int) < (n : Int)) = true := decide_eq_true y1
              clear HNE
              generalize hold (l) = X at *
              have y3 : (X != X) = false := by simp
              go_quiet ((go_at_call 16; exact Calls.quiet_of_same (HHo.out _)))
              go_wp2_with fail
              go_roundw
              case rel => exact ⟨k + 1, n, l, some ⟨g, off, none⟩, c, rfl, by go_num, hk1.1, hk1.2, by omega, HO, HN, HB5.out.below (below_drewN _ _)⟩
              case measure => simp [intOf]; omega
      · have q2' : ¬ (k : Int) < 60 := by omega
        go_wp2_with fail
        refine (awake_any _).mono ?_
        rintro e w3 ⟨rfl, hb3⟩
        have hb4 := (HB.out.below hb3).2.2
        clear HB hb3
        go_wp2
        go_ret
        exact ⟨rfl, hb4⟩
    · have q1' : ¬ (k : Int) < (l1 : Int) := by omega
      go_wp2_with fail
      refine (awake_any _).mono ?_
      rintro e w3 ⟨rfl, hb3⟩
      have hb4 := (HB.out.below hb3).2.2
      clear HB hb3
      go_wp2
      go_ret
      exact ⟨rfl, hb4⟩

end Go.Proofs.Ytbagkmijnjjmgaa
