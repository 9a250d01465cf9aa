/-
  What the law SemaKeeps asks comes out true at any byte and any list of acts.
-/
import Derived.Test.YtgldhlcdnijecaaKCall
namespace Go.Proofs.Ytgldhlcdnijecaa
open Go.RowKit

set_option maxRecDepth 20000 in
set_option maxHeartbeats 8000000 in
set_option linter.unusedSimpArgs false in
theorem keeps_walk (size : Int) (hsz : 0 ≤ size ∧ size ≤ 255) (a1 : Option Addr) (l1 c1 : Nat) (h1 : l1 ≤ c1) (g1 : c1 ≤ maxLen) (w : World) (hact1 : Acts w a1 l1) : Calls Try.prog 4 #[.int .u8 size, .slice a1 l1 c1] w fun e w' => e = .returned (.bool true) ∧ Below w.heap.size w w' := by
  have hl1 : l1 ≤ maxLen := Nat.le_trans h1 g1
  unfold maxLen at hl1
  clear h1 g1
  have HA1 := hide hact1
  clear hact1
  obtain ⟨m, hm, hm16, hm3, hm64⟩ := u8_mod hsz 16 (by omega) (by omega)
  obtain ⟨N, hN⟩ : ∃ N, 1 + (m : Int) = N := ⟨_, rfl⟩
  have hN1 : 1 ≤ N := by omega
  have hN16 : N ≤ 16 := by omega
  have HM1 : Hid (size.tmod 16 = (m : Int) ∧ wrap64 (m : Int) = (m : Int) ∧ (IntKind.i64.wrap (1 + (m : Int)) = 1 + (m : Int) ∧ wrap64 (1 + (m : Int)) = 1 + (m : Int))) := ⟨hm, hm64, one_more hm16⟩
  have hnew : newS (1 + (m : Int)) = ⟨N, N, []⟩ := by
    have : sizeOk (1 + (m : Int)) = N := by unfold sizeOk; omega
    unfold newS
    rw [this]
  have N0 := x_new (w := w) (1 + (m : Int))
  rw [hnew] at N0
  have HN0 := hide N0
  have HEN := hide hN
  have HNR : Hid (1 ≤ N ∧ N ≤ 16) := ⟨hN1, hN16⟩
  have ok0 : Okw ⟨N, N, []⟩ := ⟨hN1, hN16, by show 0 ≤ N; omega, Int.le_refl _, fun x hx => by simp at hx⟩
  have HI0 : Hid (Inv ⟨N, N, []⟩ [] []) := hide ⟨ok0, List.nodup_nil, rfl, fun x hx => by simp at hx⟩
  clear N0 hnew hN hm hm16 hm3 hm64 hsz hN1 hN16 ok0
  obtain ⟨y1, y2, y3, y4⟩ := HM1.out
  go_enter Try.func4, Try.ntmps4
  go_wp2_with fail
  clear y1 y2 y3 y4 HM1
  refine HN0.out.mono ?_
  rintro e w1 ⟨rfl, hA⟩
  have HX := hide hA
  clear hA HN0
  obtain ⟨M, hM⟩ : ∃ M, M = w.heap.size := ⟨_, rfl⟩
  rw [← hM] at HX ⊢
  clear hM
  rw [HEN.out]
  clear HEN
  have HK0 := hide (KX.start HX.out)
  clear HX
  go_wp2_with fail
  go_loopw [7, 8, 9, 10] (fun v7 v8 v9 v10 wr => ∃ (k : Nat) (s : Sm) (who many : List Int) (T : Int) (a7 : Option Addr) (d7 : Nat) (a8 : Option Addr) (d8 : Nat), v7 = .slice a7 who.length d7 ∧ v8 = .slice a8 who.length d8 ∧ v9 = .int .i64 T ∧ v10 = .int .i64 (k : Int) ∧ k ≤ 60 ∧ k ≤ l1 ∧ Hid (T = N - s.f) ∧ Hid (Inv s who many) ∧ Hid (s.n = N) ∧ who.length ≤ k ∧ s.q.length ≤ k ∧ Hid (KX w M none0 s who many (.slice a7 who.length d7) (.slice a8 who.length d8) wr)) (fun _ _ _ v10 _ => 60 - (intOf v10).toNat)
  case atStart => exact ⟨0, ⟨N, N, []⟩, [], [], 0, _, _, _, _, rfl, rfl, rfl, rfl, by omega, by omega, hide (by show 0 = N - N; omega), HI0, hide rfl, by simp, by simp, HK0⟩
  case round =>
    clear HK0 HI0
    obtain ⟨k, s, who, many, T, a7, d7, a8, d8, rfl, rfl, rfl, rfl, hk60, hkl, HT, HINV, HN, hP, hQ, HK⟩ := hrel
    by_cases q : k < l1 ∧ k < 60
    · obtain ⟨q1, q2⟩ := q
      have q1' : (k : Int) < (l1 : Int) := by omega
      have q2' : (k : Int) < 60 := by omega
      have q0' : (0 : Int) ≤ (k : Int) := by omega
      obtain ⟨b1, off1, d, t, n, rfl, hb1, p0, p1, p2, hd, ht, hn⟩ := HA1.out k q1
      have p0' := ((bcell HK.out.1.2.2).1 _ _ hb1).trans p0
      have p1' := ((bcell HK.out.1.2.2).1 _ _ hb1).trans p1
      have p2' := ((bcell HK.out.1.2.2).1 _ _ hb1).trans p2
      obtain ⟨dm, hdm, hd4, _, _⟩ := u8_mod hd 4 (by omega) (by omega)
      have HDM : Hid (d.tmod 4 = (dm : Int) ∧ dm < 4) := ⟨hdm, hd4⟩
      obtain ⟨b, hb⟩ : ∃ b, b = wr.heap.size := ⟨_, rfl⟩
      obtain ⟨w2, hw2⟩ : ∃ w2, w2 = (wr.alloc (.cells #[.int .u8 d, .int .i64 t, .int .i64 n] 29)).alloc (.cells #[] 3) := ⟨_, rfl⟩
      have HK2 : Hid (KX w M (fun k => k = b) s who many (.slice a7 who.length d7) (.slice a8 who.length d8) w2) := hide (by rw [hw2, hb]; exact HK.out.boxed _ _)
      have hbc : ∀ j, w2.cell? ⟨b, j, none⟩ = (#[Value.int .u8 d, .int .i64 t, .int .i64 n])[j]? := fun j => by
        rw [hw2, hb]
        have hh : ((wr.alloc (.cells #[.int .u8 d, .int .i64 t, .int .i64 n] 29)).alloc (.cells #[] 3)).heap[wr.heap.size]? = some (.cells #[.int .u8 d, .int .i64 t, .int .i64 n] 29 (0, 0)) := by
          rw [Lib.alloc_old _ _ _ (by simp)]
          exact heap_alloc_new _ _
        exact Lib.cell_of_heap hh j
      have HBX2 := hide hbc
      have bc0 : w2.cell? ⟨b, 0, none⟩ = some (.int .u8 d) := hbc 0
      have bc1 : w2.cell? ⟨b, 1, none⟩ = some (.int .i64 t) := hbc 1
      have bc2 : w2.cell? ⟨b, 2, none⟩ = some (.int .i64 n) := hbc 2
      have HWT : Hid (wr.heap.size + 1 = b + 1) := hide (by rw [hb])
      have HBH : Hid (w2.heap[b]? = some (.cells #[.int .u8 d, .int .i64 t, .int .i64 n] 29 (0, 0))) := by
        rw [hw2, hb]
        refine hide ?_
        rw [Lib.alloc_old _ _ _ (by simp)]
        exact heap_alloc_new _ _
      have HDR := hide (k_drop t HINV.out HN.out HT.out hP hQ hk60 HK2.out)
      have HRL := hide (k_rel n HINV.out HN.out HT.out hP hQ hk60 HK2.out)
      have HAQ := hide (k_acq t n HINV.out HN.out HT.out hP hQ hk60 HK2.out)
      have HLS : Hid (relE s n = 0 → IntKind.i64.wrap (T - n) = T - n ∧ wrap64 (T - n) = T - n) := fun e => k_less HINV.out HN.out HT.out e
      have HMR : Hid (acqE s t n = 0 → IntKind.i64.wrap (T + n) = T + n ∧ wrap64 (T + n) = T + n) := fun e => k_more HINV.out HN.out HT.out e
      clear p0 p1 p2 hd ht hn hdm hd4 hbc HK
      go_upto_block 2 with fail
      rw [← hw2, ← hb]
      clear hw2 hb HBX2 p0' p1' p2'
      go_cut [7, 8, 9, 12, 44] (fun v7 v8 v9 v12 _ wx => KC w M N k v7 v8 v9 v12 wx)
      case first =>
        clear HWT HT HN HINV HNR hl1 hkl q1 q1' q2' q0'
        obtain ⟨hdm, hd4⟩ := HDM.out
        clear HDM
        rcases four hd4 with rfl | rfl | rfl | rfl
        · have hd0 : d.tmod 4 = 0 := hdm
          clear hdm hd4
          clear HRL HAQ HLS HMR
          go_wp2_with fail
          refine HDR.out.mono ?_
          rintro e w3 ⟨a, c, rfl, hkc⟩
          go_wp2_with fail
          go_meet
          exact hkc
        · have hd1 : d.tmod 4 = 1 := hdm
          clear hdm hd4
          clear HDR HAQ HMR
          by_cases e : relE s n = 0
          · obtain ⟨z1, z2⟩ := HLS.out e
            have HR := HRL.out
            rw [e, if_pos rfl] at HR
            have HR2 := hide HR
            clear HR HRL HLS e
            go_wp2_with fail
            refine HR2.out.mono ?_
            rintro e w3 ⟨a, c, rfl, hkc, hkp⟩
            have bc3 : w3.cell? ⟨b, 2, none⟩ = some (.int .i64 n) := (World.cell?_of_block (hkp.1 b rfl)).trans bc2
            go_wp2_with fail
            go_meet
            exact hkc
          · have HR := HRL.out
            rw [if_neg e] at HR
            have HR2 := hide HR
            have e0 : (relE s n == (0 : Int)) = false := by simpa using e
            clear HR HRL HLS e
            generalize relE s n = E at *
            go_wp2_with fail
            refine HR2.out.mono ?_
            rintro e w3 ⟨a, c, rfl, hkc, _⟩
            go_wp2_with fail
            go_meet
            exact hkc
        · have hd2 : d.tmod 4 = 2 := hdm
          clear hdm hd4
          clear HDR HRL HLS
          rcases HAQ.out with ⟨e, HR⟩ | ⟨e, hQ2, n2, i2, g2, HR⟩ | ⟨E, e1, e2, HR⟩
          · obtain ⟨z1, z2⟩ := HMR.out e
            have HR2 := hide HR
            clear HR HAQ HMR e
            go_wp2_with fail
            refine HR2.out.mono ?_
            rintro e w3 ⟨rfl, hkc, hkp⟩
            have bc3 : w3.cell? ⟨b, 2, none⟩ = some (.int .i64 n) := (World.cell?_of_block (hkp.1 b rfl)).trans bc2
            go_wp2_with fail
            go_meet
            exact hkc _
          · have HR2 := hide HR
            have HI2 := hide i2
            have HG2 := hide g2
            have HN2 := hide n2
            clear HR HAQ HMR e i2 g2 n2
            generalize acqS s t n = s2 at *
            go_wp2_with fail
            refine HR2.out.mono ?_
            rintro e w4 ⟨rfl, hk4, hkp⟩
            have hbh : w4.heap[b]? = some (.cells #[.int .u8 d, .int .i64 t, .int .i64 n] 29 (0, 0)) := (hkp.1 b rfl).trans HBH.out
            have hbl : b < w4.heap.size := (Array.getElem?_eq_some_iff.1 hbh).1
            have HK4 := hide hk4
            have K7 := hide hk4.2.1
            have K8 := hide hk4.2.2.1
            have DJ := hide hk4.2.2.2
            have NB7 := hide (row_box hk4.2.1 hbh (by decide))
            have NB8 := hide (row_box hk4.2.2.1 hbh (by decide))
            have NE7 : Hid (∀ g, w4.heap.size ≤ g → some g ≠ (Value.slice a7 who.length d7).ownBlock) := fun g hg e => by have := (hk4.2.1.lt g e.symm).2; omega
            have HBC : Hid (∀ W : World, W.heap[b]? = w4.heap[b]? → W.cell? ⟨b, 1, none⟩ = some (.int .i64 t) ∧ W.cell? ⟨b, 2, none⟩ = some (.int .i64 n)) := fun W h => ⟨Lib.cell_of_heap (h.trans hbh) 1, Lib.cell_of_heap (h.trans hbh) 2⟩
            have HL1 : Hid ((who ++ [t]).length = who.length + 1) := hide (by simp)
            have hP1 : who.length + 1 ≤ k + 1 := by omega
            have hsz4 := hk4.1.size
            clear hk4 hkp hbh HR2 HK2 HBH bc0 bc1 bc2
            go_wp2_with fail
            refine wp_region_noPanic ?_
            refine wp_region_last_drew (A := fun _ => true) (S := fun w' => w'.cell? ⟨b, 1, none⟩ = some (.int .i64 t) ∧ w'.cell? ⟨b, 2, none⟩ = some (.int .i64 n)) (by kernel_rfl) ?_ (fun hHeld => ?_)
            · exact HBC.out _ rfl
            refine wpAnyL_take (i := 0) (v := ?_) rfl (by kernel_rfl) (by kernel_rfl) (by kernel_rfl) (by kernel_rfl) (fun _ _ _ h => h) (Or.inl ⟨by rfl, ?_⟩) (by first | trivial | assumption) ?_
            rotate_left 1
            · (intro w hSw; (try dsimp only at hSw); go_simp; all_goals with_reducible rfl)
            try simp only [Act.put, List.getElem_toArray, List.getElem_cons_zero, List.getElem_cons_succ, List.setIfInBounds_toArray, List.set_cons_zero, List.set_cons_succ]
            refine wpAnyL_take (i := 1) (v := ?_) rfl (by kernel_rfl) (by kernel_rfl) (by kernel_rfl) (by kernel_rfl) (fun _ _ _ h => h) (Or.inl ⟨by rfl, ?_⟩) (by first | trivial | assumption) ?_
            rotate_left 1
            · (intro w hSw; (try dsimp only at hSw); go_simp; all_goals with_reducible rfl)
            try simp only [Act.put, List.getElem_toArray, List.getElem_cons_zero, List.getElem_cons_succ, List.setIfInBounds_toArray, List.set_cons_zero, List.set_cons_succ]
            refine wpAnyL_take (i := 2) (v := ?_) rfl (by kernel_rfl) (by kernel_rfl) (by kernel_rfl) (by kernel_rfl) (fun _ _ _ h => h) (Or.inl ⟨by rfl, ?_⟩) (by first | trivial | assumption) ?_
            rotate_left 1
            · (intro w hSw; (try dsimp only at hSw); go_simp; all_goals with_reducible rfl)
            try simp only [Act.put, List.getElem_toArray, List.getElem_cons_zero, List.getElem_cons_succ, List.setIfInBounds_toArray, List.set_cons_zero, List.set_cons_succ]
            refine wpAnyL_take (i := 5) (v := ?_) rfl (by kernel_rfl) (by kernel_rfl) (by kernel_rfl) (by kernel_rfl) (fun _ _ _ h => h) (Or.inl ⟨by rfl, ?_⟩) (by first | trivial | assumption) ?_
            rotate_left 1
            · (intro w hSw; (try dsimp only at hSw); go_simp; all_goals with_reducible rfl)
            try simp only [Act.put, List.getElem_toArray, List.getElem_cons_zero, List.getElem_cons_succ, List.setIfInBounds_toArray, List.set_cons_zero, List.set_cons_succ]
            refine wpAnyL_take (i := 6) (v := ?_) rfl (by kernel_rfl) (by kernel_rfl) (by kernel_rfl) (by kernel_rfl) (fun _ _ _ h => h) (Or.inl ⟨by rfl, ?_⟩) (by first | trivial | assumption) ?_
            rotate_left 1
            · (intro w hSw; (try dsimp only at hSw); go_simp; all_goals with_reducible rfl)
            try simp only [Act.put, List.getElem_toArray, List.getElem_cons_zero, List.getElem_cons_succ, List.setIfInBounds_toArray, List.set_cons_zero, List.set_cons_succ]
            refine wpAnyL_take (i := 7) (v := ?_) rfl (by kernel_rfl) (by kernel_rfl) (by kernel_rfl) (by kernel_rfl) (fun _ _ _ h => h) (Or.inl ⟨by rfl, ?_⟩) (by first | trivial | assumption) ?_
            rotate_left 1
            · (intro w hSw; (try dsimp only at hSw); go_simp; all_goals with_reducible rfl)
            try simp only [Act.put, List.getElem_toArray, List.getElem_cons_zero, List.getElem_cons_succ, List.setIfInBounds_toArray, List.set_cons_zero, List.set_cons_succ]
            refine wpAnyL_ready (rs := [3, 8]) (by kernel_rfl) (by simp) ?_
            refine AllReadyL.cons rfl (fun K hK => ?_) ?_
            · go_simp
              refine hK.out _ _ ?_ (fun hHeld => ?_)
              · (first | exact HBC.out _ (Lib.alloc_old _ _ _ hbl) | exact HBC.out _ ((Lib.alloc_old _ _ _ (by simp; omega)).trans (Lib.alloc_old _ _ _ hbl)) | exact ⟨c6a, c6b⟩ | exact ⟨c5a, c5b⟩ | exact HBC.out _ ((Lib.alloc_old _ _ _ (Nat.lt_of_lt_of_le hbl hz5)).trans (hm5.block b hbl NB7.out)))
              clear hK K
              try simp only [Act.put, List.getElem_toArray, List.getElem_cons_zero, List.getElem_cons_succ, List.setIfInBounds_toArray, List.set_cons_zero, List.set_cons_succ]
              refine wpAnyL_ready (rs := [4, 8]) (by kernel_rfl) (by simp) ?_
              refine AllReadyL.cons rfl (fun K hK => ?_) ?_
              · (refine step_append_z _ (by rfl) _ _ (by rfl) w.heap.size (.slice a7 who.length d7) who.length who (by rfl) (owns_below K7.out (by repeat (first | assumption | exact Below.refl _ _ | refine Below.alloc ?_ (by first | omega | (simp <;> omega)) _ | refine Below.drew ?_))) _ 1 1 [t] (by rfl) rfl (one_z (by simp <;> omega) (by simp)) (by omega) (by simp; omega) ?_; intro a5 c5 w5 ho5 hg5 hat5; have hm5 := grown_movB (w4 := w4) (by repeat (first | assumption | exact Below.refl _ _ | refine Below.alloc ?_ (by first | omega | (simp <;> omega)) _ | refine Below.drew ?_)) hg5; have K85 := owns_far K8.out (fun k hk => hm5.block k (K8.out.lt k hk).2 (fun e => DJ.out k e hk)); have hz5 := hm5.size; obtain ⟨c5a, c5b⟩ := HBC.out w5 (hm5.block b hbl NB7.out))
                refine hK.out _ _ ?_ (fun hHeld => ?_)
                · (first | exact HBC.out _ (Lib.alloc_old _ _ _ hbl) | exact HBC.out _ ((Lib.alloc_old _ _ _ (by simp; omega)).trans (Lib.alloc_old _ _ _ hbl)) | exact ⟨c6a, c6b⟩ | exact ⟨c5a, c5b⟩ | exact HBC.out _ ((Lib.alloc_old _ _ _ (Nat.lt_of_lt_of_le hbl hz5)).trans (hm5.block b hbl NB7.out)))
                clear hK K
                try simp only [Act.put, List.getElem_toArray, List.getElem_cons_zero, List.getElem_cons_succ, List.setIfInBounds_toArray, List.set_cons_zero, List.set_cons_succ]
                refine wpAnyL_ready (rs := [8]) (by kernel_rfl) (by simp) ?_
                refine AllReadyL.cons rfl (fun K hK => ?_) ?_
                · go_simp
                  refine hK.out _ _ ?_ (fun hHeld => ?_)
                  · (first | exact HBC.out _ (Lib.alloc_old _ _ _ hbl) | exact HBC.out _ ((Lib.alloc_old _ _ _ (by simp; omega)).trans (Lib.alloc_old _ _ _ hbl)) | exact ⟨c6a, c6b⟩ | exact ⟨c5a, c5b⟩ | exact HBC.out _ ((Lib.alloc_old _ _ _ (Nat.lt_of_lt_of_le hbl hz5)).trans (hm5.block b hbl NB7.out)))
                  clear hK K
                  try simp only [Act.put, List.getElem_toArray, List.getElem_cons_zero, List.getElem_cons_succ, List.setIfInBounds_toArray, List.set_cons_zero, List.set_cons_succ]
                  refine wpAnyL_ready (rs := [9]) (by kernel_rfl) (by simp) ?_
                  refine AllReadyL.cons rfl (fun K hK => ?_) ?_
                  · (refine step_append_z _ (by rfl) _ _ (by rfl) w.heap.size (.slice a8 who.length d8) who.length many (by rfl) (owns_below K85 (by repeat (first | assumption | exact Below.refl _ _ | refine Below.alloc ?_ (by first | omega | (simp <;> omega)) _ | refine Below.drew ?_))) _ 1 1 [n] (by rfl) rfl (by first | exact one_z (by simp <;> omega) (by simp) | exact one_z (by have := hg5.size; simp at this; omega) (hg5.cell (by simp) (by first | exact NE7.out _ (Nat.le_succ _) | exact NE7.out _ (Nat.le_refl _)))) (by omega) (by first | omega | (simp; omega)) ?_; intro a6 c6 w6 ho6 hg6 hat6; have hm6 := grown_movB (w4 := w5) (by repeat (first | assumption | exact Below.refl _ _ | refine Below.alloc ?_ (by first | omega | (simp <;> omega)) _ | refine Below.drew ?_)) hg6; obtain ⟨c6a, c6b⟩ := HBC.out w6 ((hm6.block b (Nat.lt_of_lt_of_le hbl (by first | exact hz5 | (simp only [World.size_alloc]; omega))) NB8.out).trans (hm5.block b hbl NB7.out)))
                    refine hK.out _ _ ?_ (fun hHeld => ?_)
                    · (first | exact HBC.out _ (Lib.alloc_old _ _ _ hbl) | exact HBC.out _ ((Lib.alloc_old _ _ _ (by simp; omega)).trans (Lib.alloc_old _ _ _ hbl)) | exact ⟨c6a, c6b⟩ | exact ⟨c5a, c5b⟩ | exact HBC.out _ ((Lib.alloc_old _ _ _ (Nat.lt_of_lt_of_le hbl hz5)).trans (hm5.block b hbl NB7.out)))
                    clear hK K
                    try simp only [Act.put, List.getElem_toArray, List.getElem_cons_zero, List.getElem_cons_succ, List.setIfInBounds_toArray, List.set_cons_zero, List.set_cons_succ]
                    refine wpAnyL_take (i := 10) (v := ?_) rfl (by kernel_rfl) (by kernel_rfl) (by kernel_rfl) (by kernel_rfl) (fun _ _ _ h => h) (Or.inl ⟨by rfl, ?_⟩) (by first | trivial | assumption) ?_
                    rotate_left 1
                    · (intro w hSw; (try dsimp only at hSw); go_simp; all_goals with_reducible rfl)
                    try simp only [Act.put, List.getElem_toArray, List.getElem_cons_zero, List.getElem_cons_succ, List.setIfInBounds_toArray, List.set_cons_zero, List.set_cons_succ]
                    refine wpAnyL_take (i := 11) (v := ?_) rfl (by kernel_rfl) (by kernel_rfl) (by kernel_rfl) (by kernel_rfl) (fun _ _ _ h => h) (Or.inl ⟨by rfl, ?_⟩) (by first | trivial | assumption) ?_
                    rotate_left 1
                    · (intro w hSw; (try dsimp only at hSw); go_simp; all_goals with_reducible rfl)
                    try simp only [Act.put, List.getElem_toArray, List.getElem_cons_zero, List.getElem_cons_succ, List.setIfInBounds_toArray, List.set_cons_zero, List.set_cons_succ]
                    refine wpAnyL_done (by kernel_rfl) ?_ _
                    refine NoPanic.normal ?_
                    have HKF : Hid (KX w M none0 s2 (who ++ [t]) (many ++ [n]) (.slice a5 (who.length + 1) c5) (.slice a6 (who.length + 1) c6) w6) := hide (KX.two (x7 := .slice a5 (who.length + 1) c5) (x8 := .slice a6 (who.length + 1) c6) HK4.out (by repeat (first | assumption | exact Below.refl _ _ | refine Below.alloc ?_ (by first | omega | (simp <;> omega)) _ | refine Below.drew ?_)) hg5 (by simpa using hat5) (by rw [HL1.out]; exact ho5) (by repeat (first | assumption | exact Below.refl _ _ | refine Below.alloc ?_ (by first | omega | (simp <;> omega)) _ | refine Below.drew ?_)) hg6 (by simpa using hat6) (by rw [HL1.out]; exact ho6))
                    have HZF : Hid (RowZ w6 (some ⟨b + 1, 0, none⟩) []) := hide (rowZ_nil _ _)
                    clear ho5 hg5 hat5 ho6 hg6 hat6 hm5 hm6 K85 hz5 c5a c5b c6a c6b hHeld
                    go_wp2_with fail
                    go_meet
                    exact ⟨s2, who ++ [t], many ++ [n], [], [], T, a5, c5, a6, c6, some ⟨b + 1, 0, none⟩, 0, by rw [HL1.out], by rw [HL1.out], rfl, rfl, HI2, HG2, HN2, by rw [HL1.out]; exact hP1, hQ2, by simp, by rw [HL1.out]; exact HKF, HZF⟩
                  exact AllReadyL.nil
                exact AllReadyL.nil
              refine AllReadyL.cons rfl (fun K hK => ?_) ?_
              · go_simp
                refine hK.out _ _ ?_ (fun hHeld => ?_)
                · (first | exact HBC.out _ (Lib.alloc_old _ _ _ hbl) | exact HBC.out _ ((Lib.alloc_old _ _ _ (by simp; omega)).trans (Lib.alloc_old _ _ _ hbl)) | exact ⟨c6a, c6b⟩ | exact ⟨c5a, c5b⟩ | exact HBC.out _ ((Lib.alloc_old _ _ _ (Nat.lt_of_lt_of_le hbl hz5)).trans (hm5.block b hbl NB7.out)))
                clear hK K
                try simp only [Act.put, List.getElem_toArray, List.getElem_cons_zero, List.getElem_cons_succ, List.setIfInBounds_toArray, List.set_cons_zero, List.set_cons_succ]
                refine wpAnyL_ready (rs := [4]) (by kernel_rfl) (by simp) ?_
                refine AllReadyL.cons rfl (fun K hK => ?_) ?_
                · (refine step_append_z _ (by rfl) _ _ (by rfl) w.heap.size (.slice a7 who.length d7) who.length who (by rfl) (owns_below K7.out (by repeat (first | assumption | exact Below.refl _ _ | refine Below.alloc ?_ (by first | omega | (simp <;> omega)) _ | refine Below.drew ?_))) _ 1 1 [t] (by rfl) rfl (one_z (by simp <;> omega) (by simp)) (by omega) (by simp; omega) ?_; intro a5 c5 w5 ho5 hg5 hat5; have hm5 := grown_movB (w4 := w4) (by repeat (first | assumption | exact Below.refl _ _ | refine Below.alloc ?_ (by first | omega | (simp <;> omega)) _ | refine Below.drew ?_)) hg5; have K85 := owns_far K8.out (fun k hk => hm5.block k (K8.out.lt k hk).2 (fun e => DJ.out k e hk)); have hz5 := hm5.size; obtain ⟨c5a, c5b⟩ := HBC.out w5 (hm5.block b hbl NB7.out))
                  refine hK.out _ _ ?_ (fun hHeld => ?_)
                  · (first | exact HBC.out _ (Lib.alloc_old _ _ _ hbl) | exact HBC.out _ ((Lib.alloc_old _ _ _ (by simp; omega)).trans (Lib.alloc_old _ _ _ hbl)) | exact ⟨c6a, c6b⟩ | exact ⟨c5a, c5b⟩ | exact HBC.out _ ((Lib.alloc_old _ _ _ (Nat.lt_of_lt_of_le hbl hz5)).trans (hm5.block b hbl NB7.out)))
                  clear hK K
                  try simp only [Act.put, List.getElem_toArray, List.getElem_cons_zero, List.getElem_cons_succ, List.setIfInBounds_toArray, List.set_cons_zero, List.set_cons_succ]
                  refine wpAnyL_ready (rs := [9]) (by kernel_rfl) (by simp) ?_
                  refine AllReadyL.cons rfl (fun K hK => ?_) ?_
                  · (refine step_append_z _ (by rfl) _ _ (by rfl) w.heap.size (.slice a8 who.length d8) who.length many (by rfl) (owns_below K85 (by repeat (first | assumption | exact Below.refl _ _ | refine Below.alloc ?_ (by first | omega | (simp <;> omega)) _ | refine Below.drew ?_))) _ 1 1 [n] (by rfl) rfl (by first | exact one_z (by simp <;> omega) (by simp) | exact one_z (by have := hg5.size; simp at this; omega) (hg5.cell (by simp) (by first | exact NE7.out _ (Nat.le_succ _) | exact NE7.out _ (Nat.le_refl _)))) (by omega) (by first | omega | (simp; omega)) ?_; intro a6 c6 w6 ho6 hg6 hat6; have hm6 := grown_movB (w4 := w5) (by repeat (first | assumption | exact Below.refl _ _ | refine Below.alloc ?_ (by first | omega | (simp <;> omega)) _ | refine Below.drew ?_)) hg6; obtain ⟨c6a, c6b⟩ := HBC.out w6 ((hm6.block b (Nat.lt_of_lt_of_le hbl (by first | exact hz5 | (simp only [World.size_alloc]; omega))) NB8.out).trans (hm5.block b hbl NB7.out)))
                    refine hK.out _ _ ?_ (fun hHeld => ?_)
                    · (first | exact HBC.out _ (Lib.alloc_old _ _ _ hbl) | exact HBC.out _ ((Lib.alloc_old _ _ _ (by simp; omega)).trans (Lib.alloc_old _ _ _ hbl)) | exact ⟨c6a, c6b⟩ | exact ⟨c5a, c5b⟩ | exact HBC.out _ ((Lib.alloc_old _ _ _ (Nat.lt_of_lt_of_le hbl hz5)).trans (hm5.block b hbl NB7.out)))
                    clear hK K
                    try simp only [Act.put, List.getElem_toArray, List.getElem_cons_zero, List.getElem_cons_succ, List.setIfInBounds_toArray, List.set_cons_zero, List.set_cons_succ]
                    refine wpAnyL_take (i := 10) (v := ?_) rfl (by kernel_rfl) (by kernel_rfl) (by kernel_rfl) (by kernel_rfl) (fun _ _ _ h => h) (Or.inl ⟨by rfl, ?_⟩) (by first | trivial | assumption) ?_
                    rotate_left 1
                    · (intro w hSw; (try dsimp only at hSw); go_simp; all_goals with_reducible rfl)
                    try simp only [Act.put, List.getElem_toArray, List.getElem_cons_zero, List.getElem_cons_succ, List.setIfInBounds_toArray, List.set_cons_zero, List.set_cons_succ]
                    refine wpAnyL_take (i := 11) (v := ?_) rfl (by kernel_rfl) (by kernel_rfl) (by kernel_rfl) (by kernel_rfl) (fun _ _ _ h => h) (Or.inl ⟨by rfl, ?_⟩) (by first | trivial | assumption) ?_
                    rotate_left 1
                    · (intro w hSw; (try dsimp only at hSw); go_simp; all_goals with_reducible rfl)
                    try simp only [Act.put, List.getElem_toArray, List.getElem_cons_zero, List.getElem_cons_succ, List.setIfInBounds_toArray, List.set_cons_zero, List.set_cons_succ]
                    refine wpAnyL_done (by kernel_rfl) ?_ _
                    refine NoPanic.normal ?_
                    have HKF : Hid (KX w M none0 s2 (who ++ [t]) (many ++ [n]) (.slice a5 (who.length + 1) c5) (.slice a6 (who.length + 1) c6) w6) := hide (KX.two (x7 := .slice a5 (who.length + 1) c5) (x8 := .slice a6 (who.length + 1) c6) HK4.out (by repeat (first | assumption | exact Below.refl _ _ | refine Below.alloc ?_ (by first | omega | (simp <;> omega)) _ | refine Below.drew ?_)) hg5 (by simpa using hat5) (by rw [HL1.out]; exact ho5) (by repeat (first | assumption | exact Below.refl _ _ | refine Below.alloc ?_ (by first | omega | (simp <;> omega)) _ | refine Below.drew ?_)) hg6 (by simpa using hat6) (by rw [HL1.out]; exact ho6))
                    have HZF : Hid (RowZ w6 (some ⟨b + 1, 0, none⟩) []) := hide (rowZ_nil _ _)
                    clear ho5 hg5 hat5 ho6 hg6 hat6 hm5 hm6 K85 hz5 c5a c5b c6a c6b hHeld
                    go_wp2_with fail
                    go_meet
                    exact ⟨s2, who ++ [t], many ++ [n], [], [], T, a5, c5, a6, c6, some ⟨b + 1, 0, none⟩, 0, by rw [HL1.out], by rw [HL1.out], rfl, rfl, HI2, HG2, HN2, by rw [HL1.out]; exact hP1, hQ2, by simp, by rw [HL1.out]; exact HKF, HZF⟩
                  exact AllReadyL.nil
                exact AllReadyL.nil
              exact AllReadyL.nil
            refine AllReadyL.cons rfl (fun K hK => ?_) ?_
            · go_simp
              refine hK.out _ _ ?_ (fun hHeld => ?_)
              · (first | exact HBC.out _ (Lib.alloc_old _ _ _ hbl) | exact HBC.out _ ((Lib.alloc_old _ _ _ (by simp; omega)).trans (Lib.alloc_old _ _ _ hbl)) | exact ⟨c6a, c6b⟩ | exact ⟨c5a, c5b⟩ | exact HBC.out _ ((Lib.alloc_old _ _ _ (Nat.lt_of_lt_of_le hbl hz5)).trans (hm5.block b hbl NB7.out)))
              clear hK K
              try simp only [Act.put, List.getElem_toArray, List.getElem_cons_zero, List.getElem_cons_succ, List.setIfInBounds_toArray, List.set_cons_zero, List.set_cons_succ]
              refine wpAnyL_ready (rs := [3]) (by kernel_rfl) (by simp) ?_
              refine AllReadyL.cons rfl (fun K hK => ?_) ?_
              · go_simp
                refine hK.out _ _ ?_ (fun hHeld => ?_)
                · (first | exact HBC.out _ (Lib.alloc_old _ _ _ hbl) | exact HBC.out _ ((Lib.alloc_old _ _ _ (by simp; omega)).trans (Lib.alloc_old _ _ _ hbl)) | exact ⟨c6a, c6b⟩ | exact ⟨c5a, c5b⟩ | exact HBC.out _ ((Lib.alloc_old _ _ _ (Nat.lt_of_lt_of_le hbl hz5)).trans (hm5.block b hbl NB7.out)))
                clear hK K
                try simp only [Act.put, List.getElem_toArray, List.getElem_cons_zero, List.getElem_cons_succ, List.setIfInBounds_toArray, List.set_cons_zero, List.set_cons_succ]
                refine wpAnyL_ready (rs := [4]) (by kernel_rfl) (by simp) ?_
                refine AllReadyL.cons rfl (fun K hK => ?_) ?_
                · (refine step_append_z _ (by rfl) _ _ (by rfl) w.heap.size (.slice a7 who.length d7) who.length who (by rfl) (owns_below K7.out (by repeat (first | assumption | exact Below.refl _ _ | refine Below.alloc ?_ (by first | omega | (simp <;> omega)) _ | refine Below.drew ?_))) _ 1 1 [t] (by rfl) rfl (one_z (by simp <;> omega) (by simp)) (by omega) (by simp; omega) ?_; intro a5 c5 w5 ho5 hg5 hat5; have hm5 := grown_movB (w4 := w4) (by repeat (first | assumption | exact Below.refl _ _ | refine Below.alloc ?_ (by first | omega | (simp <;> omega)) _ | refine Below.drew ?_)) hg5; have K85 := owns_far K8.out (fun k hk => hm5.block k (K8.out.lt k hk).2 (fun e => DJ.out k e hk)); have hz5 := hm5.size; obtain ⟨c5a, c5b⟩ := HBC.out w5 (hm5.block b hbl NB7.out))
                  refine hK.out _ _ ?_ (fun hHeld => ?_)
                  · (first | exact HBC.out _ (Lib.alloc_old _ _ _ hbl) | exact HBC.out _ ((Lib.alloc_old _ _ _ (by simp; omega)).trans (Lib.alloc_old _ _ _ hbl)) | exact ⟨c6a, c6b⟩ | exact ⟨c5a, c5b⟩ | exact HBC.out _ ((Lib.alloc_old _ _ _ (Nat.lt_of_lt_of_le hbl hz5)).trans (hm5.block b hbl NB7.out)))
                  clear hK K
                  try simp only [Act.put, List.getElem_toArray, List.getElem_cons_zero, List.getElem_cons_succ, List.setIfInBounds_toArray, List.set_cons_zero, List.set_cons_succ]
                  refine wpAnyL_ready (rs := [9]) (by kernel_rfl) (by simp) ?_
                  refine AllReadyL.cons rfl (fun K hK => ?_) ?_
                  · (refine step_append_z _ (by rfl) _ _ (by rfl) w.heap.size (.slice a8 who.length d8) who.length many (by rfl) (owns_below K85 (by repeat (first | assumption | exact Below.refl _ _ | refine Below.alloc ?_ (by first | omega | (simp <;> omega)) _ | refine Below.drew ?_))) _ 1 1 [n] (by rfl) rfl (by first | exact one_z (by simp <;> omega) (by simp) | exact one_z (by have := hg5.size; simp at this; omega) (hg5.cell (by simp) (by first | exact NE7.out _ (Nat.le_succ _) | exact NE7.out _ (Nat.le_refl _)))) (by omega) (by first | omega | (simp; omega)) ?_; intro a6 c6 w6 ho6 hg6 hat6; have hm6 := grown_movB (w4 := w5) (by repeat (first | assumption | exact Below.refl _ _ | refine Below.alloc ?_ (by first | omega | (simp <;> omega)) _ | refine Below.drew ?_)) hg6; obtain ⟨c6a, c6b⟩ := HBC.out w6 ((hm6.block b (Nat.lt_of_lt_of_le hbl (by first | exact hz5 | (simp only [World.size_alloc]; omega))) NB8.out).trans (hm5.block b hbl NB7.out)))
                    refine hK.out _ _ ?_ (fun hHeld => ?_)
                    · (first | exact HBC.out _ (Lib.alloc_old _ _ _ hbl) | exact HBC.out _ ((Lib.alloc_old _ _ _ (by simp; omega)).trans (Lib.alloc_old _ _ _ hbl)) | exact ⟨c6a, c6b⟩ | exact ⟨c5a, c5b⟩ | exact HBC.out _ ((Lib.alloc_old _ _ _ (Nat.lt_of_lt_of_le hbl hz5)).trans (hm5.block b hbl NB7.out)))
                    clear hK K
                    try simp only [Act.put, List.getElem_toArray, List.getElem_cons_zero, List.getElem_cons_succ, List.setIfInBounds_toArray, List.set_cons_zero, List.set_cons_succ]
                    refine wpAnyL_take (i := 10) (v := ?_) rfl (by kernel_rfl) (by kernel_rfl) (by kernel_rfl) (by kernel_rfl) (fun _ _ _ h => h) (Or.inl ⟨by rfl, ?_⟩) (by first | trivial | assumption) ?_
                    rotate_left 1
                    · (intro w hSw; (try dsimp only at hSw); go_simp; all_goals with_reducible rfl)
                    try simp only [Act.put, List.getElem_toArray, List.getElem_cons_zero, List.getElem_cons_succ, List.setIfInBounds_toArray, List.set_cons_zero, List.set_cons_succ]
                    refine wpAnyL_take (i := 11) (v := ?_) rfl (by kernel_rfl) (by kernel_rfl) (by kernel_rfl) (by kernel_rfl) (fun _ _ _ h => h) (Or.inl ⟨by rfl, ?_⟩) (by first | trivial | assumption) ?_
                    rotate_left 1
                    · (intro w hSw; (try dsimp only at hSw); go_simp; all_goals with_reducible rfl)
                    try simp only [Act.put, List.getElem_toArray, List.getElem_cons_zero, List.getElem_cons_succ, List.setIfInBounds_toArray, List.set_cons_zero, List.set_cons_succ]
                    refine wpAnyL_done (by kernel_rfl) ?_ _
                    refine NoPanic.normal ?_
                    have HKF : Hid (KX w M none0 s2 (who ++ [t]) (many ++ [n]) (.slice a5 (who.length + 1) c5) (.slice a6 (who.length + 1) c6) w6) := hide (KX.two (x7 := .slice a5 (who.length + 1) c5) (x8 := .slice a6 (who.length + 1) c6) HK4.out (by repeat (first | assumption | exact Below.refl _ _ | refine Below.alloc ?_ (by first | omega | (simp <;> omega)) _ | refine Below.drew ?_)) hg5 (by simpa using hat5) (by rw [HL1.out]; exact ho5) (by repeat (first | assumption | exact Below.refl _ _ | refine Below.alloc ?_ (by first | omega | (simp <;> omega)) _ | refine Below.drew ?_)) hg6 (by simpa using hat6) (by rw [HL1.out]; exact ho6))
                    have HZF : Hid (RowZ w6 (some ⟨b + 1, 0, none⟩) []) := hide (rowZ_nil _ _)
                    clear ho5 hg5 hat5 ho6 hg6 hat6 hm5 hm6 K85 hz5 c5a c5b c6a c6b hHeld
                    go_wp2_with fail
                    go_meet
                    exact ⟨s2, who ++ [t], many ++ [n], [], [], T, a5, c5, a6, c6, some ⟨b + 1, 0, none⟩, 0, by rw [HL1.out], by rw [HL1.out], rfl, rfl, HI2, HG2, HN2, by rw [HL1.out]; exact hP1, hQ2, by simp, by rw [HL1.out]; exact HKF, HZF⟩
                  exact AllReadyL.nil
                exact AllReadyL.nil
              exact AllReadyL.nil
            exact AllReadyL.nil
          · have HR2 := hide HR
            clear HR HAQ HMR
            go_wp2_with fail
            refine HR2.out.mono ?_
            rintro e w3 ⟨rfl, hkc⟩
            go_wp2_with fail
            go_meet
            exact hkc _
        · have hd3 : d.tmod 4 = 3 := hdm
          clear hdm hd4
          clear HDR HRL HLS
          rcases HAQ.out with ⟨e, HR⟩ | ⟨e, hQ2, n2, i2, g2, HR⟩ | ⟨E, e1, e2, HR⟩
          · obtain ⟨z1, z2⟩ := HMR.out e
            have HR2 := hide HR
            clear HR HAQ HMR e
            go_wp2_with fail
            refine HR2.out.mono ?_
            rintro e w3 ⟨rfl, hkc, hkp⟩
            have bc3 : w3.cell? ⟨b, 2, none⟩ = some (.int .i64 n) := (World.cell?_of_block (hkp.1 b rfl)).trans bc2
            go_wp2_with fail
            go_meet
            exact hkc _
          · have HR2 := hide HR
            have HI2 := hide i2
            have HG2 := hide g2
            have HN2 := hide n2
            clear HR HAQ HMR e i2 g2 n2
            generalize acqS s t n = s2 at *
            go_wp2_with fail
            refine HR2.out.mono ?_
            rintro e w4 ⟨rfl, hk4, hkp⟩
            have hbh : w4.heap[b]? = some (.cells #[.int .u8 d, .int .i64 t, .int .i64 n] 29 (0, 0)) := (hkp.1 b rfl).trans HBH.out
            have hbl : b < w4.heap.size := (Array.getElem?_eq_some_iff.1 hbh).1
            have HK4 := hide hk4
            have K7 := hide hk4.2.1
            have K8 := hide hk4.2.2.1
            have DJ := hide hk4.2.2.2
            have NB7 := hide (row_box hk4.2.1 hbh (by decide))
            have NB8 := hide (row_box hk4.2.2.1 hbh (by decide))
            have NE7 : Hid (∀ g, w4.heap.size ≤ g → some g ≠ (Value.slice a7 who.length d7).ownBlock) := fun g hg e => by have := (hk4.2.1.lt g e.symm).2; omega
            have HBC : Hid (∀ W : World, W.heap[b]? = w4.heap[b]? → W.cell? ⟨b, 1, none⟩ = some (.int .i64 t) ∧ W.cell? ⟨b, 2, none⟩ = some (.int .i64 n)) := fun W h => ⟨Lib.cell_of_heap (h.trans hbh) 1, Lib.cell_of_heap (h.trans hbh) 2⟩
            have HL1 : Hid ((who ++ [t]).length = who.length + 1) := hide (by simp)
            have hP1 : who.length + 1 ≤ k + 1 := by omega
            have hsz4 := hk4.1.size
            clear hk4 hkp hbh HR2 HK2 HBH bc0 bc1 bc2
            go_wp2_with fail
            refine wp_region_noPanic ?_
            refine wp_region_last_drew (A := fun _ => true) (S := fun w' => w'.cell? ⟨b, 1, none⟩ = some (.int .i64 t) ∧ w'.cell? ⟨b, 2, none⟩ = some (.int .i64 n)) (by kernel_rfl) ?_ (fun hHeld => ?_)
            · exact HBC.out _ rfl
            refine wpAnyL_take (i := 0) (v := ?_) rfl (by kernel_rfl) (by kernel_rfl) (by kernel_rfl) (by kernel_rfl) (fun _ _ _ h => h) (Or.inl ⟨by rfl, ?_⟩) (by first | trivial | assumption) ?_
            rotate_left 1
            · (intro w hSw; (try dsimp only at hSw); go_simp; all_goals with_reducible rfl)
            try simp only [Act.put, List.getElem_toArray, List.getElem_cons_zero, List.getElem_cons_succ, List.setIfInBounds_toArray, List.set_cons_zero, List.set_cons_succ]
            refine wpAnyL_take (i := 1) (v := ?_) rfl (by kernel_rfl) (by kernel_rfl) (by kernel_rfl) (by kernel_rfl) (fun _ _ _ h => h) (Or.inl ⟨by rfl, ?_⟩) (by first | trivial | assumption) ?_
            rotate_left 1
            · (intro w hSw; (try dsimp only at hSw); go_simp; all_goals with_reducible rfl)
            try simp only [Act.put, List.getElem_toArray, List.getElem_cons_zero, List.getElem_cons_succ, List.setIfInBounds_toArray, List.set_cons_zero, List.set_cons_succ]
            refine wpAnyL_take (i := 2) (v := ?_) rfl (by kernel_rfl) (by kernel_rfl) (by kernel_rfl) (by kernel_rfl) (fun _ _ _ h => h) (Or.inl ⟨by rfl, ?_⟩) (by first | trivial | assumption) ?_
            rotate_left 1
            · (intro w hSw; (try dsimp only at hSw); go_simp; all_goals with_reducible rfl)
            try simp only [Act.put, List.getElem_toArray, List.getElem_cons_zero, List.getElem_cons_succ, List.setIfInBounds_toArray, List.set_cons_zero, List.set_cons_succ]
            refine wpAnyL_take (i := 5) (v := ?_) rfl (by kernel_rfl) (by kernel_rfl) (by kernel_rfl) (by kernel_rfl) (fun _ _ _ h => h) (Or.inl ⟨by rfl, ?_⟩) (by first | trivial | assumption) ?_
            rotate_left 1
            · (intro w hSw; (try dsimp only at hSw); go_simp; all_goals with_reducible rfl)
            try simp only [Act.put, List.getElem_toArray, List.getElem_cons_zero, List.getElem_cons_succ, List.setIfInBounds_toArray, List.set_cons_zero, List.set_cons_succ]
            refine wpAnyL_take (i := 6) (v := ?_) rfl (by kernel_rfl) (by kernel_rfl) (by kernel_rfl) (by kernel_rfl) (fun _ _ _ h => h) (Or.inl ⟨by rfl, ?_⟩) (by first | trivial | assumption) ?_
            rotate_left 1
            · (intro w hSw; (try dsimp only at hSw); go_simp; all_goals with_reducible rfl)
            try simp only [Act.put, List.getElem_toArray, List.getElem_cons_zero, List.getElem_cons_succ, List.setIfInBounds_toArray, List.set_cons_zero, List.set_cons_succ]
            refine wpAnyL_take (i := 7) (v := ?_) rfl (by kernel_rfl) (by kernel_rfl) (by kernel_rfl) (by kernel_rfl) (fun _ _ _ h => h) (Or.inl ⟨by rfl, ?_⟩) (by first | trivial | assumption) ?_
            rotate_left 1
            · (intro w hSw; (try dsimp only at hSw); go_simp; all_goals with_reducible rfl)
            try simp only [Act.put, List.getElem_toArray, List.getElem_cons_zero, List.getElem_cons_succ, List.setIfInBounds_toArray, List.set_cons_zero, List.set_cons_succ]
            refine wpAnyL_ready (rs := [3, 8]) (by kernel_rfl) (by simp) ?_
            refine AllReadyL.cons rfl (fun K hK => ?_) ?_
            · go_simp
              refine hK.out _ _ ?_ (fun hHeld => ?_)
              · (first | exact HBC.out _ (Lib.alloc_old _ _ _ hbl) | exact HBC.out _ ((Lib.alloc_old _ _ _ (by simp; omega)).trans (Lib.alloc_old _ _ _ hbl)) | exact ⟨c6a, c6b⟩ | exact ⟨c5a, c5b⟩ | exact HBC.out _ ((Lib.alloc_old _ _ _ (Nat.lt_of_lt_of_le hbl hz5)).trans (hm5.block b hbl NB7.out)))
              clear hK K
              try simp only [Act.put, List.getElem_toArray, List.getElem_cons_zero, List.getElem_cons_succ, List.setIfInBounds_toArray, List.set_cons_zero, List.set_cons_succ]
              refine wpAnyL_ready (rs := [4, 8]) (by kernel_rfl) (by simp) ?_
              refine AllReadyL.cons rfl (fun K hK => ?_) ?_
              · (refine step_append_z _ (by rfl) _ _ (by rfl) w.heap.size (.slice a7 who.length d7) who.length who (by rfl) (owns_below K7.out (by repeat (first | assumption | exact Below.refl _ _ | refine Below.alloc ?_ (by first | omega | (simp <;> omega)) _ | refine Below.drew ?_))) _ 1 1 [t] (by rfl) rfl (one_z (by simp <;> omega) (by simp)) (by omega) (by simp; omega) ?_; intro a5 c5 w5 ho5 hg5 hat5; have hm5 := grown_movB (w4 := w4) (by repeat (first | assumption | exact Below.refl _ _ | refine Below.alloc ?_ (by first | omega | (simp <;> omega)) _ | refine Below.drew ?_)) hg5; have K85 := owns_far K8.out (fun k hk => hm5.block k (K8.out.lt k hk).2 (fun e => DJ.out k e hk)); have hz5 := hm5.size; obtain ⟨c5a, c5b⟩ := HBC.out w5 (hm5.block b hbl NB7.out))
                refine hK.out _ _ ?_ (fun hHeld => ?_)
                · (first | exact HBC.out _ (Lib.alloc_old _ _ _ hbl) | exact HBC.out _ ((Lib.alloc_old _ _ _ (by simp; omega)).trans (Lib.alloc_old _ _ _ hbl)) | exact ⟨c6a, c6b⟩ | exact ⟨c5a, c5b⟩ | exact HBC.out _ ((Lib.alloc_old _ _ _ (Nat.lt_of_lt_of_le hbl hz5)).trans (hm5.block b hbl NB7.out)))
                clear hK K
                try simp only [Act.put, List.getElem_toArray, List.getElem_cons_zero, List.getElem_cons_succ, List.setIfInBounds_toArray, List.set_cons_zero, List.set_cons_succ]
                refine wpAnyL_ready (rs := [8]) (by kernel_rfl) (by simp) ?_
                refine AllReadyL.cons rfl (fun K hK => ?_) ?_
                · go_simp
                  refine hK.out _ _ ?_ (fun hHeld => ?_)
                  · (first | exact HBC.out _ (Lib.alloc_old _ _ _ hbl) | exact HBC.out _ ((Lib.alloc_old _ _ _ (by simp; omega)).trans (Lib.alloc_old _ _ _ hbl)) | exact ⟨c6a, c6b⟩ | exact ⟨c5a, c5b⟩ | exact HBC.out _ ((Lib.alloc_old _ _ _ (Nat.lt_of_lt_of_le hbl hz5)).trans (hm5.block b hbl NB7.out)))
                  clear hK K
                  try simp only [Act.put, List.getElem_toArray, List.getElem_cons_zero, List.getElem_cons_succ, List.setIfInBounds_toArray, List.set_cons_zero, List.set_cons_succ]
                  refine wpAnyL_ready (rs := [9]) (by kernel_rfl) (by simp) ?_
                  refine AllReadyL.cons rfl (fun K hK => ?_) ?_
                  · (refine step_append_z _ (by rfl) _ _ (by rfl) w.heap.size (.slice a8 who.length d8) who.length many (by rfl) (owns_below K85 (by repeat (first | assumption | exact Below.refl _ _ | refine Below.alloc ?_ (by first | omega | (simp <;> omega)) _ | refine Below.drew ?_))) _ 1 1 [n] (by rfl) rfl (by first | exact one_z (by simp <;> omega) (by simp) | exact one_z (by have := hg5.size; simp at this; omega) (hg5.cell (by simp) (by first | exact NE7.out _ (Nat.le_succ _) | exact NE7.out _ (Nat.le_refl _)))) (by omega) (by first | omega | (simp; omega)) ?_; intro a6 c6 w6 ho6 hg6 hat6; have hm6 := grown_movB (w4 := w5) (by repeat (first | assumption | exact Below.refl _ _ | refine Below.alloc ?_ (by first | omega | (simp <;> omega)) _ | refine Below.drew ?_)) hg6; obtain ⟨c6a, c6b⟩ := HBC.out w6 ((hm6.block b (Nat.lt_of_lt_of_le hbl (by first | exact hz5 | (simp only [World.size_alloc]; omega))) NB8.out).trans (hm5.block b hbl NB7.out)))
                    refine hK.out _ _ ?_ (fun hHeld => ?_)
                    · (first | exact HBC.out _ (Lib.alloc_old _ _ _ hbl) | exact HBC.out _ ((Lib.alloc_old _ _ _ (by simp; omega)).trans (Lib.alloc_old _ _ _ hbl)) | exact ⟨c6a, c6b⟩ | exact ⟨c5a, c5b⟩ | exact HBC.out _ ((Lib.alloc_old _ _ _ (Nat.lt_of_lt_of_le hbl hz5)).trans (hm5.block b hbl NB7.out)))
                    clear hK K
                    try simp only [Act.put, List.getElem_toArray, List.getElem_cons_zero, List.getElem_cons_succ, List.setIfInBounds_toArray, List.set_cons_zero, List.set_cons_succ]
                    refine wpAnyL_take (i := 10) (v := ?_) rfl (by kernel_rfl) (by kernel_rfl) (by kernel_rfl) (by kernel_rfl) (fun _ _ _ h => h) (Or.inl ⟨by rfl, ?_⟩) (by first | trivial | assumption) ?_
                    rotate_left 1
                    · (intro w hSw; (try dsimp only at hSw); go_simp; all_goals with_reducible rfl)
                    try simp only [Act.put, List.getElem_toArray, List.getElem_cons_zero, List.getElem_cons_succ, List.setIfInBounds_toArray, List.set_cons_zero, List.set_cons_succ]
                    refine wpAnyL_take (i := 11) (v := ?_) rfl (by kernel_rfl) (by kernel_rfl) (by kernel_rfl) (by kernel_rfl) (fun _ _ _ h => h) (Or.inl ⟨by rfl, ?_⟩) (by first | trivial | assumption) ?_
                    rotate_left 1
                    · (intro w hSw; (try dsimp only at hSw); go_simp; all_goals with_reducible rfl)
                    try simp only [Act.put, List.getElem_toArray, List.getElem_cons_zero, List.getElem_cons_succ, List.setIfInBounds_toArray, List.set_cons_zero, List.set_cons_succ]
                    refine wpAnyL_done (by kernel_rfl) ?_ _
                    refine NoPanic.normal ?_
                    have HKF : Hid (KX w M none0 s2 (who ++ [t]) (many ++ [n]) (.slice a5 (who.length + 1) c5) (.slice a6 (who.length + 1) c6) w6) := hide (KX.two (x7 := .slice a5 (who.length + 1) c5) (x8 := .slice a6 (who.length + 1) c6) HK4.out (by repeat (first | assumption | exact Below.refl _ _ | refine Below.alloc ?_ (by first | omega | (simp <;> omega)) _ | refine Below.drew ?_)) hg5 (by simpa using hat5) (by rw [HL1.out]; exact ho5) (by repeat (first | assumption | exact Below.refl _ _ | refine Below.alloc ?_ (by first | omega | (simp <;> omega)) _ | refine Below.drew ?_)) hg6 (by simpa using hat6) (by rw [HL1.out]; exact ho6))
                    have HZF : Hid (RowZ w6 (some ⟨b + 1, 0, none⟩) []) := hide (rowZ_nil _ _)
                    clear ho5 hg5 hat5 ho6 hg6 hat6 hm5 hm6 K85 hz5 c5a c5b c6a c6b hHeld
                    go_wp2_with fail
                    go_meet
                    exact ⟨s2, who ++ [t], many ++ [n], [], [], T, a5, c5, a6, c6, some ⟨b + 1, 0, none⟩, 0, by rw [HL1.out], by rw [HL1.out], rfl, rfl, HI2, HG2, HN2, by rw [HL1.out]; exact hP1, hQ2, by simp, by rw [HL1.out]; exact HKF, HZF⟩
                  exact AllReadyL.nil
                exact AllReadyL.nil
              refine AllReadyL.cons rfl (fun K hK => ?_) ?_
              · go_simp
                refine hK.out _ _ ?_ (fun hHeld => ?_)
                · (first | exact HBC.out _ (Lib.alloc_old _ _ _ hbl) | exact HBC.out _ ((Lib.alloc_old _ _ _ (by simp; omega)).trans (Lib.alloc_old _ _ _ hbl)) | exact ⟨c6a, c6b⟩ | exact ⟨c5a, c5b⟩ | exact HBC.out _ ((Lib.alloc_old _ _ _ (Nat.lt_of_lt_of_le hbl hz5)).trans (hm5.block b hbl NB7.out)))
                clear hK K
                try simp only [Act.put, List.getElem_toArray, List.getElem_cons_zero, List.getElem_cons_succ, List.setIfInBounds_toArray, List.set_cons_zero, List.set_cons_succ]
                refine wpAnyL_ready (rs := [4]) (by kernel_rfl) (by simp) ?_
                refine AllReadyL.cons rfl (fun K hK => ?_) ?_
                · (refine step_append_z _ (by rfl) _ _ (by rfl) w.heap.size (.slice a7 who.length d7) who.length who (by rfl) (owns_below K7.out (by repeat (first | assumption | exact Below.refl _ _ | refine Below.alloc ?_ (by first | omega | (simp <;> omega)) _ | refine Below.drew ?_))) _ 1 1 [t] (by rfl) rfl (one_z (by simp <;> omega) (by simp)) (by omega) (by simp; omega) ?_; intro a5 c5 w5 ho5 hg5 hat5; have hm5 := grown_movB (w4 := w4) (by repeat (first | assumption | exact Below.refl _ _ | refine Below.alloc ?_ (by first | omega | (simp <;> omega)) _ | refine Below.drew ?_)) hg5; have K85 := owns_far K8.out (fun k hk => hm5.block k (K8.out.lt k hk).2 (fun e => DJ.out k e hk)); have hz5 := hm5.size; obtain ⟨c5a, c5b⟩ := HBC.out w5 (hm5.block b hbl NB7.out))
                  refine hK.out _ _ ?_ (fun hHeld => ?_)
                  · (first | exact HBC.out _ (Lib.alloc_old _ _ _ hbl) | exact HBC.out _ ((Lib.alloc_old _ _ _ (by simp; omega)).trans (Lib.alloc_old _ _ _ hbl)) | exact ⟨c6a, c6b⟩ | exact ⟨c5a, c5b⟩ | exact HBC.out _ ((Lib.alloc_old _ _ _ (Nat.lt_of_lt_of_le hbl hz5)).trans (hm5.block b hbl NB7.out)))
                  clear hK K
                  try simp only [Act.put, List.getElem_toArray, List.getElem_cons_zero, List.getElem_cons_succ, List.setIfInBounds_toArray, List.set_cons_zero, List.set_cons_succ]
                  refine wpAnyL_ready (rs := [9]) (by kernel_rfl) (by simp) ?_
                  refine AllReadyL.cons rfl (fun K hK => ?_) ?_
                  · (refine step_append_z _ (by rfl) _ _ (by rfl) w.heap.size (.slice a8 who.length d8) who.length many (by rfl) (owns_below K85 (by repeat (first | assumption | exact Below.refl _ _ | refine Below.alloc ?_ (by first | omega | (simp <;> omega)) _ | refine Below.drew ?_))) _ 1 1 [n] (by rfl) rfl (by first | exact one_z (by simp <;> omega) (by simp) | exact one_z (by have := hg5.size; simp at this; omega) (hg5.cell (by simp) (by first | exact NE7.out _ (Nat.le_succ _) | exact NE7.out _ (Nat.le_refl _)))) (by omega) (by first | omega | (simp; omega)) ?_; intro a6 c6 w6 ho6 hg6 hat6; have hm6 := grown_movB (w4 := w5) (by repeat (first | assumption | exact Below.refl _ _ | refine Below.alloc ?_ (by first | omega | (simp <;> omega)) _ | refine Below.drew ?_)) hg6; obtain ⟨c6a, c6b⟩ := HBC.out w6 ((hm6.block b (Nat.lt_of_lt_of_le hbl (by first | exact hz5 | (simp only [World.size_alloc]; omega))) NB8.out).trans (hm5.block b hbl NB7.out)))
                    refine hK.out _ _ ?_ (fun hHeld => ?_)
                    · (first | exact HBC.out _ (Lib.alloc_old _ _ _ hbl) | exact HBC.out _ ((Lib.alloc_old _ _ _ (by simp; omega)).trans (Lib.alloc_old _ _ _ hbl)) | exact ⟨c6a, c6b⟩ | exact ⟨c5a, c5b⟩ | exact HBC.out _ ((Lib.alloc_old _ _ _ (Nat.lt_of_lt_of_le hbl hz5)).trans (hm5.block b hbl NB7.out)))
                    clear hK K
                    try simp only [Act.put, List.getElem_toArray, List.getElem_cons_zero, List.getElem_cons_succ, List.setIfInBounds_toArray, List.set_cons_zero, List.set_cons_succ]
                    refine wpAnyL_take (i := 10) (v := ?_) rfl (by kernel_rfl) (by kernel_rfl) (by kernel_rfl) (by kernel_rfl) (fun _ _ _ h => h) (Or.inl ⟨by rfl, ?_⟩) (by first | trivial | assumption) ?_
                    rotate_left 1
                    · (intro w hSw; (try dsimp only at hSw); go_simp; all_goals with_reducible rfl)
                    try simp only [Act.put, List.getElem_toArray, List.getElem_cons_zero, List.getElem_cons_succ, List.setIfInBounds_toArray, List.set_cons_zero, List.set_cons_succ]
                    refine wpAnyL_take (i := 11) (v := ?_) rfl (by kernel_rfl) (by kernel_rfl) (by kernel_rfl) (by kernel_rfl) (fun _ _ _ h => h) (Or.inl ⟨by rfl, ?_⟩) (by first | trivial | assumption) ?_
                    rotate_left 1
                    · (intro w hSw; (try dsimp only at hSw); go_simp; all_goals with_reducible rfl)
                    try simp only [Act.put, List.getElem_toArray, List.getElem_cons_zero, List.getElem_cons_succ, List.setIfInBounds_toArray, List.set_cons_zero, List.set_cons_succ]
                    refine wpAnyL_done (by kernel_rfl) ?_ _
                    refine NoPanic.normal ?_
                    have HKF : Hid (KX w M none0 s2 (who ++ [t]) (many ++ [n]) (.slice a5 (who.length + 1) c5) (.slice a6 (who.length + 1) c6) w6) := hide (KX.two (x7 := .slice a5 (who.length + 1) c5) (x8 := .slice a6 (who.length + 1) c6) HK4.out (by repeat (first | assumption | exact Below.refl _ _ | refine Below.alloc ?_ (by first | omega | (simp <;> omega)) _ | refine Below.drew ?_)) hg5 (by simpa using hat5) (by rw [HL1.out]; exact ho5) (by repeat (first | assumption | exact Below.refl _ _ | refine Below.alloc ?_ (by first | omega | (simp <;> omega)) _ | refine Below.drew ?_)) hg6 (by simpa using hat6) (by rw [HL1.out]; exact ho6))
                    have HZF : Hid (RowZ w6 (some ⟨b + 1, 0, none⟩) []) := hide (rowZ_nil _ _)
                    clear ho5 hg5 hat5 ho6 hg6 hat6 hm5 hm6 K85 hz5 c5a c5b c6a c6b hHeld
                    go_wp2_with fail
                    go_meet
                    exact ⟨s2, who ++ [t], many ++ [n], [], [], T, a5, c5, a6, c6, some ⟨b + 1, 0, none⟩, 0, by rw [HL1.out], by rw [HL1.out], rfl, rfl, HI2, HG2, HN2, by rw [HL1.out]; exact hP1, hQ2, by simp, by rw [HL1.out]; exact HKF, HZF⟩
                  exact AllReadyL.nil
                exact AllReadyL.nil
              exact AllReadyL.nil
            refine AllReadyL.cons rfl (fun K hK => ?_) ?_
            · go_simp
              refine hK.out _ _ ?_ (fun hHeld => ?_)
              · (first | exact HBC.out _ (Lib.alloc_old _ _ _ hbl) | exact HBC.out _ ((Lib.alloc_old _ _ _ (by simp; omega)).trans (Lib.alloc_old _ _ _ hbl)) | exact ⟨c6a, c6b⟩ | exact ⟨c5a, c5b⟩ | exact HBC.out _ ((Lib.alloc_old _ _ _ (Nat.lt_of_lt_of_le hbl hz5)).trans (hm5.block b hbl NB7.out)))
              clear hK K
              try simp only [Act.put, List.getElem_toArray, List.getElem_cons_zero, List.getElem_cons_succ, List.setIfInBounds_toArray, List.set_cons_zero, List.set_cons_succ]
              refine wpAnyL_ready (rs := [3]) (by kernel_rfl) (by simp) ?_
              refine AllReadyL.cons rfl (fun K hK => ?_) ?_
              · go_simp
                refine hK.out _ _ ?_ (fun hHeld => ?_)
                · (first | exact HBC.out _ (Lib.alloc_old _ _ _ hbl) | exact HBC.out _ ((Lib.alloc_old _ _ _ (by simp; omega)).trans (Lib.alloc_old _ _ _ hbl)) | exact ⟨c6a, c6b⟩ | exact ⟨c5a, c5b⟩ | exact HBC.out _ ((Lib.alloc_old _ _ _ (Nat.lt_of_lt_of_le hbl hz5)).trans (hm5.block b hbl NB7.out)))
                clear hK K
                try simp only [Act.put, List.getElem_toArray, List.getElem_cons_zero, List.getElem_cons_succ, List.setIfInBounds_toArray, List.set_cons_zero, List.set_cons_succ]
                refine wpAnyL_ready (rs := [4]) (by kernel_rfl) (by simp) ?_
                refine AllReadyL.cons rfl (fun K hK => ?_) ?_
                · (refine step_append_z _ (by rfl) _ _ (by rfl) w.heap.size (.slice a7 who.length d7) who.length who (by rfl) (owns_below K7.out (by repeat (first | assumption | exact Below.refl _ _ | refine Below.alloc ?_ (by first | omega | (simp <;> omega)) _ | refine Below.drew ?_))) _ 1 1 [t] (by rfl) rfl (one_z (by simp <;> omega) (by simp)) (by omega) (by simp; omega) ?_; intro a5 c5 w5 ho5 hg5 hat5; have hm5 := grown_movB (w4 := w4) (by repeat (first | assumption | exact Below.refl _ _ | refine Below.alloc ?_ (by first | omega | (simp <;> omega)) _ | refine Below.drew ?_)) hg5; have K85 := owns_far K8.out (fun k hk => hm5.block k (K8.out.lt k hk).2 (fun e => DJ.out k e hk)); have hz5 := hm5.size; obtain ⟨c5a, c5b⟩ := HBC.out w5 (hm5.block b hbl NB7.out))
                  refine hK.out _ _ ?_ (fun hHeld => ?_)
                  · (first | exact HBC.out _ (Lib.alloc_old _ _ _ hbl) | exact HBC.out _ ((Lib.alloc_old _ _ _ (by simp; omega)).trans (Lib.alloc_old _ _ _ hbl)) | exact ⟨c6a, c6b⟩ | exact ⟨c5a, c5b⟩ | exact HBC.out _ ((Lib.alloc_old _ _ _ (Nat.lt_of_lt_of_le hbl hz5)).trans (hm5.block b hbl NB7.out)))
                  clear hK K
                  try simp only [Act.put, List.getElem_toArray, List.getElem_cons_zero, List.getElem_cons_succ, List.setIfInBounds_toArray, List.set_cons_zero, List.set_cons_succ]
                  refine wpAnyL_ready (rs := [9]) (by kernel_rfl) (by simp) ?_
                  refine AllReadyL.cons rfl (fun K hK => ?_) ?_
                  · (refine step_append_z _ (by rfl) _ _ (by rfl) w.heap.size (.slice a8 who.length d8) who.length many (by rfl) (owns_below K85 (by repeat (first | assumption | exact Below.refl _ _ | refine Below.alloc ?_ (by first | omega | (simp <;> omega)) _ | refine Below.drew ?_))) _ 1 1 [n] (by rfl) rfl (by first | exact one_z (by simp <;> omega) (by simp) | exact one_z (by have := hg5.size; simp at this; omega) (hg5.cell (by simp) (by first | exact NE7.out _ (Nat.le_succ _) | exact NE7.out _ (Nat.le_refl _)))) (by omega) (by first | omega | (simp; omega)) ?_; intro a6 c6 w6 ho6 hg6 hat6; have hm6 := grown_movB (w4 := w5) (by repeat (first | assumption | exact Below.refl _ _ | refine Below.alloc ?_ (by first | omega | (simp <;> omega)) _ | refine Below.drew ?_)) hg6; obtain ⟨c6a, c6b⟩ := HBC.out w6 ((hm6.block b (Nat.lt_of_lt_of_le hbl (by first | exact hz5 | (simp only [World.size_alloc]; omega))) NB8.out).trans (hm5.block b hbl NB7.out)))
                    refine hK.out _ _ ?_ (fun hHeld => ?_)
                    · (first | exact HBC.out _ (Lib.alloc_old _ _ _ hbl) | exact HBC.out _ ((Lib.alloc_old _ _ _ (by simp; omega)).trans (Lib.alloc_old _ _ _ hbl)) | exact ⟨c6a, c6b⟩ | exact ⟨c5a, c5b⟩ | exact HBC.out _ ((Lib.alloc_old _ _ _ (Nat.lt_of_lt_of_le hbl hz5)).trans (hm5.block b hbl NB7.out)))
                    clear hK K
                    try simp only [Act.put, List.getElem_toArray, List.getElem_cons_zero, List.getElem_cons_succ, List.setIfInBounds_toArray, List.set_cons_zero, List.set_cons_succ]
                    refine wpAnyL_take (i := 10) (v := ?_) rfl (by kernel_rfl) (by kernel_rfl) (by kernel_rfl) (by kernel_rfl) (fun _ _ _ h => h) (Or.inl ⟨by rfl, ?_⟩) (by first | trivial | assumption) ?_
                    rotate_left 1
                    · (intro w hSw; (try dsimp only at hSw); go_simp; all_goals with_reducible rfl)
                    try simp only [Act.put, List.getElem_toArray, List.getElem_cons_zero, List.getElem_cons_succ, List.setIfInBounds_toArray, List.set_cons_zero, List.set_cons_succ]
                    refine wpAnyL_take (i := 11) (v := ?_) rfl (by kernel_rfl) (by kernel_rfl) (by kernel_rfl) (by kernel_rfl) (fun _ _ _ h => h) (Or.inl ⟨by rfl, ?_⟩) (by first | trivial | assumption) ?_
                    rotate_left 1
                    · (intro w hSw; (try dsimp only at hSw); go_simp; all_goals with_reducible rfl)
                    try simp only [Act.put, List.getElem_toArray, List.getElem_cons_zero, List.getElem_cons_succ, List.setIfInBounds_toArray, List.set_cons_zero, List.set_cons_succ]
                    refine wpAnyL_done (by kernel_rfl) ?_ _
                    refine NoPanic.normal ?_
                    have HKF : Hid (KX w M none0 s2 (who ++ [t]) (many ++ [n]) (.slice a5 (who.length + 1) c5) (.slice a6 (who.length + 1) c6) w6) := hide (KX.two (x7 := .slice a5 (who.length + 1) c5) (x8 := .slice a6 (who.length + 1) c6) HK4.out (by repeat (first | assumption | exact Below.refl _ _ | refine Below.alloc ?_ (by first | omega | (simp <;> omega)) _ | refine Below.drew ?_)) hg5 (by simpa using hat5) (by rw [HL1.out]; exact ho5) (by repeat (first | assumption | exact Below.refl _ _ | refine Below.alloc ?_ (by first | omega | (simp <;> omega)) _ | refine Below.drew ?_)) hg6 (by simpa using hat6) (by rw [HL1.out]; exact ho6))
                    have HZF : Hid (RowZ w6 (some ⟨b + 1, 0, none⟩) []) := hide (rowZ_nil _ _)
                    clear ho5 hg5 hat5 ho6 hg6 hat6 hm5 hm6 K85 hz5 c5a c5b c6a c6b hHeld
                    go_wp2_with fail
                    go_meet
                    exact ⟨s2, who ++ [t], many ++ [n], [], [], T, a5, c5, a6, c6, some ⟨b + 1, 0, none⟩, 0, by rw [HL1.out], by rw [HL1.out], rfl, rfl, HI2, HG2, HN2, by rw [HL1.out]; exact hP1, hQ2, by simp, by rw [HL1.out]; exact HKF, HZF⟩
                  exact AllReadyL.nil
                exact AllReadyL.nil
              exact AllReadyL.nil
            exact AllReadyL.nil
          · have HR2 := hide HR
            clear HR HAQ HMR
            go_wp2_with fail
            refine HR2.out.mono ?_
            rintro e w3 ⟨rfl, hkc⟩
            go_wp2_with fail
            go_meet
            exact hkc _
      case rest =>
        clear HDR HRL HAQ HLS HMR HK2 HBH HDM HWT HINV HN HT hP hQ bc0 bc1 bc2
        obtain ⟨s2, who2, many2, got, gu, T0, a7', d7', a8', d8', a12, d12, rfl, rfl, rfl, rfl, HI, HG, HN2, hP2, hQ2, hgl, HK, HZ⟩ := hcut
        go_wp2_with fail
        go_loopw [9, 16] (fun v9 v16 wr2 => ∃ (i : Nat) (Y : Int), v9 = .int .i64 Y ∧ v16 = .int .i64 (i : Int) ∧ i ≤ got.length ∧ Hid (Y = T0 + (gu.take i).sum) ∧ Hid (KX w M none0 s2 who2 many2 (.slice a7' who2.length d7') (.slice a8' who2.length d8') wr2) ∧ Hid (RowZ wr2 a12 got)) (fun _ v16 _ => got.length - (intOf v16).toNat)
        case atStart => exact ⟨0, T0, rfl, rfl, by omega, hide (by simp), HK, HZ⟩
        case round =>
          clear HK HZ
          obtain ⟨i, Y, rfl, rfl, hi, HY, HKr, HZr⟩ := hrel
          by_cases qi : i < got.length
          · have i1 : (i : Int) < (got.length : Int) := by omega
            have i0 : (0 : Int) ≤ (i : Int) := by omega
            have nn : got ≠ [] := fun e => by rw [e] at qi; simp at qi
            have HNN := hide nn
            have HQI : Hid (i < got.length) := qi
            clear nn
            go_wp2_with fail
            go_loopw [17, 18] (fun v17 v18 wz => ∃ j : Nat, v17 = .int .i64 (lastN who2 (gz got i) j) ∧ v18 = .int .i64 (j : Int) ∧ j ≤ who2.length ∧ Hid (KX w M none0 s2 who2 many2 (.slice a7' who2.length d7') (.slice a8' who2.length d8') wz) ∧ Hid (RowZ wz a12 got)) (fun _ v18 _ => who2.length - (intOf v18).toNat)
            case atStart => exact ⟨0, rfl, rfl, Nat.zero_le _, HKr, HZr⟩
            case round =>
              clear HKr HZr
              obtain ⟨j, rfl, rfl, hj, HKz, HZz⟩ := hrel
              by_cases qj : j < who2.length
              · have HW7 : RowZ _ a7' who2 := (owned_row (F := none0) HKz.out.2.1).row
                obtain ⟨g7, o7, rfl, _, e7⟩ := HW7 (fun e => by rw [e] at qj; simp at qj)
                have c7 := e7 j qj
                obtain ⟨g12, o12, rfl, _, e12⟩ := HZz.out HNN.out
                have c12 := e12 i qi
                have j1 : (j : Int) < (who2.length : Int) := by omega
                have j0 : (0 : Int) ≤ (j : Int) := by omega
                have hj62 : (j : Int) + 1 ≤ 62 := by omega
                have HLN : Hid (lastN who2 (gz got i) (j + 1) = if gz who2 j = gz got i then (j : Int) else lastN who2 (gz got i) j) := hide rfl
                have HQJ : Hid (j < who2.length) := qj
                clear e7 e12 HW7 hj qj
                by_cases ee : gz who2 j = gz got i
                · rw [if_pos ee] at HLN
                  have eb : (gz who2 j == gz got i) = true := by simpa using ee
                  generalize lastN who2 (gz got i) j = LJ at *
                  generalize gz who2 j = X at *
                  generalize hgi : gz got i = G at *
                  have HGI := hide hgi
                  clear ee hgi
                  go_wp2_with fail
                  go_quiet (fail)
                  go_wp2_with fail
                  go_roundw
                  case rel => exact ⟨j + 1, by first | rw [HLN.out] | rw [HGI.out, HLN.out], by go_num, HQJ.out, hide (HKz.out.below (below_drewN _ _)), hide (HZz.out.below (below_drewN _ _))⟩
                  case measure => have := HQJ.out; simp [intOf]; omega
                · rw [if_neg ee] at HLN
                  have eb : (gz who2 j == gz got i) = false := by simpa using ee
                  generalize lastN who2 (gz got i) j = LJ at *
                  generalize gz who2 j = X at *
                  generalize hgi : gz got i = G at *
                  have HGI := hide hgi
                  clear ee hgi
                  go_wp2_with fail
                  go_quiet (fail)
                  go_wp2_with fail
                  go_roundw
                  case rel => exact ⟨j + 1, by first | rw [HLN.out] | rw [HGI.out, HLN.out], by go_num, HQJ.out, hide (HKz.out.below (below_drewN _ _)), hide (HZz.out.below (below_drewN _ _))⟩
                  case measure => have := HQJ.out; simp [intOf]; omega
              · have ej : j = who2.length := by omega
                have q' : ¬ (j : Int) < (who2.length : Int) := by omega
                obtain ⟨l, hl1, hl2, hl3⟩ := HG.out.says i qi
                have hln : lastN who2 (gz got i) j = (l : Int) := by rw [ej]; exact hl1
                rw [hln]
                have hlen := HI.out.len
                have HW8 := HKz.out.2.2.1
                rw [← hlen] at HW8
                have HW9 : RowZ _ a8' many2 := (owned_row (F := none0) HW8).row
                obtain ⟨g8, o8, rfl, _, e8⟩ := HW9 (fun e => by rw [e] at hlen; simp at hlen; omega)
                have c8 := e8 l (by omega)
                rw [hl3] at c8
                have l0 : (0 : Int) ≤ (l : Int) := by omega
                have l1' : (l : Int) < (who2.length : Int) := by omega
                have l2 : decide ((l : Int) < 0) = false := decide_eq_false (by omega)
                obtain ⟨YY, hYY⟩ : ∃ YY, Y + gz gu i = YY := ⟨_, rfl⟩
                have hsum : YY = T0 + (gu.take (i + 1)).sum := by
                  rw [take_sum (by rw [HG.out.len]; exact qi), ← hYY, HY.out]
                  omega
                have hrng := HG.out.part HI.out.ok (i + 1)
                rw [← hsum] at hrng
                obtain ⟨y1, y2⟩ := small_wraps (x := YY) (by omega)
                have z1 : IntKind.i64.wrap (Y + gz gu i) = YY := by rw [hYY]; exact y2
                have z2 : wrap64 (Y + gz gu i) = YY := by rw [hYY]; exact y1
                have HSUM := hide hsum
                have hi101 : (i : Int) + 1 ≤ 101 := by omega
                clear HW8 HW9 e8 hl1 hl3 hln hsum hrng hYY hlen ej hj qj y1 y2 hl2
                generalize gz gu i = U at *
                go_wp2_with fail
                go_roundw
                case rel => exact ⟨i + 1, YY, rfl, by go_num, HQI.out, HSUM, HKz, HZz⟩
                case measure => have := HQI.out; simp [intOf]; omega
          · have ei : i = got.length := by omega
            have q' : ¬ (i : Int) < (got.length : Int) := by omega
            have hY : Y = N - s2.f := by
              have h1 := HY.out
              rw [ei, ← HG.out.len, List.take_length] at h1
              have h2 := HG.out.sum
              have h3 := HN2.out
              omega
            have hYr : 0 ≤ Y ∧ Y ≤ N := by
              have := HI.out.ok.fn
              have := HI.out.ok.f0
              have := HN2.out
              omega
            have hNR := HNR.out
            have y1 : decide (Y < 0) = false := decide_eq_false (by omega)
            have y2 : decide (N < Y) = false := decide_eq_false (by omega)
            have y3 : decide (Y > N) = false := decide_eq_false (by omega)
            have hk61 : (k : Int) + 1 ≤ 60 := by omega
            have z1 : IntKind.i64.wrap (N - Y) = s2.f := by
              rw [show N - Y = s2.f by omega]
              exact (small_wraps (by have := HI.out.ok.n16; have := HI.out.ok.fn; have := HI.out.ok.f0; omega)).2
            have z2 : wrap64 (N - Y) = s2.f := by
              rw [show N - Y = s2.f by omega]
              exact (small_wraps (by have := HI.out.ok.n16; have := HI.out.ok.fn; have := HI.out.ok.f0; omega)).1
            have HYF := hide hY
            have HF := hide (x_free HKr.out.1)
            have ne : (s2.f == s2.f) = true := by simp
            clear hYr hNR hi qi HY HG hY ei
            go_wp2_with fail
            refine HF.out.mono ?_
            rintro e w5 ⟨rfl, hw5⟩
            subst hw5
            go_wp2_with fail
            go_roundw
            case rel => exact ⟨k + 1, s2, who2, many2, Y, a7', d7', a8', d8', rfl, rfl, rfl, by go_num, by omega, by omega, HYF, HI, HN2, hP2, hQ2, HKr⟩
            case measure => simp [intOf]; omega
    · have hex : ¬ k < l1 ∨ ¬ k < 60 := by omega
      clear HINV HT hP hQ HN
      have HLW : Below w.heap.size w wr := HK.out.1.2.2
      rcases Nat.lt_or_ge k l1 with q1 | q1
      · have q1' : (k : Int) < (l1 : Int) := by omega
        have q2' : ¬ (k : Int) < 60 := by omega
        go_wp2_with fail
        refine (awake_any _).mono ?_
        rintro e w5 ⟨rfl, hb5⟩
        have HB5 := hide (below_next HLW hb5)
        clear hb5
        go_wp2
        go_ret
        exact ⟨rfl, HB5.out⟩
      · have q1' : ¬ (k : Int) < (l1 : Int) := by omega
        go_wp2_with fail
        refine (awake_any _).mono ?_
        rintro e w5 ⟨rfl, hb5⟩
        have HB5 := hide (below_next HLW hb5)
        clear hb5
        go_wp2
        go_ret
        exact ⟨rfl, HB5.out⟩

end Go.Proofs.Ytgldhlcdnijecaa
