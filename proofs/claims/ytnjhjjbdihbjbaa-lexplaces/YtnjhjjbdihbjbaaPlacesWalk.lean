/-
  The walk of the law LexPlaces.
-/
import Derived.Test.YtnjhjjbdihbjbaaPlaces
import Derived.BigQuiet
namespace Go.Proofs.Ytnjhjjbdihbjbaa
open Go.RowKit

theorem drewN_below {B : Nat} {a w : World} (h : Below B a w) (n : Nat) : Below B a (w.drewN n) := h.trans ⟨rfl, rfl, rfl, Nat.le_refl _, fun _ _ => rfl⟩

/-- No word is longer than its text. -/
theorem run_text (M : Nat) : ∀ (cs : List (List UInt8)) (st : St), cs.flatten.length ≤ M → (∀ x ∈ st.all, x.text.length + cs.flatten.length ≤ M) → ∀ x ∈ (run st cs).all, x.text.length ≤ M
  | [], _, _, h => fun x hx => by have := h x hx; omega
  | c :: cs, st, h0, h => by
    rw [run_cons]
    have hl : (c :: cs).flatten.length = c.length + cs.flatten.length := by rw [List.flatten_cons, List.length_append]
    rw [hl] at h0 h
    refine run_text M cs _ (by omega) ?_
    cases hi : inN (remN st.rem c) c
    · rw [step_out hi, all_none]
      intro x hx
      have := h x hx
      omega
    · rw [step_in hi]
      intro x hx
      rcases List.mem_append.1 hx with hx | hx
      · have := h x (by simp [St.all, hx]); omega
      · obtain rfl : x = more st.cur c st.line st.col := by simpa using hx
        cases hc : st.cur with
        | none => show c.length + _ ≤ M; omega
        | some y =>
          have := h y (by simp [St.all, hc])
          show (y.text ++ c).length + _ ≤ M
          rw [List.length_append]; omega
theorem words_text (l : List UInt8) : ∀ x ∈ wordsOf l, x.text.length ≤ l.length := by
  have hj := chop_join _ l (Nat.le_refl _)
  exact run_text l.length (chop l) start (by rw [hj]; exact Nat.le_refl _) (fun x hx => by cases hx)

set_option maxHeartbeats 1000000 in
set_option maxRecDepth 100000 in
theorem places_over (s : ByteArray) (h : (s.size : Int) > 4096) (w : World) : Calls Try.prog 6 #[.string s] w fun e w' => e = .returned (.bool true) ∧ Below w.heap.size w w' := by
  have H1 := fun w => words_any s w
  rw [ans_over (by rw [size_list]; omega)] at H1
  go_enter Try.func6, Try.ntmps6
  go_wp2_with fail
  refine (H1 _).mono ?_
  rintro e w1 ⟨v1, rfl, hO1, hB1⟩
  obtain ⟨a1, c1, rfl, _⟩ := hO1.form
  go_wp2_with fail
  refine (awake_any _).mono ?_
  rintro e w2 ⟨rfl, hB2⟩
  have hB3 := below_next hB1 hB2
  go_wp2
  go_ret
  exact ⟨rfl, hB3⟩

set_option maxHeartbeats 1000000 in
set_option maxRecDepth 100000 in
theorem places_bad (s : ByteArray) (p q : Nat) (hA : ansOf s.data.toList = ⟨[], 2, p, q⟩) (hp : (p : Int) > 0) (hq : (q : Int) > 0) (w : World) : Calls Try.prog 6 #[.string s] w fun e w' => e = .returned (.bool true) ∧ Below w.heap.size w w' := by
  have H1 := fun w => words_any s w
  rw [hA] at H1
  go_enter Try.func6, Try.ntmps6
  go_wp2_with fail
  refine (H1 _).mono ?_
  rintro e w1 ⟨v1, rfl, hO1, hB1⟩
  obtain ⟨a1, c1, rfl, _⟩ := hO1.form
  go_wp2_with fail
  refine (awake_any _).mono ?_
  rintro e w2 ⟨rfl, hB2⟩
  have hB3 := below_next hB1 hB2
  go_wp2
  go_ret
  exact ⟨rfl, hB3⟩

set_option maxHeartbeats 2000000 in
set_option maxRecDepth 100000 in
theorem places_ok (s : ByteArray) (hz : s.size ≤ 4096) (hok : okAll (chop s.data.toList)) (w : World) : Calls Try.prog 6 #[.string s] w fun e w' => e = .returned (.bool true) ∧ Below w.heap.size w w' := by
  have H1 := fun w => words_any s w
  rw [ans_ok (by rw [size_list]; omega) hok] at H1
  have hlen := words_len s.data.toList
  rw [size_list] at hlen
  have HW : Hid ((∀ x ∈ wordsOf s.data.toList, WordOk x ∧ x.text.length ≤ 4096 ∧ x.line ≤ 5000 ∧ x.col ≤ 5000) ∧ (wordsOf s.data.toList).Pairwise (fun x y => Before x y.line y.col)) := by
    obtain ⟨h1, h2⟩ := words_places s.data.toList hok
    refine ⟨fun x hx => ⟨h1 x hx, ?_, ?_, ?_⟩, h2⟩
    · have := words_text s.data.toList x hx; rw [size_list] at this; omega
    · have := (words_near s.data.toList x hx).1; rw [size_list] at this; omega
    · have := (words_near s.data.toList x hx).2; rw [size_list] at this; omega
  generalize wordsOf s.data.toList = WS at *
  clear hok
  go_enter Try.func6, Try.ntmps6
  go_wp2_with fail
  refine (H1 _).mono ?_
  rintro e w1 ⟨v1, rfl, hO1, hB1⟩
  obtain ⟨a1, c1, rfl, _, hR1⟩ := hO1.row
  have HR : Hid (Row w1 a1 WS) := hR1
  obtain ⟨N, hN⟩ : ∃ N, WS.length = N := ⟨_, rfl⟩
  rw [show (⟨WS, 0, 0, 0⟩ : Ans).list = WS from rfl] at *
  rw [hN] at hlen ⊢
  have HN : Hid (WS.length = N) := hN
  clear hO1 hR1 hN
  go_wp2_with fail
  go_loopw [7] (fun iv wr => ∃ i : Nat, i ≤ N ∧ iv = .int .i64 i ∧ Below w1.heap.size w1 wr) (fun i _ => N - (intOf i).toNat)
  case atStart => exact ⟨0, Nat.zero_le _, rfl, Below.refl _ _⟩
  case round =>
    obtain ⟨i, hi, rfl, hB⟩ := hrel
    have hB2 := below_next hB1 hB
    by_cases hlt : i < N
    · obtain ⟨x, hx⟩ : ∃ x, WS[i]? = some x := ⟨WS[i]'(by rw [HN.out]; exact hlt), List.getElem?_eq_getElem _⟩
      have hne : WS ≠ [] := fun e => by rw [e] at hx; simp at hx
      obtain ⟨b1, rfl, hb1, hcells⟩ : ∃ b, a1 = some ⟨b, 0, none⟩ ∧ b < wr.heap.size ∧ ∀ i x, WS[i]? = some x → wr.cell? ⟨b, i * 3, none⟩ = some (.string ⟨x.text.toArray⟩) ∧ wr.cell? ⟨b, i * 3 + 1, none⟩ = some (.int .i64 x.line) ∧ wr.cell? ⟨b, i * 3 + 2, none⟩ = some (.int .i64 x.col) := by
        rcases HR.out.below hB with h | ⟨b, h1, h2, h3⟩
        · exact (hne h).elim
        · exact ⟨b, h1, h2, h3⟩
      obtain ⟨p1, p2, p3⟩ := hcells i x hx
      have HCS : Hid (∀ i x, WS[i]? = some x → wr.cell? ⟨b1, i * 3, none⟩ = some (.string ⟨x.text.toArray⟩) ∧ wr.cell? ⟨b1, i * 3 + 1, none⟩ = some (.int .i64 x.line) ∧ wr.cell? ⟨b1, i * 3 + 2, none⟩ = some (.int .i64 x.col)) := hcells
      have HX : Hid (WS[i]? = some x) := hx
      obtain ⟨hwk, htl, hl5, hc5⟩ := HW.out.1 x (List.mem_of_getElem? hx)
      have HK : Hid (WordOk x) := hwk
      have hl1 : 1 ≤ x.line := hwk.2.2.2.2.2.1
      have hc1 : 1 ≤ x.col := hwk.2.2.2.2.2.2
      obtain ⟨T, hT⟩ : ∃ T, T = (⟨x.text.toArray⟩ : ByteArray) := ⟨_, rfl⟩
      have hTl : T.data.toList = x.text := by rw [hT]
      have hTz : T.size ≤ 4096 := by rw [← size_list, hTl]; exact htl
      rw [← hT] at p1
      have HT : Hid (T.data.toList = x.text) := hTl
      clear hcells hx hne hwk htl hT hTl
      obtain ⟨L, hL⟩ : ∃ L, x.line = L := ⟨_, rfl⟩
      obtain ⟨C, hC⟩ : ∃ C, x.col = C := ⟨_, rfl⟩
      rw [hL] at p2 hl5 hl1
      rw [hC] at p3 hc5 hc1
      have HL : Hid (x.line = L ∧ x.col = C) := ⟨hL, hC⟩
      clear hL hC
      have d1 : (i : Int) < (N : Int) := by omega
      have d0 : (0 : Int) ≤ (i : Int) := by omega
      go_wp2_with fail
      go_loop [8, 9] (fun nv kv => ∃ (n k : Nat), nv = .int .i64 n ∧ kv = .int .i64 k ∧ n + (chop (x.text.drop k)).length = rn x ∧ (∀ c ∈ chop (x.text.drop k), wide c = c.length ∧ c ≠ []) ∧ k ≤ T.size ∧ n ≤ k) (fun _ k => T.size - (intOf k).toNat)
      case atStart => exact ⟨0, 0, rfl, rfl, by rw [List.drop_zero, Nat.zero_add]; rfl, by rw [List.drop_zero]; exact HK.out.2.1, Nat.zero_le _, Nat.le_refl _⟩
      case round =>
        obtain ⟨n, k, rfl, rfl, hnk, hcs, hkz, hnk2⟩ := hrel
        by_cases hkl : (k : Int) < T.size
        · have hW := wide_any (T.extract k T.size)
          rw [extract_rest, HT.out] at hW
          have hne : x.text.drop k ≠ [] := fun e => by
            have := congrArg List.length e
            rw [List.length_drop, ← HT.out, size_list, List.length_nil] at this
            omega
          have hch := chop_cons _ hne
          rw [hch] at hnk hcs
          have hfw := hcs _ (List.mem_cons_self)
          have hfl : far (x.text.drop k) ≤ (x.text.drop k).length := by
            cases hd : x.text.drop k with
            | nil => exact (hne hd).elim
            | cons a t => exact far_le a t
          rw [take_wide _ hne, List.length_take, Nat.min_eq_left hfl] at hfw
          have hfp := far_pos (x.text.drop k)
          have hlk : (x.text.drop k).length = T.size - k := by rw [List.length_drop, ← HT.out, size_list]
          rw [List.drop_drop] at hnk hcs
          rw [hfw.1] at hW
          obtain ⟨m, hm⟩ : ∃ m, far (x.text.drop k) = m := ⟨_, rfl⟩
          rw [hm] at hW hnk hcs hfl hfp
          have hmb : ((m : Int) == 0) = false := by rw [beq_eq_false_iff_ne]; omega
          have HNX : Hid (n + 1 + (chop (x.text.drop (k + m))).length = rn x ∧ ∀ c ∈ chop (x.text.drop (k + m)), wide c = c.length ∧ c ≠ []) := ⟨by simp only [List.length_cons] at hnk; omega, fun c hc => hcs c (List.mem_cons_of_mem _ hc)⟩
          clear hm hfw hch hne hnk hcs
          go_wp2_with fail
          refine (hW _).mono ?_
          rintro e w2 ⟨rfl, rfl⟩
          go_wp2_with fail
          go_round
          case rel => exact ⟨n + 1, k + m, by go_num, by go_num, HNX.out.1, HNX.out.2, by omega, by omega⟩
          case measure => simp [intOf]; omega
        · have hnr : n = rn x := by
            rw [List.drop_of_length_le (by rw [← HT.out, size_list]; omega), chop_nil] at hnk
            exact hnk
          have hr1 : 1 ≤ rn x := by
            unfold rn
            rw [chop_cons _ HK.out.1, List.length_cons]
            omega
          rw [← hnr] at hr1
          have HRN : Hid (n = rn x) := hnr
          clear hnr hnk hcs
          have hn4 : n ≤ 4096 := by omega
          have hnb : ((n : Int) == 0) = false := by rw [beq_eq_false_iff_ne]; omega
          have hLb : ¬ (L : Int) < 1 := by omega
          have hCb : ¬ (C : Int) < 1 := by omega
          go_wp2_with fail
          go_loop [11] (fun kv => ∃ (k : Nat), kv = .int .i64 k ∧ k ≤ T.size) (fun k => T.size - (intOf k).toNat)
          case atStart => exact ⟨0, rfl, Nat.zero_le _⟩
          case round =>
            obtain ⟨k, rfl, hkz⟩ := hrel
            by_cases hkl : (k : Int) < T.size
            · have hks : k < T.size := by omega
              obtain ⟨b, hd, hb⟩ := byte_at hks
              have hbm : b ∈ x.text := by
                rw [← HT.out]
                exact List.mem_of_mem_drop (by rw [hd]; exact List.mem_cons_self)
              have n1 : b ≠ 32 := fun e => HK.out.2.2.1 (by rw [← e]; exact hbm)
              have n2 : b ≠ 10 := fun e => HK.out.2.2.2.1 (by rw [← e]; exact hbm)
              have n3 : b ≠ 35 := fun e => HK.out.2.2.2.2.1 (by rw [← e]; exact hbm)
              obtain ⟨z, hzz⟩ : ∃ z, b.toNat = z := ⟨_, rfl⟩
              rw [hzz] at hb
              have z1 : ((z : Int) == 32) = false := by
                rw [beq_eq_false_iff_ne]; intro e; exact n1 (UInt8.toNat_inj.1 (by rw [hzz]; show z = 32; omega))
              have z2 : ((z : Int) == 10) = false := by
                rw [beq_eq_false_iff_ne]; intro e; exact n2 (UInt8.toNat_inj.1 (by rw [hzz]; show z = 10; omega))
              have z3 : ((z : Int) == 35) = false := by
                rw [beq_eq_false_iff_ne]; intro e; exact n3 (UInt8.toNat_inj.1 (by rw [hzz]; show z = 35; omega))
              clear hd hbm n1 n2 n3 hzz
              go_wp2_with fail
              go_round
              case rel => exact ⟨k + 1, by go_num, by omega⟩
              case measure => simp [intOf]; omega
            · have hw1 : IntKind.i64.wrap ((i : Int) + 1) = i + 1 := by rw [IntKind.wrap_i64]; omega
              by_cases hi1 : i + 1 < N
              · obtain ⟨y, hy⟩ : ∃ y, WS[i + 1]? = some y := ⟨WS[i + 1]'(by rw [HN.out]; exact hi1), List.getElem?_eq_getElem _⟩
                obtain ⟨_, q2, q3⟩ := HCS.out (i + 1) y hy
                obtain ⟨_, _, hl6, hc6⟩ := HW.out.1 y (List.mem_of_getElem? hy)
                have hbef : Before x y.line y.col := by
                  have hp := List.pairwise_iff_getElem.1 HW.out.2 i (i + 1) (by rw [HN.out]; exact hlt) (by rw [HN.out]; exact hi1) (by omega)
                  have e1 : WS[i]'(by rw [HN.out]; exact hlt) = x := by
                    have := HX.out
                    rw [List.getElem?_eq_getElem (by rw [HN.out]; exact hlt)] at this
                    injection this
                  have e2 : WS[i + 1]'(by rw [HN.out]; exact hi1) = y := by
                    rw [List.getElem?_eq_getElem (by rw [HN.out]; exact hi1)] at hy
                    injection hy
                  rw [e1, e2] at hp
                  exact hp
                obtain ⟨L2, hL2⟩ : ∃ L2, y.line = L2 := ⟨_, rfl⟩
                obtain ⟨C2, hC2⟩ : ∃ C2, y.col = C2 := ⟨_, rfl⟩
                rw [hL2, hC2] at hbef
                unfold Before at hbef
                rw [HL.out.1, HL.out.2, ← HRN.out] at hbef
                rw [hL2] at q2 hl6
                rw [hC2] at q3 hc6
                clear hL2 hC2 hy
                have e1 : (i : Int) + 1 < (N : Int) := by omega
                have e0 : (0 : Int) ≤ (i : Int) + 1 := by omega
                have g1 : decide (IntKind.i64.wrap ((i : Int) + 1) < (N : Int)) = true := by rw [hw1]; exact decide_eq_true e1
                have g2 : decide ((i : Int) + 1 < (N : Int)) = true := decide_eq_true e1
                have hto : ((i : Int) + 1).toNat = i + 1 := by omega
                have hbI : (L : Int) < L2 ∨ ((L : Int) = L2 ∧ (C : Int) + n < C2) := by omega
                have hw2 : IntKind.i64.wrap ((C : Int) + (n : Int)) = (C : Int) + n := by rw [IntKind.wrap_i64]; omega
                clear hbef hl6 hc6 hl5 hc5 hl1 hc1 HL hLb hCb
                generalize (L : Int) = l at *
                generalize (L2 : Int) = l2 at *
                generalize (C : Int) = cI at *
                generalize (C2 : Int) = c2 at *
                rcases hbI with hbef | ⟨hLL, hbef⟩
                · have g3 : decide (l2 < l) = false := decide_eq_false (by omega)
                  have g4 : (l2 == l) = false := by rw [beq_eq_false_iff_ne]; omega
                  clear hbef
                  go_wp2_with fail
                  go_quiet (fail)
                  go_wp2_with fail
                  go_roundw
                  case rel => exact ⟨i + 1, by omega, by go_num, drewN_below hB _⟩
                  case measure => simp [intOf]; omega
                · subst hLL
                  have g3 : decide (l < l) = false := decide_eq_false (by omega)
                  have g4 : (l == l) = true := by simp
                  have g5 : decide (c2 ≤ cI + (n : Int)) = false := decide_eq_false (by omega)
                  have g6 : decide (c2 ≤ IntKind.i64.wrap (cI + (n : Int))) = false := by rw [hw2]; exact g5
                  clear hbef
                  go_wp2_with fail
                  go_quiet (fail)
                  go_wp2_with fail
                  go_roundw
                  case rel => exact ⟨i + 1, by omega, by go_num, drewN_below hB _⟩
                  case measure => simp [intOf]; omega
              · have g1 : decide (IntKind.i64.wrap ((i : Int) + 1) < (N : Int)) = false := by rw [hw1]; exact decide_eq_false (by omega)
                have g2 : decide ((i : Int) + 1 < (N : Int)) = false := decide_eq_false (by omega)
                go_wp2_with fail
                go_quiet (fail)
                go_wp2_with fail
                go_roundw
                case rel => exact ⟨i + 1, by omega, by go_num, drewN_below hB _⟩
                case measure => simp [intOf]; omega
    · go_wp2_with fail
      refine (awake_any _).mono ?_
      rintro e w2 ⟨rfl, hB3⟩
      have hB4 := below_next hB2 hB3
      go_wp2
      go_ret
      exact ⟨rfl, hB4⟩

theorem places_walk (s : ByteArray) (w : World) : Calls Try.prog 6 #[.string s] w fun e w' => e = .returned (.bool true) ∧ Below w.heap.size w w' := by
  by_cases h : (s.size : Int) > 4096
  · exact places_over s h w
  · have hl : s.data.toList.length ≤ 4096 := by rw [size_list]; omega
    by_cases hk : okAll (chop s.data.toList)
    · exact places_ok s (by omega) hk w
    · have := bad_not (chop s.data.toList) 1 1 (by omega) (by omega) hk
      exact places_bad s _ _ (ans_bad hl hk) (by omega) (by omega) w

end Go.Proofs.Ytnjhjjbdihbjbaa
