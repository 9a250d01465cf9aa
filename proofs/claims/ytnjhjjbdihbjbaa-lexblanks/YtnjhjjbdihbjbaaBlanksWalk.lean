/-
  The walk of the law LexBlanks.
-/
import Derived.Test.YtnjhjjbdihbjbaaBlanks
import Derived.Test.YtnjhjjbdihbjbaaTwoThird
namespace Go.Proofs.Ytnjhjjbdihbjbaa
open Go.RowKit

theorem blank_list (T u r : ByteArray) (n : Nat) (hT : T.data.toList = List.replicate n 32) : (T ++ u ++ (⟨#[35]⟩ : ByteArray) ++ r).data.toList = List.replicate n 32 ++ (u.data.toList ++ 35 :: r.data.toList) := by
  rw [ba_append, ba_append, ba_append, hT]
  simp

/-- Where the moving of the columns stands. -/
structure ColAt (w w1 : World) (WS : List Wd) (n j : Nat) (v1 v2 : Value) (wr : World) : Prop where
  own1 : Own wr w.heap.size v1 ((WS.take j).map (shiftC n) ++ WS.drop j)
  own2 : Own wr w1.heap.size v2 (WS.map (shiftC n))
  below : Below w.heap.size w wr

theorem ColAt.next {w w1 wr : World} {WS : List Wd} {n j g len cap : Nat} {v2 : Value} {x : Wd} (h : ColAt w w1 WS n j (.slice (some ⟨g, 0, none⟩) len cap) v2 wr) (hx : WS[j]? = some x) (hg : g < w1.heap.size) :
    ColAt w w1 WS n (j + 1) (.slice (some ⟨g, 0, none⟩) len cap) v2 (wr.setCell ⟨g, j * 3 + 2, none⟩ (.int .i64 ((x.col + n : Nat) : Int))) where
  own1 := by
    have h1 := owns_set h.own1 (g := g) rfl (j * 3 + 2) (.int .i64 ((x.col + n : Nat) : Int))
    have hl : ((WS.take j).map (shiftC n)).length = j := by
      rw [List.length_map, List.length_take]
      have := (List.getElem?_eq_some_iff.1 hx).1
      omega
    have e := cellsW_col ((WS.take j).map (shiftC n)) (WS.drop (j + 1)) x (x.col + n)
    rw [hl] at e
    rw [map_take_at WS (shiftC n) j x hx, e] at h1
    rw [map_take_next WS (shiftC n) j x hx]
    unfold Own
    have e2 : ((WS.take j).map (shiftC n) ++ shiftC n x :: WS.drop (j + 1)).length = ((WS.take j).map (shiftC n) ++ x :: WS.drop (j + 1)).length := by simp
    rw [e2]
    exact h1
  own2 := h.own2.kept fun b hb _ => Below.heap_setCell _ _ _ _ (by simp only; omega)
  below := h.below.setCell (by have := (World.ownsRow.lt h.own1 g rfl).1; simp only; omega) _

set_option maxHeartbeats 4000000 in
set_option maxRecDepth 100000 in
theorem blanks_walk (s r : ByteArray) (n : Nat) (hn : n ≤ 255) (hs : s.size ≤ 140737488351232) (hr : r.size ≤ 140737488351232) (w : World) :
    Calls Try.prog 5 #[.string s, .string r, .int .u8 n] w fun e w' => e = .returned (.bool true) ∧ Below w.heap.size w w' := by
  go_enter Try.func5, Try.ntmps5
  go_wp2
  go_loop [0, 7] (fun sv iv => ∃ (u : ByteArray) (k : Nat), sv = .string u ∧ iv = .int .i64 k ∧ CutAt 10 s u k ∧ k ≤ s.size + 1) (fun _ i => s.size + 2 - (intOf i).toNat)
  case atStart => exact ⟨s, 0, rfl, rfl, Or.inl ⟨rfl, by omega, by simp⟩, by omega⟩
  case round =>
    obtain ⟨u, k, rfl, rfl, hcut, hkz⟩ := hrel
    by_cases hk : (k : Int) < u.size
    · obtain ⟨rfl, hno⟩ := hcut.at (by omega)
      have hks : k < u.size := by omega
      obtain ⟨b, hd, hb⟩ := byte_at hks
      by_cases hb10 : b = 10
      · have hC := CutAt.found hks hno hd hb10
        have hb2 : (u[k]'hks).toNat = 10 := by rw [hb, hb10]; rfl
        clear hb hcut hno hd hb10
        go_wp2
        go_round
        case rel => exact ⟨_, k + 1, rfl, by go_num, hC, by omega⟩
        case measure => simp [intOf]; omega
      · have hC := CutAt.next hks hno hd hb10
        obtain ⟨x, hx⟩ : ∃ x, b.toNat = x := ⟨_, rfl⟩
        rw [hx] at hb
        have hxb : ((x : Int) == 10) = false := by
          rw [beq_eq_false_iff_ne]
          intro e
          exact hb10 (UInt8.toNat_inj.1 (by rw [hx]; show x = 10; omega))
        clear hcut hno hd hb10 hx
        go_wp2
        go_round
        case rel => exact ⟨_, k + 1, rfl, by go_num, hC, by omega⟩
        case measure => simp [intOf]; omega
    · obtain ⟨hul, hus⟩ := hcut.done (by omega)
      have HU : Hid ((10 : UInt8) ∉ u.data.toList) := by rw [hul]; exact cut_not _ _
      clear hcut hkz hul
      go_wp2
      go_loop [1, 8] (fun sv iv => ∃ (v : ByteArray) (k : Nat), sv = .string v ∧ iv = .int .i64 k ∧ CutAt 10 r v k ∧ k ≤ r.size + 1) (fun _ i => r.size + 2 - (intOf i).toNat)
      case atStart => exact ⟨r, 0, rfl, rfl, Or.inl ⟨rfl, by omega, by simp⟩, by omega⟩
      case round =>
        obtain ⟨v, k, rfl, rfl, hcut, hkz⟩ := hrel
        by_cases hk : (k : Int) < v.size
        · obtain ⟨rfl, hno⟩ := hcut.at (by omega)
          have hks : k < v.size := by omega
          obtain ⟨b, hd, hb⟩ := byte_at hks
          by_cases hb10 : b = 10
          · have hC := CutAt.found hks hno hd hb10
            have hb2 : (v[k]'hks).toNat = 10 := by rw [hb, hb10]; rfl
            clear hb hcut hno hd hb10
            go_wp2
            go_round
            case rel => exact ⟨_, k + 1, rfl, by go_num, hC, by omega⟩
            case measure => simp [intOf]; omega
          · have hC := CutAt.next hks hno hd hb10
            obtain ⟨x, hx⟩ : ∃ x, b.toNat = x := ⟨_, rfl⟩
            rw [hx] at hb
            have hxb : ((x : Int) == 10) = false := by
              rw [beq_eq_false_iff_ne]
              intro e
              exact hb10 (UInt8.toNat_inj.1 (by rw [hx]; show x = 10; omega))
            clear hcut hno hd hb10 hx
            go_wp2
            go_round
            case rel => exact ⟨_, k + 1, rfl, by go_num, hC, by omega⟩
            case measure => simp [intOf]; omega
        · obtain ⟨hvl, hvs⟩ := hcut.done (by omega)
          have HV : Hid ((10 : UInt8) ∉ v.data.toList) := by rw [hvl]; exact cut_not _ _
          clear hcut hkz hvl
          by_cases hsum : (u.size : Int) + v.size > 3000
          · go_wp2_with fail
            refine (awake_any _).mono ?_
            rintro e w1 ⟨rfl, hB⟩
            go_wp2
            go_ret
            exact ⟨rfl, hB⟩
          · have hwn : wrap64 (n : Int) = n := wrap_byte (by omega)
            go_wp2_with fail
            go_loop [9, 10] (fun tv iv => ∃ (T : ByteArray) (k : Nat), tv = .string T ∧ iv = .int .i64 k ∧ T.data.toList = List.replicate k 32 ∧ k ≤ n) (fun _ i => n - (intOf i).toNat)
            case atStart => exact ⟨⟨#[]⟩, 0, rfl, rfl, rfl, Nat.zero_le _⟩
            case round =>
              obtain ⟨T, k, rfl, rfl, hT, hk⟩ := hrel
              have hTz : T.size = k := by rw [← size_list, hT, List.length_replicate]
              by_cases hkn : (k : Int) < n
              · have hT2 : (T ++ (⟨#[32]⟩ : ByteArray)).data.toList = List.replicate (k + 1) 32 := by rw [ba_append, hT, List.replicate_succ']
                have HT : Hid ((T ++ (⟨#[32]⟩ : ByteArray)).data.toList = List.replicate (k + 1) 32) := hT2
                clear hT hT2
                go_wp2_with fail
                go_round
                case rel => exact ⟨_, k + 1, rfl, by go_num, HT.out, by omega⟩
                case measure => simp [intOf]; omega
              · obtain rfl : k = n := by omega
                have H1 := fun w => words_any u w
                have H2 := fun w => words_any (T ++ u ++ (⟨#[35]⟩ : ByteArray) ++ v) w
                have H3 := fun w => words_any v w
                rw [blank_list T u v k hT] at H2
                clear hT
                rcases blanks_cases u.data.toList v.data.toList k hn HU.out HV.out (by rw [size_list, size_list]; omega) with ⟨p, q, p', q', h1, h2⟩ | ⟨WS, p, q, p', q', h1, h2, h3⟩ | ⟨WS, WR, h1, h2, h3, h4, h5⟩
                · rw [h1] at H1
                  rw [h2] at H2
                  generalize ansOf v.data.toList = B at H3
                  obtain ⟨LB, EB, PB, QB⟩ := B
                  clear h1 h2
                  go_wp2_with fail
                  refine (H1 _).mono ?_
                  rintro e w1 ⟨v1, rfl, hO1, hB1⟩
                  go_wp2_with fail
                  refine (H2 _).mono ?_
                  rintro e w2 ⟨v2, rfl, hO2, hB2⟩
                  go_wp2_with fail
                  refine (H3 _).mono ?_
                  rintro e w3 ⟨v3, rfl, hO3, hB3⟩
                  have hB4 := below_next (below_next hB1 hB2) hB3
                  clear hO1 hO2 hO3 hB1 hB2 hB3
                  go_wp2_with fail
                  refine (awake_any _).mono ?_
                  rintro e w4 ⟨rfl, hB5⟩
                  have hB6 := below_next hB4 hB5
                  go_wp2
                  go_ret
                  exact ⟨rfl, hB6⟩
                · rw [h1] at H1
                  rw [h3] at H2
                  rw [h2] at H3
                  clear h1 h2 h3
                  go_wp2_with fail
                  refine (H1 _).mono ?_
                  rintro e w1 ⟨v1, rfl, hO1, hB1⟩
                  go_wp2_with fail
                  refine (H2 _).mono ?_
                  rintro e w2 ⟨v2, rfl, hO2, hB2⟩
                  go_wp2_with fail
                  refine (H3 _).mono ?_
                  rintro e w3 ⟨v3, rfl, hO3, hB3⟩
                  have hB4 := below_next (below_next hB1 hB2) hB3
                  clear hO1 hO2 hO3 hB1 hB2 hB3
                  go_wp2_with fail
                  refine (awake_any _).mono ?_
                  rintro e w4 ⟨rfl, hB5⟩
                  have hB6 := below_next hB4 hB5
                  go_wp2
                  go_ret
                  exact ⟨rfl, hB6⟩
                · rw [h1] at H1
                  rw [h3] at H2
                  rw [h2] at H3
                  clear h1 h2 h3
                  have HC : Hid (∀ x ∈ WS, x.col ≤ 5000) := h5
                  clear h5
                  go_wp2_with fail
                  refine (H1 _).mono ?_
                  rintro e w1 ⟨v1, rfl, hO1, hB1⟩
                  go_wp2_with fail
                  refine (H2 _).mono ?_
                  rintro e w2 ⟨v2, rfl, hO2, hB2⟩
                  go_wp2_with fail
                  refine (H3 _).mono ?_
                  rintro e w3 ⟨v3, rfl, hO3, hB3⟩
                  have hB4 := below_next (below_next hB1 hB2) hB3
                  have HO : Hid (Own w3 w.heap.size v1 WS ∧ Own w3 w1.heap.size v2 (WS.map (shiftC k)) ∧ ∀ g, v1.ownBlock = some g → g < w1.heap.size) := ⟨(hO1.below hB2).below hB3, hO2.below hB3, fun g hg => (World.ownsRow.lt hO1 g hg).2⟩
                  obtain ⟨a1, c1, rfl, _⟩ := hO1.form
                  clear hO1 hO2 hO3 hB1 hB2 hB3
                  go_wp2_with fail
                  go_loopw [23] (fun iv wr => ∃ j : Nat, j ≤ WS.length ∧ iv = .int .i64 j ∧ ColAt w w1 WS k j (.slice a1 WS.length c1) v2 wr) (fun i _ => WS.length - (intOf i).toNat)
                  case atStart => exact ⟨0, Nat.zero_le _, rfl, by rw [List.take_zero, List.map_nil, List.nil_append, List.drop_zero]; exact HO.out.1, HO.out.2.1, hB4⟩
                  case round =>
                    obtain ⟨j, hj, rfl, hS⟩ := hrel
                    by_cases hjl : j < WS.length
                    · obtain ⟨x, hx⟩ : ∃ x, WS[j]? = some x := ⟨WS[j]'hjl, List.getElem?_eq_getElem hjl⟩
                      have hlen : ((WS.take j).map (shiftC k) ++ WS.drop j).length = WS.length := by simp; omega
                      have hO1 : wr.ownsRow w.heap.size 32 3 (.slice a1 WS.length c1) WS.length (cellsW ((WS.take j).map (shiftC k) ++ WS.drop j)) := by
                        have := hS.own1
                        unfold Own at this
                        rwa [hlen] at this
                      obtain ⟨g, c', hv, hg1, hg2⟩ := hO1.form (by omega)
                      injection hv with hv1 hv2 hv3
                      subst hv1 hv3
                      obtain ⟨hcell, hfroz, _, _⟩ := owns_cell hO1
                      have hxx : ((WS.take j).map (shiftC k) ++ WS.drop j)[j]? = some x := by
                        rw [map_take_at WS (shiftC k) j x hx, List.getElem?_append_right (by simp; omega)]
                        have : j - ((WS.take j).map (shiftC k)).length = 0 := by simp; omega
                        rw [this]; rfl
                      obtain ⟨_, _, e3⟩ := cellsW_at _ j x hxx
                      have q2 : wr.cell? ⟨g, j * 3 + 2, none⟩ = some (.int .i64 x.col) := hcell _ _ e3
                      have f2 : wr.frozen? ⟨g, j * 3 + 2, none⟩ = false := hfroz _
                      have hcx := HC.out x (List.mem_of_getElem? hx)
                      have hN := hS.next hx (HO.out.2.2 g rfl)
                      have HN : Hid (ColAt w w1 WS k (j + 1) (.slice (some ⟨g, 0, none⟩) WS.length c1) v2 (wr.setCell ⟨g, j * 3 + 2, none⟩ (.int .i64 ((x.col + k : Nat) : Int)))) := hN
                      have t1 : ((x.col + k : Nat) : Int) = (x.col : Int) + k := by omega
                      rw [t1] at HN
                      clear hS hcell hfroz hxx e3 hN hO1 hlen t1 hx
                      generalize (x.col : Nat) = Q at *
                      go_wp2_with fail
                      go_roundw
                      case rel => exact ⟨j + 1, by omega, by go_num, HN.out⟩
                      case measure => simp [intOf]; omega
                    · have hO1 := hS.own1
                      rw [List.take_of_length_le (by omega), List.drop_of_length_le (by omega), List.append_nil] at hO1
                      have hO2 := hS.own2
                      have hB5 := hS.below
                      obtain ⟨a5, c5, hv5, _, hR5⟩ := hO1.row
                      obtain ⟨a3, c3, rfl, _, hR3⟩ := hO2.row
                      rw [List.length_map] at hv5
                      injection hv5 with e1 e2 e3
                      subst e1 e3
                      have HR : Hid (Row wr a1 (WS.map (shiftC k)) ∧ Row wr a3 (WS.map (shiftC k))) := ⟨hR5, hR3⟩
                      have hL : (WS.map (shiftC k)).length ≤ 5000 := by rw [List.length_map]; omega
                      have HA := fun W h1 h2 => alike_same a1 a3 c1 c3 (WS.map (shiftC k)) W hL h1 h2
                      have hlm : (WS.map (shiftC k)).length = WS.length := List.length_map _
                      rw [hlm] at HA
                      rw [hlm]
                      clear hS hO1 hO2 hR5 hR3 HO hlm
                      go_wp2_with fail
                      refine (awake_any _).mono ?_
                      rintro e w6 ⟨rfl, hB6⟩
                      have hB7 := below_next hB5 hB6
                      go_wp2_with fail
                      refine (HA _ (HR.out.1.below hB6) (HR.out.2.below hB6)).mono ?_
                      rintro e w7 ⟨rfl, hB8⟩
                      have hB9 := below_next hB7 hB8
                      go_wp2
                      go_ret
                      exact ⟨rfl, hB9⟩

end Go.Proofs.Ytnjhjjbdihbjbaa
