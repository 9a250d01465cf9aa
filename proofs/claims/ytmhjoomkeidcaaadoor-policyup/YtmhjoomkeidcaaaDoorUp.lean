/-
  The walk of the law PolicyUp.
-/
import Derived.Test.YtmhjoomkeidcaaaDoorFew
namespace Go.Proofs.YtmhjoomkeidcaaaDoor
open Go.RowKit L2
attribute [local go_sem] regrown_cell

theorem capped_min (most n : Nat) : Capped most n (min n most) := by unfold Capped; omega
theorem held_few {w : World} {a1 a2 a3 : Option Addr} {c1 c2 c3 : Nat} {p : Pol} (h : Held w a1 a2 a3 c1 c2 c3 p) (m1 m2 m3 : Nat) : Held w a1 a2 a3 c1 c2 c3 ⟨p.ds.take m1, p.ss.take m2, p.ls.take m3⟩ where
  d := take_lies h.d m1
  s := by
    show Lies w a2 (cellsS (p.ss.take m2))
    unfold cellsS; rw [flat_take cS 2 (fun _ => rfl)]; exact Lies.take h.s _
  l := by
    show Lies w a3 (cellsL (p.ls.take m3))
    unfold cellsL; rw [flat_take cL 4 (fun _ => rfl)]; exact Lies.take h.l _
  dc := by simp only [List.length_take]; have := h.dc; omega
  sc := by simp only [List.length_take]; have := h.sc; omega
  lc := by simp only [List.length_take]; have := h.lc; omega

set_option maxHeartbeats 8000000 in
set_option maxRecDepth 100000 in
theorem up_walk (a1 a2 a3 : Option Addr) (n1 n2 n3 c1 c2 c3 : Nat) (p : Pol) (w : World) (h1 : p.ds.length = n1) (h2 : p.ss.length = n2) (h3 : p.ls.length = n3) (hh : Held w a1 a2 a3 c1 c2 c3 p) :
    Calls Tryd.prog 3 #[.agg #[.slice a1 n1 c1, .slice a2 n2 c2, .slice a3 n3 c3]] w fun e w' => e = .returned (.bool true) ∧ Below w.heap.size w w' := by
  have hF := fun W => few_any a1 a2 a3 n1 n2 n3 (min n1 12) (min n2 20) (min n3 12) c1 c2 c3 (capped_min _ _) (capped_min _ _) (capped_min _ _) (by have := hh.dc; omega) (by have := hh.sc; omega) (by have := hh.lc; omega) W
  have hq := held_few hh (min n1 12) (min n2 20) (min n3 12)
  have e1 : (p.ds.take (min n1 12)).length = min n1 12 := by rw [List.length_take]; omega
  have e2 : (p.ss.take (min n2 20)).length = min n2 20 := by rw [List.length_take]; omega
  have e3 : (p.ls.take (min n3 12)).length = min n3 12 := by rw [List.length_take]; omega
  generalize p.ds.take (min n1 12) = ds at *
  generalize p.ss.take (min n2 20) = ss at *
  generalize p.ls.take (min n3 12) = ls at *
  have b1 : min n1 12 ≤ 12 := by omega
  have b2 : min n2 20 ≤ 20 := by omega
  have b3 : min n3 12 ≤ 12 := by omega
  generalize min n1 12 = nd at *
  generalize min n2 20 = ns at *
  generalize min n3 12 = nl at *
  have HQ : Hid (Held w a1 a2 a3 c1 c2 c3 ⟨ds, ss, ls⟩) := hq
  clear hh hq h1 h2 h3
  have hC := fun W hW => check_any a1 a2 a3 nd ns nl c1 c2 c3 ⟨ds, ss, ls⟩ W e1 e2 e3 hW
  have HZ : Hid (checkOf ⟨ds, ss, ls⟩ = 0 → (∀ i, i < nd → domE ds i = 0) ∧ (∀ i, i < nd → hasE ss i = 0) ∧ (∀ i, i < nl → linkE ds ls i = 0)) := fun h => by
    obtain ⟨_, h1, _, h2, h3⟩ := check_zero h
    dsimp only at h1 h2 h3
    rw [e1] at h1 h2
    rw [e3] at h3
    exact ⟨h1, h2, h3⟩
  generalize checkOf ⟨ds, ss, ls⟩ = ck at *
  go_enter Tryd.func3, Tryd.ntmps3
  go_wp2_with fail
  refine (hF _).mono ?_
  rintro e w1 ⟨rfl, hB1⟩
  have hBw : Below w.heap.size w w1 := (below1 _ _).trans (hB1.mono (by simp))
  have HQ1 : Hid (Held w1 a1 a2 a3 c1 c2 c3 ⟨ds, ss, ls⟩) := HQ.out.below hBw
  clear hF HQ hB1
  go_wp2_with fail
  refine (hC _ (HQ1.out.below (below1 _ _))).mono ?_
  rintro e w2 ⟨rfl, hB2⟩
  have hnx2 : Below (w1.heap.size + 1) (box3 w1 (.slice a1 nd c1) (.slice a2 ns c2) (.slice a3 nl c3)) w2 := by
    have := hB2
    rw [show (w1.alloc (.cells #[.slice a1 nd c1, .slice a2 ns c2, .slice a3 nl c3] 26)).heap.size = w1.heap.size + 1 by simp] at this
    exact this
  clear hB2 hC
  by_cases hck : ck = 0
  · obtain ⟨z1, z2, z3⟩ := HZ.out hck
    have Z1 : Hid (∀ i, i < nd → domE ds i = 0) := z1
    have Z2 : Hid (∀ i, i < nd → hasE ss i = 0) := z2
    have Z3 : Hid (∀ i, i < nl → linkE ds ls i = 0) := z3
    clear z1 z2 z3 HZ
    subst hck
    go_wp2_with fail
    go_loopw [4] (fun i wr => ∃ k : Nat, k ≤ nl ∧ i = .int .i64 k ∧ Below (w1.heap.size + 1) (box3 w1 (.slice a1 nd c1) (.slice a2 ns c2) (.slice a3 nl c3)) wr) (fun i _ => nl - (intOf i).toNat)
    case atStart => exact ⟨0, Nat.zero_le _, rfl, hnx2⟩
    case round =>
      clear hnx2
      obtain ⟨k, hk, rfl, hnx⟩ := hrel
      obtain ⟨hz0, x0, x1, x2⟩ := box3_cells hnx
      have hbw := box3_below hnx
      by_cases hlt : k < nl
      · obtain ⟨b, off, rfl, hb, q0, q1, q2, q3⟩ := (HQ1.out.below hbw).l.link (lk_at (i := k) (by rw [e3]; exact hlt))
        obtain ⟨y1, y2, y3⟩ := link_zero (Z3.out k hlt)
        rw [e1] at y1
        obtain ⟨a, c, ha, hc, hal, hcl⟩ := ends_nats y1
        unfold upB at y3
        rw [ha, hc] at y3
        simp only [Int.toNat_natCast] at y3
        rw [ha] at q1
        rw [hc] at q2
        clear y1 y2 ha hc
        generalize (lk ls k).kind = kk at *
        generalize (lk ls k).size = kz at *
        obtain ⟨b5, off5, rfl, hb5, _, d1, d2, _⟩ := (HQ1.out.below hbw).d.dom (dm_at (i := a) (by rw [e1]; exact hal))
        obtain ⟨b6, off6, hbe, _, _, d3, d4, _⟩ := (HQ1.out.below hbw).d.dom (dm_at (i := c) (by rw [e1]; exact hcl))
        injection hbe with hbe
        injection hbe with e5 e6
        subst e5 e6
        generalize dm ds a = A at *
        generalize dm ds c = C at *
        have HL : Hid (∀ W : World, Calls Tryd.prog 12 #[.agg #[.int .i64 A.lev, .int .i64 A.cat], .agg #[.int .i64 C.lev, .int .i64 C.cat]] W fun e w' => e = .returned (.bool true) ∧ Below W.heap.size W w') := fun W => by
          have := leq_any A.lev A.cat C.lev C.cat W
          rw [y3] at this
          exact this
        clear y3
        have g1 : (a : Int) < (nd : Int) := by omega
        have g2 : (c : Int) < (nd : Int) := by omega
        have g3 : (0 : Int) ≤ (a : Int) := by omega
        have g4 : (0 : Int) ≤ (c : Int) := by omega
        have f1 : decide ((a : Int) < 0) = false := decide_eq_false (by omega)
        have f2 : decide ((c : Int) < 0) = false := decide_eq_false (by omega)
        have f3 : decide ((nd : Int) ≤ (a : Int)) = false := decide_eq_false (by omega)
        have f4 : decide ((nd : Int) ≤ (c : Int)) = false := decide_eq_false (by omega)
        go_wp2_with fail
        refine wp_region_quiet_below (by kernel_rfl) (by kernel_rfl) ?_
        repeat (first | go_big_quiet_skip | quiet_step ((go_at_call 12; exact Calls.regrown_of (HL.out _))))
        refine wpQuiet_nil ?_
        intro w3 hw'
        have hb3 := below_of_regrown hw'
        clear hw'
        go_wp2_with fail
        go_roundw
        case rel => exact ⟨k + 1, by omega, by go_num, box3_next (box3_next hnx (below1 _ _)) hb3⟩
        case measure => simp [intOf]; omega
      · go_wp2_with fail
        clear x0 x1 x2 hz0 hbw hk hlt
        go_loopw [6] (fun i wr => ∃ k : Nat, k ≤ nd ∧ i = .int .i64 k ∧ Below (w1.heap.size + 1) (box3 w1 (.slice a1 nd c1) (.slice a2 ns c2) (.slice a3 nl c3)) wr) (fun i _ => nd - (intOf i).toNat)
        case atStart => exact ⟨0, Nat.zero_le _, rfl, hnx⟩
        case round =>
          clear hnx
          obtain ⟨i, hi, rfl, hnx⟩ := hrel
          obtain ⟨hz0, x0, x1, x2⟩ := box3_cells hnx
          have hbw := box3_below hnx
          by_cases hlt : i < nd
          · go_wp2_with fail
            go_loopw [7, 8] (fun nv kv wr => ∃ k : Nat, k ≤ ns ∧ kv = .int .i64 k ∧ nv = .int .i64 (cntS ss i k : Nat) ∧ Below (w1.heap.size + 1) (box3 w1 (.slice a1 nd c1) (.slice a2 ns c2) (.slice a3 nl c3)) wr) (fun _ kv _ => ns - (intOf kv).toNat)
            case atStart => exact ⟨0, Nat.zero_le _, rfl, rfl, hnx⟩
            case round =>
              clear hnx x0 x1 x2 hz0 hbw
              obtain ⟨k, hk, rfl, rfl, hnx⟩ := hrel
              obtain ⟨hz0, x0, x1, x2⟩ := box3_cells hnx
              have hbw := box3_below hnx
              have hcl := cntS_le ss i k
              by_cases hkt : k < ns
              · obtain ⟨b, off, rfl, hb, q0, q1⟩ := (HQ1.out.below hbw).s.slot (sl_at (i := k) (by rw [e2]; exact hkt))
                have HCN : Hid (cntS ss i (k + 1) = cntS ss i k + (if (sl ss k).dom == (i : Int) then 1 else 0)) := cntS_next (by omega)
                generalize sl ss k = d at *
                generalize cntS ss i k = cn at *
                cases hd : (d.dom == (i : Int))
                · rw [hd] at HCN
                  go_wp2_with fail
                  go_roundw
                  case rel => exact ⟨k + 1, by omega, by go_num, by rw [HCN.out]; rfl, hnx⟩
                  case measure => simp [intOf]; omega
                · rw [hd] at HCN
                  go_wp2_with fail
                  go_roundw
                  case rel => exact ⟨k + 1, by omega, by go_num, by rw [HCN.out]; go_num, hnx⟩
                  case measure => simp [intOf]; omega
              · obtain rfl : k = ns := by omega
                have hps := cntS_pos (has_zero (Z2.out i hlt))
                rw [e2] at hps
                have hn0 : ((cntS ss i k : Nat) : Int) ≠ 0 := by omega
                have hnb : (((cntS ss i k : Nat) : Int) == 0) = false := by simpa using hn0
                clear hps hn0
                generalize ((cntS ss i k : Nat) : Int) = cn at *
                obtain ⟨b, off, rfl, hb, _, d1, d2, _⟩ := (HQ1.out.below hbw).d.dom (dm_at (i := i) (by rw [e1]; exact hlt))
                have hgd := (dom_zero (Z1.out i hlt)).2.1
                generalize dm ds i = A at *
                have hG := fun W => good_any A.lev A.cat W
                rw [hgd] at hG
                clear hgd
                go_wp2_with fail
                refine (hG _).mono ?_
                rintro e w5 ⟨rfl, hb5⟩
                go_wp2_with fail
                go_roundw
                case rel => exact ⟨i + 1, by omega, by go_num, box3_next hnx hb5⟩
                case measure => simp [intOf]; omega
          · go_wp2_with fail
            refine (awake_any _).mono ?_
            rintro e w5 ⟨rfl, hb5⟩
            go_wp2
            go_ret
            exact ⟨rfl, below_next (below_next hBw (box3_below hnx)) hb5⟩
  · have hcb : ((ck : Int) != 0) = true := by simp; omega
    clear hck
    go_wp2_with fail
    refine (awake_any _).mono ?_
    rintro e w3 ⟨rfl, hb3⟩
    go_wp2
    go_ret
    exact ⟨rfl, below_next (below_next hBw (box3_below hnx2)) hb3⟩

end Go.Proofs.YtmhjoomkeidcaaaDoor
