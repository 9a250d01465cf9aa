/-
  The walk of the law LabelBelow.
-/
import Derived.Test.YtkecnjahknjblaaSome
import Derived.Deep.DeepCutAuto
namespace Go.Proofs.Ytkecnjahknjblaa
open Go.RowKit
attribute [local go_sem] regrown_cell

/-- The world behind the boxes of two labels. -/
def box2 (w : World) (al ac bl bc : Int) : World := (w.alloc (.cells #[.int .i64 al, .int .i64 ac] 23)).alloc (.cells #[.int .i64 bl, .int .i64 bc] 23)
theorem box2_size (w : World) (al ac bl bc : Int) : (box2 w al ac bl bc).heap.size = w.heap.size + 2 := by simp [box2]
theorem box2_cells {w w' : World} {al ac bl bc : Int} (h : Below (w.heap.size + 2) (box2 w al ac bl bc) w') :
    w.heap.size < w'.heap.size ∧ w.heap.size + 1 < w'.heap.size ∧ w'.cell? ⟨w.heap.size, 0, none⟩ = some (.int .i64 al) ∧ w'.cell? ⟨w.heap.size, 1, none⟩ = some (.int .i64 ac) ∧ w'.cell? ⟨w.heap.size + 1, 0, none⟩ = some (.int .i64 bl) ∧ w'.cell? ⟨w.heap.size + 1, 1, none⟩ = some (.int .i64 bc) := by
  have hs := h.size
  rw [box2_size] at hs
  refine ⟨by omega, by omega, ?_, ?_, ?_, ?_⟩
  all_goals
    rw [h.cell (by simp only; omega)]
    simp [box2, go_sem]
theorem box2_below (w : World) (al ac bl bc : Int) : Below w.heap.size w (box2 w al ac bl bc) := below2 w _ _
theorem box2_row {w w' : World} {al ac bl bc : Int} {ad : Option Addr} {ls : List (Int × Int)} (hr : LabRow w ad ls) (h : Below (w.heap.size + 2) (box2 w al ac bl bc) w') : LabRow w' ad ls :=
  hr.below ((box2_below w al ac bl bc).trans (h.mono (by omega)))

theorem below_form (ad : Option Addr) (len cap : Nat) (ls : List (Int × Int)) (tl tc : Int) (w : World) (hl : ls.length = len) (hlen : len ≤ 100) (hrow : LabRow w ad ls) :
    Calls Try.prog 16 #[.slice ad len cap, .agg #[.int .i64 tl, .int .i64 tc]] w fun e w' =>
      ∃ ao cp, e = .returned (.slice ao (pl ls tl tc len).length cp) ∧ NatRow w' ao (pl ls tl tc len) ∧ Below w.heap.size w w' :=
  (below_any ad len cap ls tl tc w hl hlen hrow).mono fun e w' ⟨v, he, ho, hb⟩ => by
    obtain ⟨ao, cp, hv, hr⟩ := owns_form ho
    exact ⟨ao, cp, by rw [he, hv], hr, hb⟩

theorem start_owns {ls : List (Int × Int)} (w : World) (al ac bl bc : Int) :
    ((box2 w al ac bl bc).alloc (.cells #[] 3)).ownsRow (w.heap.size + 2) 3 1 (.slice (some ⟨(box2 w al ac bl bc).heap.size, 0, none⟩) 0 0) (pl ls al ac 0).length (cellsOf (pl ls al ac 0)) :=
  World.ownsRow_lit _ #[] 0 (Nat.le_of_eq (box2_size w al ac bl bc).symm) (by unfold maxLen; omega) rfl

set_option maxHeartbeats 4000000 in
set_option maxRecDepth 100000 in
theorem list_walk (ad : Option Addr) (len cap n : Nat) (ls : List (Int × Int)) (al ac bl bc : Int) (w : World) (hn : len ≤ 100 ∧ n = len ∨ 100 < len ∧ n = 100) (hcap : len ≤ cap) (hmax : cap ≤ maxLen) (hl : ls.length = n) (hrow : LabRow w ad ls) :
    Calls Try.prog 6 #[.slice ad len cap, .agg #[.int .i64 al, .int .i64 ac], .agg #[.int .i64 bl, .int .i64 bc]] w fun e w' => e = .returned (.bool true) ∧ Below w.heap.size w w' := by
  obtain ⟨i0, hi, hz0, hz1, hz2⟩ := info_parts info3
  have HR : Hid (LabRow w ad ls) := hrow
  have HM : Hid (cap ≤ maxLen) := hmax
  clear hrow hmax
  go_enter Try.func6, Try.ntmps6
  go_upto_if 15 with fail
  go_cut [0] (fun s0 w' => s0 = .slice ad n cap ∧ w' = box2 w al ac bl bc)
  case first =>
    rcases hn with ⟨h1, rfl⟩ | ⟨h1, rfl⟩
    all_goals
      go_wp2
      go_meet
      exact ⟨rfl, rfl⟩
  case rest =>
    have hn100 : n ≤ 100 := by omega
    clear hn hcap
    obtain ⟨rfl, rfl⟩ := hcut
    go_wp2
    go_loopw [7, 8] (fun v i wr => ∃ k : Nat, k ≤ n ∧ i = .int .i64 k ∧ wr.ownsRow (w.heap.size + 2) 3 1 v (pl ls al ac k).length (cellsOf (pl ls al ac k)) ∧ Below (w.heap.size + 2) (box2 w al ac bl bc) wr)
      (fun _ i _ => n - (intOf i).toNat)
    case atStart => exact ⟨0, Nat.zero_le _, rfl, start_owns w al ac bl bc, (Below.refl _ _).alloc (Nat.le_of_eq (box2_size w al ac bl bc).symm) _⟩
    case round =>
      obtain ⟨k, hk, rfl, hown, hnx⟩ := hrel
      obtain ⟨s1, s2, t0, t1, t2, t3⟩ := box2_cells hnx
      by_cases hlt : k < n
      · obtain ⟨b, off, rfl, hb, hcs⟩ : ∃ b off, ad = some ⟨b, off, none⟩ ∧ b < wr.heap.size ∧ ∀ i, i < ls.length → wr.cell? ⟨b, off + i * 2, none⟩ = some (.int .i64 (lv ls i)) ∧ wr.cell? ⟨b, off + i * 2 + 1, none⟩ = some (.int .i64 (ct ls i)) := by
          rcases box2_row HR.out hnx with h | h
          · rw [h] at hl; simp at hl; omega
          · exact h
        obtain ⟨c0, c1⟩ := hcs k (by omega)
        clear hcs
        have b1 : (k : Int) < (n : Int) := by omega
        have b0 : (0 : Int) ≤ (k : Int) := by omega
        have hp := pl_le ls al ac k
        cases hq : flowsAt ls al ac k
        · have cQ : ∀ W : World, Calls Try.prog 13 #[.agg #[.int .i64 (lv ls k), .int .i64 (ct ls k)], .agg #[.int .i64 al, .int .i64 ac]] W fun e w' => e = .returned (.bool false) ∧ Below W.heap.size W w' := fun W => by
            have h := refLeq_any (lv ls k) (ct ls k) al ac W
            rw [show leqB (lv ls k) (ct ls k) al ac = false from hq] at h
            exact h
          have CQ : Hid (∀ W : World, Calls Try.prog 13 #[.agg #[.int .i64 (lv ls k), .int .i64 (ct ls k)], .agg #[.int .i64 al, .int .i64 ac]] W fun e w' => e = .returned (.bool false) ∧ Below W.heap.size W w') := cQ
          clear cQ
          go_wp2_with fail
          refine wp_region_quiet_below (by kernel_rfl) (by kernel_rfl) ?_
          repeat (first | go_big_quiet_skip | quiet_step ((go_at_call 13; exact Calls.regrown_of (CQ.out _))))
          refine wpQuiet_nil ?_
          intro w1 hw'
          have hb1 := below_of_regrown hw'
          clear hw'
          have hown1 := owns_below hown hb1
          have hnx1 := hnx.trans (hb1.mono (by omega))
          go_wp2
          go_roundw
          case rel => exact ⟨k + 1, by omega, by go_num, by rw [pl_no hq]; exact hown1, hnx1⟩
          case measure => simp [intOf]; omega
        · have cQ : ∀ W : World, Calls Try.prog 13 #[.agg #[.int .i64 (lv ls k), .int .i64 (ct ls k)], .agg #[.int .i64 al, .int .i64 ac]] W fun e w' => e = .returned (.bool true) ∧ Below W.heap.size W w' := fun W => by
            have h := refLeq_any (lv ls k) (ct ls k) al ac W
            rw [show leqB (lv ls k) (ct ls k) al ac = true from hq] at h
            exact h
          have CQ : Hid (∀ W : World, Calls Try.prog 13 #[.agg #[.int .i64 (lv ls k), .int .i64 (ct ls k)], .agg #[.int .i64 al, .int .i64 ac]] W fun e w' => e = .returned (.bool true) ∧ Below W.heap.size W w') := cQ
          clear cQ
          go_wp2_with fail
          refine wp_region_quiet_below (by kernel_rfl) (by kernel_rfl) ?_
          repeat (first | go_big_quiet_skip | quiet_step ((go_at_call 13; exact Calls.regrown_of (CQ.out _))))
          refine wpQuiet_nil ?_
          intro w1 hw'
          have hb1 := below_of_regrown hw'
          clear hw'
          have hown1 := owns_below hown hb1
          have hnx1 := hnx.trans (hb1.mono (by omega))
          have hz := hb1.size
          go_wp2_with (at_builtin; refine wpList_append_own _ rfl _ _ 30 rfl (w.heap.size + 2) 3 i0 (.int .i64 0) 1 8 Try.underlying30 hi hz0 hz1 hz2 rfl (by decide) _ _ _ rfl (hown1.alloc _) ⟨w1.heap.size, 0, none⟩ 1 1 [.int .i64 (k : Int)] rfl rfl ?c1 ?c2 ?c3 ?c4 ?c5 ?_)
          case c1 =>
            intro j u hj
            match j, hj with
            | 0, hj => simp at hj; subst hj; simp [Addr.add]
          case c2 => intro u hu; simp at hu; subst hu; rfl
          case c3 => unfold maxLen; omega
          case c4 => omega
          case c5 => simp; omega
          intro v' w3 hown' hgrow _
          have R := rel_yes (by omega) hq hown1 hnx1 hown' hgrow
          clear hown' hgrow hown hown1
          go_wp2
          go_roundw
          case rel => exact ⟨k + 1, by omega, by go_num, R.1, R.2⟩
          case measure => simp [intOf]; omega
      · obtain rfl : k = n := by omega
        obtain ⟨aw, cw, hv, rw0⟩ := owns_form hown
        subst hv
        have hr0 := box2_row HR.out hnx
        have R0 : Hid (NatRow wr aw (pl ls al ac k)) := rw0
        have RL : Hid (LabRow wr ad ls) := hr0
        clear rw0 hr0 hown
        have HF : Hid ((pl ls (max al bl) (bits .or .i64 ac bc) k).filter (flowsAt ls al ac) = pl ls al ac k) := pl_both ls al ac _ _ k (flows_join ls al ac bl bc)
        have hpm := pl_le ls (max al bl) (bits .or .i64 ac bc) k
        have hpl := pl_le ls al ac k
        go_wp2_with fail
        refine (below_form ad k cap ls al ac _ hl hn100 RL.out).mono ?_
        rintro e w1 ⟨a1, cp1, rfl, r1, hb1⟩
        have hN1 := hnx.trans (hb1.mono (by omega))
        clear s1 s2 t0 t1 t2 t3
        obtain ⟨s1, s2, t0, t1, t2, t3⟩ := box2_cells hN1
        have R1 : Hid (NatRow w1 a1 (pl ls al ac k) ∧ NatRow w1 aw (pl ls al ac k) ∧ LabRow w1 ad ls) := ⟨r1, R0.out.below hb1, RL.out.below hb1⟩
        clear r1 R0 RL
        go_wp2_with fail
        refine (join_any _ _ _ _ _).mono ?_
        rintro e w2 ⟨rfl, hb2⟩
        go_wp2_with fail
        refine (below_form ad k cap ls (max al bl) (bits .or .i64 ac bc) _ hl hn100 (R1.out.2.2.below hb2)).mono ?_
        rintro e w3 ⟨a2, cp2, rfl, r2, hb3⟩
        have hN3 := (hN1.trans (hb2.mono (by omega))).trans (hb3.mono (by have := hb2.size; omega))
        have R3 : Hid (NatRow w3 a1 (pl ls al ac k) ∧ NatRow w3 aw (pl ls al ac k) ∧ NatRow w3 a2 (pl ls (max al bl) (bits .or .i64 ac bc) k)) := ⟨(R1.out.1.below hb2).below hb3, (R1.out.2.1.below hb2).below hb3, r2⟩
        clear r2 R1 hb1 hb2 hb3 hN1 hnx s1 s2 t0 t1 t2 t3
        generalize pl ls (max al bl) (bits .or .i64 ac bc) k = lM at *
        generalize hLL : pl ls al ac k = lL at *
        generalize flowsAt ls al ac = P at *
        clear hLL
        go_wp2
        go_loopw [11, 12] (fun kk i w' => ∃ j : Nat, j ≤ lM.length ∧ i = .int .i64 j ∧ kk = .int .i64 ((cnt lM P j : Nat) : Int) ∧ Below w3.heap.size w3 w') (fun _ i _ => lM.length - (intOf i).toNat)
        case atStart => exact ⟨0, Nat.zero_le _, rfl, by rw [cnt_zero]; rfl, Below.refl _ _⟩
        case round =>
          obtain ⟨j, hj, rfl, rfl, hnx⟩ := hrel
          have hcl : cnt lM P j ≤ lL.length := by have := cnt_le lM P j; rw [HF.out] at this; exact this
          by_cases hin : j < lM.length ∧ cnt lM P j < lL.length
          · obtain ⟨hj1, hj2⟩ := hin
            obtain ⟨g1, rfl, q1⟩ : ∃ g, a1 = some ⟨g, 0, none⟩ ∧ wr.cell? ⟨g, cnt lM P j, none⟩ = some (.int .i64 ((lL.getD (cnt lM P j) 0 : Nat) : Int)) := by
              rcases R3.out.1.below hnx with h | ⟨g, h1, _, h3⟩
              · rw [h] at hj2; simp at hj2
              · exact ⟨g, h1, h3 _ hj2⟩
            obtain ⟨g2, rfl, q2⟩ : ∃ g, a2 = some ⟨g, 0, none⟩ ∧ wr.cell? ⟨g, j, none⟩ = some (.int .i64 ((lM.getD j 0 : Nat) : Int)) := by
              rcases R3.out.2.2.below hnx with h | ⟨g, h1, _, h3⟩
              · rw [h] at hj1; simp at hj1
              · exact ⟨g, h1, h3 _ hj1⟩
            have d1 : (j : Int) < (lM.length : Int) := by omega
            have d0 : (0 : Int) ≤ (j : Int) := by omega
            have d3 : ((cnt lM P j : Nat) : Int) < (lL.length : Int) := by omega
            have d2 : (0 : Int) ≤ ((cnt lM P j : Nat) : Int) := by omega
            cases hp : P (lM.getD j 0)
            · have hne : ¬ ((lM.getD j 0 : Nat) : Int) = ((lL.getD (cnt lM P j) 0 : Nat) : Int) := by
                have := not_found (m := lM) (P := P) (j := j) (i := cnt lM P j) hp (by rw [HF.out]; exact hj2)
                rw [HF.out] at this
                omega
              have HC : Hid (cnt lM P (j + 1) = cnt lM P j) := cnt_no hj1 hp
              clear hp
              generalize ((lM.getD j 0 : Nat) : Int) = x at *
              generalize ((lL.getD (cnt lM P j) 0 : Nat) : Int) = y at *
              have hne' : (x == y) = false := by simp [hne]
              clear hne
              go_wp2_with fail
              go_quiet (fail)
              go_wp2
              go_roundw
              case rel => exact ⟨j + 1, by omega, by go_num, by rw [HC.out], hnx.trans ⟨rfl, rfl, rfl, Nat.le_refl _, fun _ _ => rfl⟩⟩
              case measure => simp [intOf]; omega
            · have hxy : ((lL.getD (cnt lM P j) 0 : Nat) : Int) = ((lM.getD j 0 : Nat) : Int) := by
                have := found (P := P) hj1 hp
                rw [HF.out] at this
                omega
              rw [hxy] at q1
              have HC : Hid (cnt lM P (j + 1) = cnt lM P j + 1) := cnt_yes hj1 hp
              clear hp hxy
              generalize ((lM.getD j 0 : Nat) : Int) = x at *
              have hne' : (x == x) = true := by simp
              go_wp2_with fail
              go_quiet (fail)
              go_wp2
              go_roundw
              case rel => exact ⟨j + 1, by omega, by go_num, by rw [HC.out]; go_num, hnx.trans ⟨rfl, rfl, rfl, Nat.le_refl _, fun _ _ => rfl⟩⟩
              case measure => simp [intOf]; omega
          · have hend : cnt lM P j = lL.length := by
              by_cases h : j < lM.length
              · omega
              · have e : j = lM.length := by omega
                rw [e, cnt_all, HF.out]
            have hnl : ¬ cnt lM P j < lL.length := by omega
            have he : (((cnt lM P j : Nat) : Int) == (lL.length : Int)) = true := by rw [hend]; simp
            have HE : Hid (cnt lM P j = lL.length) := hend
            clear hend hin
            by_cases h : j < lM.length
            all_goals
              go_wp2_with fail
              refine (awake_any _).mono ?_
              rintro e w4 ⟨rfl, hb4⟩
              have hN4 := below_next hnx hb4
              go_wp2_with fail
              refine (ints_same _ _ _ _ lL _ (by omega) (R3.out.1.below hN4) (R3.out.2.1.below hN4)).mono ?_
              rintro e w5 ⟨rfl, hb5⟩
              have hN5 := below_next hN4 hb5
              go_wp2
              go_ret
              exact ⟨rfl, (box2_below w al ac bl bc).trans ((hN3.trans (hN5.mono (by have := hN3.size; rw [box2_size] at this; omega))).mono (by omega))⟩

end Go.Proofs.Ytkecnjahknjblaa
