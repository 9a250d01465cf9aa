/-
  What the document's own answer on a policy comes to: the same error.
-/
import Derived.Test.YtmhjoomkeidcaaaDoorRefSmall
namespace Go.Proofs.YtmhjoomkeidcaaaDoor
open Go.RowKit L2
attribute [local go_sem] regrown_cell

/-- The world behind the box of three lists. -/
def box3 (w : World) (x y z : Value) : World := w.alloc (.cells #[x, y, z] 26)
theorem box3_size (w : World) (x y z : Value) : (box3 w x y z).heap.size = w.heap.size + 1 := by simp [box3]
theorem box3_cells {w w' : World} {x y z : Value} (h : Below (w.heap.size + 1) (box3 w x y z) w') :
    w.heap.size < w'.heap.size ∧ w'.cell? ⟨w.heap.size, 0, none⟩ = some x ∧ w'.cell? ⟨w.heap.size, 1, none⟩ = some y ∧ w'.cell? ⟨w.heap.size, 2, none⟩ = some z := by
  have hs := h.size
  rw [box3_size] at hs
  refine ⟨by omega, ?_, ?_, ?_⟩
  all_goals
    rw [h.cell (by simp)]
    simp [box3, go_sem]
theorem box3_below {w w' : World} {x y z : Value} (h : Below (w.heap.size + 1) (box3 w x y z) w') : Below w.heap.size w w' :=
  (below1 w _).trans (h.mono (by omega))
theorem box3_next {w w1 w2 : World} {x y z : Value} (h : Below (w.heap.size + 1) (box3 w x y z) w1) (k : Below w1.heap.size w1 w2) : Below (w.heap.size + 1) (box3 w x y z) w2 :=
  h.trans (k.mono (by have := h.size; rw [box3_size] at this; exact this))

theorem take_any {ss : List Sl} {j k : Nat} (h : j < ss.length) : ((ss.take (j + 1)).any fun s => s.dom == (k : Int)) = (((ss.take j).any fun s => s.dom == (k : Int)) || ((sl ss j).dom == (k : Int))) := by
  rw [List.take_add_one, sl_at h, List.any_append]
  simp

/-- The greatest size of a link of a kind. -/
def mostOf (kind : Int) : Int := if kind == 2 then 8 else 4
theorem ends_size (nd : Nat) (l : Lk) : (endsB nd l && sizeB l) = (inB l.kind 1 2 && (inB l.src 0 ((nd : Int) - 1) && (inB l.dst 0 ((nd : Int) - 1) && (!(l.src == l.dst) && inB l.size 1 (mostOf l.kind))))) := by
  unfold endsB sizeB inB mostOf
  rw [Bool.eq_iff_iff]
  by_cases h : l.kind = 2
  · simp [h]; omega
  · simp [h]; omega

set_option maxHeartbeats 8000000 in
set_option maxRecDepth 100000 in
theorem refCheck_any (a1 a2 a3 : Option Addr) (nd ns nl c1 c2 c3 : Nat) (p : Pol) (w : World) (h1 : p.ds.length = nd) (h2 : p.ss.length = ns) (h3 : p.ls.length = nl) (hh : Held w a1 a2 a3 c1 c2 c3 p)
    (hI : ∀ d ∈ p.ds, In64 d.cat ∧ d.name.size ≤ 9223372036854775807) :
    Calls Tryd.prog 14 #[.agg #[.slice a1 nd c1, .slice a2 ns c2, .slice a3 nl c3]] w fun e w' => e = .returned (.int .i64 (checkOf p : Nat)) ∧ Below w.heap.size w w' := by
  have HH : Hid (Held w a1 a2 a3 c1 c2 c3 p) := hh
  have HI : Hid (∀ d ∈ p.ds, In64 d.cat ∧ d.name.size ≤ 9223372036854775807) := hI
  clear hh hI
  cases hc : countB nd ns nl
  · have HX : Hid (checkOf p = 1) := by
      unfold checkOf
      rw [countB_of, h1, h2, h3, hc]; exact rfl
    unfold countB at hc
    cases k1 : inB nd 1 8
    · clear hc
      go_enter Tryd.func14, Tryd.ntmps14
      go_wp2_with fail
      refine (in_is k1 _).mono ?_
      rintro e w9 ⟨rfl, rfl⟩
      go_wp2
      go_ret
      exact ⟨by rw [HX.out]; rfl, below1 _ _⟩
    · cases k2 : inB ns 1 16
      · clear hc
        go_enter Tryd.func14, Tryd.ntmps14
        go_wp2_with fail
        refine (in_is k1 _).mono ?_
        rintro e w9 ⟨rfl, rfl⟩
        go_wp2_with fail
        refine (in_is k2 _).mono ?_
        rintro e w9 ⟨rfl, rfl⟩
        go_wp2
        go_ret
        exact ⟨by rw [HX.out]; rfl, below1 _ _⟩
      · rw [k1, k2] at hc
        have k3 : (nl : Int) > 8 := by simp at hc; omega
        clear hc
        go_enter Tryd.func14, Tryd.ntmps14
        go_wp2_with fail
        refine (in_is k1 _).mono ?_
        rintro e w9 ⟨rfl, rfl⟩
        go_wp2_with fail
        refine (in_is k2 _).mono ?_
        rintro e w9 ⟨rfl, rfl⟩
        go_wp2
        go_ret
        exact ⟨by rw [HX.out]; rfl, below1 _ _⟩
  · have hbd := countB_bounds hc
    have HX : Hid (checkOf p = if domsE p.ds ≠ 0 then domsE p.ds else if slotsE nd p.ss ≠ 0 then slotsE nd p.ss else linksE p.ds p.ls) := by
      unfold checkOf
      rw [countB_of, h1, h2, h3, hc]; exact rfl
    have k1 : inB nd 1 8 = true := inB_iff.2 (by omega)
    have k2 : inB ns 1 16 = true := inB_iff.2 (by omega)
    have k3 : ¬ (nl : Int) > 8 := by omega
    clear hc
    obtain ⟨ds, ss, ls⟩ := p
    dsimp only at *
    go_enter Tryd.func14, Tryd.ntmps14
    go_wp2_with fail
    refine (in_is k1 _).mono ?_
    rintro e w9 ⟨rfl, rfl⟩
    go_wp2_with fail
    refine (in_is k2 _).mono ?_
    rintro e w9 ⟨rfl, rfl⟩
    go_wp2_with fail
    go_loopw [4] (fun i wr => ∃ k : Nat, k ≤ nd ∧ i = .int .i64 k ∧ scan (domE ds) (nd - k) k = domsE ds ∧ Below (w.heap.size + 1) (box3 w (.slice a1 nd c1) (.slice a2 ns c2) (.slice a3 nl c3)) wr) (fun i _ => nd - (intOf i).toNat)
    case atStart => exact ⟨0, Nat.zero_le _, rfl, by subst h1; rfl, Below.refl _ _⟩
    case round =>
      obtain ⟨k, hk, rfl, hsc, hnx⟩ := hrel
      have HS : Hid (scan (domE ds) (nd - k) k = domsE ds) := hsc
      clear hsc
      obtain ⟨hz0, b0, b1, b2⟩ := box3_cells hnx
      have hbw := box3_below hnx
      have hsz := hnx.size
      rw [box3_size] at hsz
      by_cases hlt : k < nd
      · have HDL : Hid (Lies wr a1 (cellsD ds)) := (HH.out.below hbw).d
        obtain ⟨b, off, rfl, hb, q0, q1, q2, q3, q4, q5⟩ := HDL.out.dom (dm_at (i := k) (by omega))
        have HHD : Hid ((goodB (dm ds k).lev (dm ds k).cat = false → nameBad ds k = false → domE ds k = 3) ∧ (goodB (dm ds k).lev (dm ds k).cat = true → quotaB (dm ds k) = false → nameBad ds k = false → domE ds k = 1) ∧ (goodB (dm ds k).lev (dm ds k).cat = true → quotaB (dm ds k) = true → nameBad ds k = false → domE ds k = 0)) :=
          ⟨fun h h2 => domE_lab h2 h, fun h h2 h3 => domE_quota h3 h h2, fun h h2 h3 => domE_ok h3 h h2⟩
        have HN : Hid (nameBad ds k = (!nameB (dm ds k).name || decide (placeOf ds (dm ds k).name < (k : Int)))) := nameBad_ref (by omega)
        have hI2 := HI.out (dm ds k) (List.mem_of_getElem? (dm_at (by omega)))
        have hQ : Hid (quotaB (dm ds k) = (inB (dm ds k).tasks 1 8 && (inB (dm ds k).objs 0 8 && inB (dm ds k).ring 1 16))) := quotaB_of _
        have HE : Hid (∀ x : Nat, domE ds k = x → x ≠ 0 → checkOf ⟨ds, ss, ls⟩ = x) := fun x hx h0 => by
          have e : domsE ds = x := by rw [← HS.out, scan_hit (by omega) (by rw [hx]; exact h0), hx]
          rw [HX.out, e]; exact if_pos h0
        have HO : Hid (domE ds k = 0 → scan (domE ds) (nd - (k + 1)) (k + 1) = domsE ds) := fun h => by
          rw [← HS.out, scan_miss (n := nd - k) (by omega) h, Nat.sub_add_eq]
        generalize dm ds k = d at *
        have hG := fun W => refGood_any d.lev d.cat W hI2.1
        have hM := fun W => refName_any d.name hI2.2 W
        clear hI2
        have hF := fun W hrow => find_any (some ⟨b, off, none⟩) nd c1 ds d.name W h1 (by omega) hrow
        cases hm : nameB d.name
        · rw [hm] at hM
          have HD : Hid (checkOf ⟨ds, ss, ls⟩ = 4) := HE.out 4 (domE_name (by rw [HN.out, hm]; rfl)) (by omega)
          go_wp2_with fail
          refine (hM _).mono ?_
          rintro e w1 ⟨rfl, hb1⟩
          go_wp2
          go_ret
          exact ⟨by rw [HD.out]; rfl, hbw.trans ((below1 _ _).trans (hb1.mono (by simp)) |>.mono hbw.size)⟩
        · rw [hm] at hM
          rw [hm] at HN
          generalize placeOf ds d.name = pl at *
          by_cases hpl : pl < (k : Int)
          · have HD : Hid (checkOf ⟨ds, ss, ls⟩ = 4) := HE.out 4 (domE_name (by rw [HN.out, decide_eq_true hpl]; rfl)) (by omega)
            go_wp2_with fail
            refine (hM _).mono ?_
            rintro e w1 ⟨rfl, hb1⟩
            obtain ⟨hz1, z0, z1, z2, z3, z4, z5⟩ := dom_cells hb1
            have hnx1 := box3_next (box3_next hnx (below1 _ _)) hb1
            obtain ⟨hy0, y0, y1, y2⟩ := box3_cells hnx1
            go_wp2_with fail
            refine (hF _ (((HDL.out.below (below1 _ _)).below hb1))).mono ?_
            rintro e w2 ⟨rfl, rfl⟩
            go_wp2
            go_ret
            exact ⟨by rw [HD.out]; rfl, box3_below hnx1⟩
          · have HNB : Hid (nameBad ds k = false) := by rw [HN.out, decide_eq_false hpl]; exact rfl
            go_wp2_with fail
            refine (hM _).mono ?_
            rintro e w1 ⟨rfl, hb1⟩
            obtain ⟨hz1, z0, z1, z2, z3, z4, z5⟩ := dom_cells hb1
            have hnx1 := box3_next (box3_next hnx (below1 _ _)) hb1
            have HDL1 : Hid (Lies w1 (some ⟨b, off, none⟩) (cellsD ds)) := (HDL.out.below (below1 _ _)).below hb1
            clear hb1 hnx hbw HDL b0 b1 b2
            obtain ⟨hy0, y0, y1, y2⟩ := box3_cells hnx1
            go_wp2_with fail
            refine (hF _ HDL1.out).mono ?_
            rintro e w2 ⟨rfl, rfl⟩
            cases hg : goodB d.lev d.cat
            · rw [hg] at hG
              have HD : Hid (checkOf ⟨ds, ss, ls⟩ = 3) := HE.out 3 (HHD.out.1 hg HNB.out) (by omega)
              go_wp2_with fail
              refine (hG _).mono ?_
              rintro e w3 ⟨rfl, hb3⟩
              go_wp2
              go_ret
              exact ⟨by rw [HD.out]; rfl, box3_below (box3_next hnx1 hb3)⟩
            · rw [hg] at hG
              go_wp2_with fail
              refine (hG _).mono ?_
              rintro e w3 ⟨rfl, hb3⟩
              obtain ⟨cc, _⟩ := bcell hb3
              have x3 := (cc wr.heap.size 3 hz1).trans z3
              have x4 := (cc wr.heap.size 4 hz1).trans z4
              have x5 := (cc wr.heap.size 5 hz1).trans z5
              have hnx3 := box3_next hnx1 hb3
              have hzz : wr.heap.size < w3.heap.size := by have := hb3.size; omega
              clear cc hb3 hnx1 z0 z1 z2 z3 z4 z5
              cases j1 : inB d.tasks 1 8
              · have HD : Hid (checkOf ⟨ds, ss, ls⟩ = 1) := HE.out 1 (HHD.out.2.1 hg (by rw [hQ.out, j1]; rfl) HNB.out) (by omega)
                go_wp2_with fail
                refine (in_is j1 _).mono ?_
                rintro e w9 ⟨rfl, rfl⟩
                go_wp2
                go_ret
                exact ⟨by rw [HD.out]; rfl, box3_below hnx3⟩
              · cases j2 : inB d.objs 0 8
                · have HD : Hid (checkOf ⟨ds, ss, ls⟩ = 1) := HE.out 1 (HHD.out.2.1 hg (by rw [hQ.out, j1, j2]; rfl) HNB.out) (by omega)
                  go_wp2_with fail
                  refine (in_is j1 _).mono ?_
                  rintro e w9 ⟨rfl, rfl⟩
                  go_wp2_with fail
                  refine (in_is j2 _).mono ?_
                  rintro e w9 ⟨rfl, rfl⟩
                  go_wp2
                  go_ret
                  exact ⟨by rw [HD.out]; rfl, box3_below hnx3⟩
                · cases j3 : inB d.ring 1 16
                  · have HD : Hid (checkOf ⟨ds, ss, ls⟩ = 1) := HE.out 1 (HHD.out.2.1 hg (by rw [hQ.out, j1, j2, j3]; rfl) HNB.out) (by omega)
                    go_wp2_with fail
                    refine (in_is j1 _).mono ?_
                    rintro e w9 ⟨rfl, rfl⟩
                    go_wp2_with fail
                    refine (in_is j2 _).mono ?_
                    rintro e w9 ⟨rfl, rfl⟩
                    go_wp2_with fail
                    refine (in_is j3 _).mono ?_
                    rintro e w9 ⟨rfl, rfl⟩
                    go_wp2
                    go_ret
                    exact ⟨by rw [HD.out]; rfl, box3_below hnx3⟩
                  · have HD := HO.out (HHD.out.2.2 hg (by rw [hQ.out, j1, j2, j3]; rfl) HNB.out)
                    have HD : Hid (scan (domE ds) (nd - (k + 1)) (k + 1) = domsE ds) := HD
                    go_wp2_with fail
                    refine (in_is j1 _).mono ?_
                    rintro e w9 ⟨rfl, rfl⟩
                    go_wp2_with fail
                    refine (in_is j2 _).mono ?_
                    rintro e w9 ⟨rfl, rfl⟩
                    go_wp2_with fail
                    refine (in_is j3 _).mono ?_
                    rintro e w9 ⟨rfl, rfl⟩
                    go_wp2_with fail
                    go_roundw
                    case rel => exact ⟨k + 1, by omega, by go_num, HD.out, hnx3⟩
                    case measure => simp [intOf]; omega
      · have HZ : Hid (domsE ds = 0) := by rw [← HS.out, show nd - k = 0 by omega]; exact rfl
        have HX2 : Hid (checkOf ⟨ds, ss, ls⟩ = if slotsE nd ss ≠ 0 then slotsE nd ss else linksE ds ls) := by
          rw [HX.out, HZ.out]; exact rfl
        clear HX HZ HS k1 k2 k3 b0 b1 b2 hz0 hbw hsz
        go_wp2_with fail
        go_loopw [6] (fun i wr => ∃ k : Nat, k ≤ ns ∧ i = .int .i64 k ∧ scan (slotE nd ss) (ns - k) k = scan (slotE nd ss) ns 0 ∧ Below (w.heap.size + 1) (box3 w (.slice a1 nd c1) (.slice a2 ns c2) (.slice a3 nl c3)) wr) (fun i _ => ns - (intOf i).toNat)
        case atStart => exact ⟨0, Nat.zero_le _, rfl, rfl, hnx⟩
        case round =>
          clear hnx hk hlt
          obtain ⟨k, hk, rfl, hsc, hnx⟩ := hrel
          have HS : Hid (scan (slotE nd ss) (ns - k) k = scan (slotE nd ss) ns 0) := hsc
          clear hsc
          obtain ⟨hz0, b0, b1, b2⟩ := box3_cells hnx
          have hbw := box3_below hnx
          by_cases hlt : k < ns
          · have HSL : Hid (Lies wr a2 (cellsS ss)) := (HH.out.below hbw).s
            obtain ⟨b, off, rfl, hb, q0, q1⟩ := HSL.out.slot (sl_at (i := k) (by omega))
            have HB : Hid (slotB nd (sl ss k) = false → checkOf ⟨ds, ss, ls⟩ = 1) := fun h => by
              have e : slotsE nd ss = 1 := by
                unfold slotsE
                rw [h2, ← HS.out, scan_hit (by omega) (by rw [slotE_bad h]; omega), slotE_bad h]
                rfl
              rw [HX2.out, e]; exact rfl
            have HO : Hid (slotB nd (sl ss k) = true → scan (slotE nd ss) (ns - (k + 1)) (k + 1) = scan (slotE nd ss) ns 0) := fun h => by
              rw [← HS.out, scan_miss (n := ns - k) (by omega) (slotE_ok h), Nat.sub_add_eq]
            have HE : Hid (slotB nd (sl ss k) = (inB (sl ss k).dom 0 ((nd : Int) - 1) && inB (sl ss k).len 1 16)) := slotB_of nd _
            generalize sl ss k = d at *
            cases j1 : inB d.dom 0 ((nd : Int) - 1)
            · have HD : Hid (checkOf ⟨ds, ss, ls⟩ = 1) := HB.out (by rw [HE.out, j1]; rfl)
              go_wp2_with fail
              refine (in_is j1 _).mono ?_
              rintro e w9 ⟨rfl, rfl⟩
              go_wp2
              go_ret
              exact ⟨by rw [HD.out]; rfl, hbw⟩
            · cases j2 : inB d.len 1 16
              · have HD : Hid (checkOf ⟨ds, ss, ls⟩ = 1) := HB.out (by rw [HE.out, j1, j2]; rfl)
                go_wp2_with fail
                refine (in_is j1 _).mono ?_
                rintro e w9 ⟨rfl, rfl⟩
                go_wp2_with fail
                refine (in_is j2 _).mono ?_
                rintro e w9 ⟨rfl, rfl⟩
                go_wp2
                go_ret
                exact ⟨by rw [HD.out]; rfl, hbw⟩
              · have HD : Hid (scan (slotE nd ss) (ns - (k + 1)) (k + 1) = scan (slotE nd ss) ns 0) := HO.out (by rw [HE.out, j1, j2]; rfl)
                go_wp2_with fail
                refine (in_is j1 _).mono ?_
                rintro e w9 ⟨rfl, rfl⟩
                go_wp2_with fail
                refine (in_is j2 _).mono ?_
                rintro e w9 ⟨rfl, rfl⟩
                go_wp2_with fail
                go_roundw
                case rel => exact ⟨k + 1, by omega, by go_num, HD.out, hnx⟩
                case measure => simp [intOf]; omega
          · have HZ : Hid (scan (slotE nd ss) ns 0 = 0) := by
              rw [← HS.out, show ns - k = 0 by omega]; exact rfl
            have HSS : Hid (scan (hasE ss) nd 0 = slotsE nd ss) := by
              unfold slotsE
              rw [h2, HZ.out]; exact rfl
            clear HZ HS
            go_wp2_with fail
            clear b0 b1 b2 hz0 hbw
            go_loopw [7] (fun i wr => ∃ k : Nat, k ≤ nd ∧ i = .int .i64 k ∧ scan (hasE ss) (nd - k) k = slotsE nd ss ∧ Below (w.heap.size + 1) (box3 w (.slice a1 nd c1) (.slice a2 ns c2) (.slice a3 nl c3)) wr) (fun i _ => nd - (intOf i).toNat)
            case atStart => exact ⟨0, Nat.zero_le _, rfl, HSS.out, hnx⟩
            case round =>
              clear hnx hk hlt HSS
              obtain ⟨k, hk, rfl, hsc, hnx⟩ := hrel
              have HS : Hid (scan (hasE ss) (nd - k) k = slotsE nd ss) := hsc
              clear hsc
              by_cases hlt : k < nd
              · have HSB : Hid (hasE ss k = 5 → checkOf ⟨ds, ss, ls⟩ = 5) := fun h => by
                  have e : slotsE nd ss = 5 := by rw [← HS.out, scan_hit (by omega) (by rw [h]; omega), h]
                  rw [HX2.out, e]; exact rfl
                have HSO : Hid (hasE ss k = 0 → scan (hasE ss) (nd - (k + 1)) (k + 1) = slotsE nd ss) := fun h => by
                  rw [← HS.out, scan_miss (n := nd - k) (by omega) h, Nat.sub_add_eq]
                go_wp2_with fail
                go_loopw [8, 9] (fun h i wr => ∃ j : Nat, j ≤ ns ∧ i = .int .i64 j ∧ h = .bool ((ss.take j).any fun s => s.dom == (k : Int)) ∧ Below (w.heap.size + 1) (box3 w (.slice a1 nd c1) (.slice a2 ns c2) (.slice a3 nl c3)) wr) (fun _ i _ => ns - (intOf i).toNat)
                case atStart => exact ⟨0, Nat.zero_le _, rfl, by simp, hnx⟩
                case round =>
                  clear hnx
                  obtain ⟨j, hj, rfl, rfl, hnx⟩ := hrel
                  obtain ⟨hz0, b0, b1, b2⟩ := box3_cells hnx
                  have hbw := box3_below hnx
                  by_cases hjt : j < ns
                  · have HSL : Hid (Lies wr a2 (cellsS ss)) := (HH.out.below hbw).s
                    obtain ⟨b, off, rfl, hb, q0, q1⟩ := HSL.out.slot (sl_at (i := j) (by omega))
                    have HT : Hid (((ss.take (j + 1)).any fun s => s.dom == (k : Int)) = (((ss.take j).any fun s => s.dom == (k : Int)) || ((sl ss j).dom == (k : Int)))) := take_any (by omega)
                    generalize sl ss j = d at *
                    generalize ((ss.take j).any fun s => s.dom == (k : Int)) = hv at *
                    cases hv
                    · go_wp2_with fail
                      go_roundw
                      case rel => exact ⟨j + 1, by omega, by go_num, by rw [HT.out]; rfl, hnx⟩
                      case measure => simp [intOf]; omega
                    · go_wp2_with fail
                      go_roundw
                      case rel => exact ⟨j + 1, by omega, by go_num, by rw [HT.out]; rfl, hnx⟩
                      case measure => simp [intOf]; omega
                  · have ht : ss.take j = ss := List.take_of_length_le (by omega)
                    rw [ht]
                    clear ht
                    cases hv : ss.any fun s => s.dom == (k : Int)
                    · have HD : Hid (checkOf ⟨ds, ss, ls⟩ = 5) := HSB.out (hasE_bad hv)
                      clear hv
                      go_wp2
                      go_ret
                      exact ⟨by rw [HD.out]; rfl, hbw⟩
                    · have HD : Hid (scan (hasE ss) (nd - (k + 1)) (k + 1) = slotsE nd ss) := HSO.out (hasE_ok hv)
                      clear hv
                      go_wp2_with fail
                      go_roundw
                      case rel => exact ⟨k + 1, by omega, by go_num, HD.out, hnx⟩
                      case measure => simp [intOf]; omega
              · have HZ : Hid (slotsE nd ss = 0) := by rw [← HS.out, show nd - k = 0 by omega]; exact rfl
                have HX3 : Hid (checkOf ⟨ds, ss, ls⟩ = linksE ds ls) := by
                  rw [HX2.out, HZ.out]; exact rfl
                clear HX2 HZ HS
                go_wp2_with fail
                go_loopw [10] (fun i wr => ∃ k : Nat, k ≤ nl ∧ i = .int .i64 k ∧ scan (linkE ds ls) (nl - k) k = linksE ds ls ∧ Below (w.heap.size + 1) (box3 w (.slice a1 nd c1) (.slice a2 ns c2) (.slice a3 nl c3)) wr) (fun i _ => nl - (intOf i).toNat)
                case atStart => exact ⟨0, Nat.zero_le _, rfl, by subst h3; rfl, hnx⟩
                case round =>
                  clear hnx hk hlt
                  obtain ⟨k, hk, rfl, hsc, hnx⟩ := hrel
                  have HS : Hid (scan (linkE ds ls) (nl - k) k = linksE ds ls) := hsc
                  clear hsc
                  obtain ⟨hz0, b0, b1, b2⟩ := box3_cells hnx
                  have hbw := box3_below hnx
                  by_cases hlt : k < nl
                  · have HLL : Hid (Lies wr a3 (cellsL ls)) := (HH.out.below hbw).l
                    have HDL : Hid (Lies wr a1 (cellsD ds)) := (HH.out.below hbw).d
                    obtain ⟨b, off, rfl, hb, q0, q1, q2, q3⟩ := HLL.out.link (lk_at (i := k) (by omega))
                    have HE : Hid (∀ x : Nat, linkE ds ls k = x → x ≠ 0 → checkOf ⟨ds, ss, ls⟩ = x) := fun x hx h0 => by rw [HX3.out, ← HS.out, scan_hit (by omega) (by rw [hx]; exact h0), hx]
                    have HO : Hid (linkE ds ls k = 0 → scan (linkE ds ls) (nl - (k + 1)) (k + 1) = linksE ds ls) := fun h => by
                      rw [← HS.out, scan_miss (n := nl - k) (by omega) h, Nat.sub_add_eq]
                    have HB : Hid (((endsB nd (lk ls k) && sizeB (lk ls k)) = false → linkE ds ls k = 1) ∧ ((endsB nd (lk ls k) && sizeB (lk ls k)) = true → upB ds (lk ls k) = false → linkE ds ls k = 10) ∧ ((endsB nd (lk ls k) && sizeB (lk ls k)) = true → upB ds (lk ls k) = true → linkE ds ls k = 0)) := by
                      subst h1
                      exact ⟨linkE_bad, linkE_up, linkE_ok⟩
                    have HU : Hid (upB ds (lk ls k) = leqB (dm ds (lk ls k).src.toNat).lev (dm ds (lk ls k).src.toNat).cat (dm ds (lk ls k).dst.toNat).lev (dm ds (lk ls k).dst.toNat).cat) := rfl
                    have HES : Hid ((endsB nd (lk ls k) && sizeB (lk ls k)) = (inB (lk ls k).kind 1 2 && (inB (lk ls k).src 0 ((nd : Int) - 1) && (inB (lk ls k).dst 0 ((nd : Int) - 1) && (!((lk ls k).src == (lk ls k).dst) && inB (lk ls k).size 1 (mostOf (lk ls k).kind)))))) := ends_size nd _
                    have HEN : Hid (endsB nd (lk ls k) = true → ∃ a b : Nat, (lk ls k).src = a ∧ (lk ls k).dst = b ∧ a < nd ∧ b < nd) := ends_nats
                    generalize lk ls k = l at *
                    obtain ⟨mo, hmo⟩ : ∃ mo, mo = mostOf l.kind := ⟨_, rfl⟩
                    have hkd : (l.kind == 2) = true ∧ mo = 8 ∨ (l.kind == 2) = false ∧ mo = 4 := by
                      rw [hmo]
                      unfold mostOf
                      cases l.kind == 2
                      · exact Or.inr ⟨rfl, rfl⟩
                      · exact Or.inl ⟨rfl, rfl⟩
                    rw [← hmo] at HES
                    clear hmo
                    rcases hkd with ⟨hk2, rfl⟩ | ⟨hk2, rfl⟩
                    all_goals
                      cases j1 : inB l.kind 1 2
                      · have HD : Hid (checkOf ⟨ds, ss, ls⟩ = 1) := HE.out 1 (HB.out.1 (by rw [HES.out, j1]; rfl)) (by omega)
                        go_wp2_with fail
                        refine (in_is j1 _).mono ?_
                        rintro e w9 ⟨rfl, rfl⟩
                        go_wp2
                        go_ret
                        exact ⟨by rw [HD.out]; rfl, box3_below (box3_next hnx (below1 _ _))⟩
                      · cases j2 : inB l.src 0 ((nd : Int) - 1)
                        · have HD : Hid (checkOf ⟨ds, ss, ls⟩ = 1) := HE.out 1 (HB.out.1 (by rw [HES.out, j1, j2]; rfl)) (by omega)
                          go_wp2_with fail
                          refine (in_is j1 _).mono ?_
                          rintro e w9 ⟨rfl, rfl⟩
                          go_wp2_with fail
                          refine (in_is j2 _).mono ?_
                          rintro e w9 ⟨rfl, rfl⟩
                          go_wp2
                          go_ret
                          exact ⟨by rw [HD.out]; rfl, box3_below (box3_next hnx (below1 _ _))⟩
                        · cases j3 : inB l.dst 0 ((nd : Int) - 1)
                          · have HD : Hid (checkOf ⟨ds, ss, ls⟩ = 1) := HE.out 1 (HB.out.1 (by rw [HES.out, j1, j2, j3]; rfl)) (by omega)
                            go_wp2_with fail
                            refine (in_is j1 _).mono ?_
                            rintro e w9 ⟨rfl, rfl⟩
                            go_wp2_with fail
                            refine (in_is j2 _).mono ?_
                            rintro e w9 ⟨rfl, rfl⟩
                            go_wp2_with fail
                            refine (in_is j3 _).mono ?_
                            rintro e w9 ⟨rfl, rfl⟩
                            go_wp2
                            go_ret
                            exact ⟨by rw [HD.out]; rfl, box3_below (box3_next hnx (below1 _ _))⟩
                          · cases j4 : (l.src == l.dst)
                            · cases j5 : inB l.size 1 _
                              · have HD : Hid (checkOf ⟨ds, ss, ls⟩ = 1) := HE.out 1 (HB.out.1 (by rw [HES.out, j1, j2, j3, j4, j5]; rfl)) (by omega)
                                go_wp2_with fail
                                refine (in_is j1 _).mono ?_
                                rintro e w9 ⟨rfl, rfl⟩
                                go_wp2_with fail
                                refine (in_is j2 _).mono ?_
                                rintro e w9 ⟨rfl, rfl⟩
                                go_wp2_with fail
                                refine (in_is j3 _).mono ?_
                                rintro e w9 ⟨rfl, rfl⟩
                                go_wp2_with fail
                                refine (in_is j5 _).mono ?_
                                rintro e w9 ⟨rfl, rfl⟩
                                go_wp2
                                go_ret
                                exact ⟨by rw [HD.out]; rfl, box3_below (box3_next hnx (below1 _ _))⟩
                              · have HESS : Hid ((endsB nd l && sizeB l) = true) := by rw [HES.out, j1, j2, j3, j4, j5]; exact rfl
                                obtain ⟨a, c, ha, hc, hal, hcl⟩ := HEN.out (by have := HESS.out; rw [Bool.and_eq_true] at this; exact this.1)
                                rw [ha] at HU
                                rw [hc] at HU
                                simp only [Int.toNat_natCast] at HU
                                have hnx1 := box3_next hnx (below1 wr (.cells #[.int .i64 l.kind, .int .i64 l.src, .int .i64 l.dst, .int .i64 l.size] 32))
                                obtain ⟨b2, off2, rfl, hbb, _, d1, d2, _⟩ := HDL.out.dom (dm_at (i := a) (by omega))
                                obtain ⟨b3, off3, hbe, _, _, d3, d4, _⟩ := HDL.out.dom (dm_at (i := c) (by omega))
                                injection hbe with hbe
                                injection hbe with e1 e2
                                subst e1 e2
                                generalize dm ds a = A at *
                                generalize dm ds c = C at *
                                have hQ := fun W => refLeq_any A.lev A.cat C.lev C.cat W
                                have HQ : Hid (∀ W : World, Calls Tryd.prog 30 #[.agg #[.int .i64 A.lev, .int .i64 A.cat], .agg #[.int .i64 C.lev, .int .i64 C.cat]] W fun e w' => e = .returned (.bool (leqB A.lev A.cat C.lev C.cat)) ∧ Below W.heap.size W w') := hQ
                                clear hQ
                                have g1 : (a : Int) < (nd : Int) := by omega
                                have g2 : (c : Int) < (nd : Int) := by omega
                                have g3 : (0 : Int) ≤ (a : Int) := by omega
                                have g4 : (0 : Int) ≤ (c : Int) := by omega
                                rw [ha] at q1 j2 j4
                                rw [hc] at q2 j3 j4
                                clear ha hc
                                cases hu : leqB A.lev A.cat C.lev C.cat
                                · rw [hu] at HQ
                                  have HD : Hid (checkOf ⟨ds, ss, ls⟩ = 10) := HE.out 10 (HB.out.2.1 HESS.out (by rw [HU.out, hu])) (by omega)
                                  go_wp2_with fail
                                  refine (in_is j1 _).mono ?_
                                  rintro e w9 ⟨rfl, rfl⟩
                                  go_wp2_with fail
                                  refine (in_is j2 _).mono ?_
                                  rintro e w9 ⟨rfl, rfl⟩
                                  go_wp2_with fail
                                  refine (in_is j3 _).mono ?_
                                  rintro e w9 ⟨rfl, rfl⟩
                                  go_wp2_with fail
                                  refine (in_is j5 _).mono ?_
                                  rintro e w9 ⟨rfl, rfl⟩
                                  go_wp2_with fail
                                  refine wp_region_quiet_below (by kernel_rfl) (by kernel_rfl) ?_
                                  repeat (first | go_big_quiet_skip | quiet_step ((go_at_call 30; exact Calls.regrown_of (HQ.out _))))
                                  refine wpQuiet_nil ?_
                                  intro w3 hw'
                                  have hb3 := below_of_regrown hw'
                                  clear hw'
                                  go_wp2
                                  go_ret
                                  exact ⟨by rw [HD.out]; rfl, box3_below (box3_next (box3_next hnx (below1 _ _)) hb3)⟩
                                · rw [hu] at HQ
                                  have HD : Hid (scan (linkE ds ls) (nl - (k + 1)) (k + 1) = linksE ds ls) := HO.out (HB.out.2.2 HESS.out (by rw [HU.out, hu]))
                                  go_wp2_with fail
                                  refine (in_is j1 _).mono ?_
                                  rintro e w9 ⟨rfl, rfl⟩
                                  go_wp2_with fail
                                  refine (in_is j2 _).mono ?_
                                  rintro e w9 ⟨rfl, rfl⟩
                                  go_wp2_with fail
                                  refine (in_is j3 _).mono ?_
                                  rintro e w9 ⟨rfl, rfl⟩
                                  go_wp2_with fail
                                  refine (in_is j5 _).mono ?_
                                  rintro e w9 ⟨rfl, rfl⟩
                                  go_wp2_with fail
                                  refine wp_region_quiet_below (by kernel_rfl) (by kernel_rfl) ?_
                                  repeat (first | go_big_quiet_skip | quiet_step ((go_at_call 30; exact Calls.regrown_of (HQ.out _))))
                                  refine wpQuiet_nil ?_
                                  intro w3 hw'
                                  have hb3 := below_of_regrown hw'
                                  clear hw'
                                  go_wp2_with fail
                                  go_roundw
                                  case rel => exact ⟨k + 1, by omega, by go_num, HD.out, box3_next (box3_next hnx (below1 _ _)) hb3⟩
                                  case measure => simp [intOf]; omega
                            · have HD : Hid (checkOf ⟨ds, ss, ls⟩ = 1) := HE.out 1 (HB.out.1 (by rw [HES.out, j1, j2, j3, j4]; rfl)) (by omega)
                              go_wp2_with fail
                              refine (in_is j1 _).mono ?_
                              rintro e w9 ⟨rfl, rfl⟩
                              go_wp2_with fail
                              refine (in_is j2 _).mono ?_
                              rintro e w9 ⟨rfl, rfl⟩
                              go_wp2_with fail
                              refine (in_is j3 _).mono ?_
                              rintro e w9 ⟨rfl, rfl⟩
                              go_wp2
                              go_ret
                              exact ⟨by rw [HD.out]; rfl, box3_below (box3_next hnx (below1 _ _))⟩
                  · have HD : Hid (checkOf ⟨ds, ss, ls⟩ = 0) := by rw [HX3.out, ← HS.out, show nl - k = 0 by omega]; exact rfl
                    go_wp2
                    go_ret
                    exact ⟨by rw [HD.out]; rfl, hbw⟩

end Go.Proofs.YtmhjoomkeidcaaaDoor
