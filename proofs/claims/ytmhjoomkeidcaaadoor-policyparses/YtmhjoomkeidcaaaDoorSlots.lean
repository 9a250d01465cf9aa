/-
  What policy.checkSlots and policy.checkLinks come to: the error of the first slot, domain without one, or link that may not be.
-/
import Derived.Test.YtmhjoomkeidcaaaDoorDoms
namespace Go.Proofs.YtmhjoomkeidcaaaDoor
open Go.RowKit L2
attribute [local go_sem] regrown_cell

theorem slotB_of (nd : Nat) (s : Sl) : slotB nd s = (inB s.dom 0 ((nd : Int) - 1) && inB s.len 1 16) := by
  unfold slotB inB
  rw [Bool.eq_iff_iff]
  simp
  omega
theorem slotE_bad {nd : Nat} {ss : List Sl} {i : Nat} (h : slotB nd (sl ss i) = false) : slotE nd ss i = 1 := by simp [slotE, h]
theorem slotE_ok {nd : Nat} {ss : List Sl} {i : Nat} (h : slotB nd (sl ss i) = true) : slotE nd ss i = 0 := by simp [slotE, h]
theorem hasE_bad {ss : List Sl} {i : Nat} (h : ss.any (fun s => s.dom == (i : Int)) = false) : hasE ss i = 5 := by simp only [hasE, h]; rfl
theorem hasE_ok {ss : List Sl} {i : Nat} (h : ss.any (fun s => s.dom == (i : Int)) = true) : hasE ss i = 0 := by simp only [hasE, h]; rfl

set_option maxHeartbeats 4000000 in
set_option maxRecDepth 100000 in
theorem slots_any (ad : Option Addr) (n cap nd : Nat) (ss : List Sl) (w : World) (hl : ss.length = n) (hn : n ≤ 5000) (hd : nd ≤ 5000) (hrow : Lies w ad (cellsS ss)) :
    Calls Tryd.prog 22 #[.slice ad n cap, .int .i64 nd] w fun e w' => e = .returned (.int .i64 (slotsE nd ss : Nat)) ∧ Below w.heap.size w w' := by
  have HR : Hid (Lies w ad (cellsS ss)) := hrow
  clear hrow
  go_enter Tryd.func22, Tryd.ntmps22
  go_wp2
  go_loopw [6, 10] (fun _ i wr => ∃ k : Nat, k ≤ n ∧ i = .int .i64 k ∧ scan (slotE nd ss) (n - k) k = scan (slotE nd ss) n 0 ∧ Below w.heap.size w wr) (fun _ i _ => n - (intOf i).toNat)
  case atStart => exact ⟨0, Nat.zero_le _, rfl, rfl, Below.refl _ _⟩
  case round =>
    obtain ⟨k, hk, rfl, hsc, hnx⟩ := hrel
    have HS : Hid (scan (slotE nd ss) (n - k) k = scan (slotE nd ss) n 0) := hsc
    clear hsc
    by_cases hlt : k < n
    · obtain ⟨b, off, rfl, hb, q0, q1⟩ := (HR.out.below hnx).slot (sl_at (i := k) (by omega))
      have HB : Hid (slotB nd (sl ss k) = false → slotsE nd ss = 1) := fun h => by
        unfold slotsE
        rw [hl, ← HS.out, scan_hit (by omega) (by rw [slotE_bad h]; omega), slotE_bad h]
        rfl
      have HO : Hid (slotB nd (sl ss k) = true → scan (slotE nd ss) (n - (k + 1)) (k + 1) = scan (slotE nd ss) n 0) := fun h => by
        rw [← HS.out, scan_miss (n := n - k) (by omega) (slotE_ok h), Nat.sub_add_eq]
      have HE : Hid (slotB nd (sl ss k) = (inB (sl ss k).dom 0 ((nd : Int) - 1) && inB (sl ss k).len 1 16)) := slotB_of nd _
      generalize sl ss k = d at *
      cases h1 : inB d.dom 0 ((nd : Int) - 1)
      · have HD : Hid (slotsE nd ss = 1) := HB.out (by rw [HE.out, h1]; rfl)
        go_wp2_with fail
        refine (within_is h1 _).mono ?_
        rintro e w1 ⟨rfl, rfl⟩
        go_wp2
        go_ret
        exact ⟨by rw [HD.out]; rfl, hnx.trans ((below1 _ _).mono hnx.size)⟩
      · cases h2 : inB d.len 1 16
        · have HD : Hid (slotsE nd ss = 1) := HB.out (by rw [HE.out, h1, h2]; rfl)
          go_wp2_with fail
          refine (within_is h1 _).mono ?_
          rintro e w1 ⟨rfl, rfl⟩
          go_wp2_with fail
          refine (within_is h2 _).mono ?_
          rintro e w1 ⟨rfl, rfl⟩
          go_wp2
          go_ret
          exact ⟨by rw [HD.out]; rfl, hnx.trans ((below1 _ _).mono hnx.size)⟩
        · have HD : Hid (scan (slotE nd ss) (n - (k + 1)) (k + 1) = scan (slotE nd ss) n 0) := HO.out (by rw [HE.out, h1, h2]; rfl)
          go_wp2_with fail
          refine (within_is h1 _).mono ?_
          rintro e w1 ⟨rfl, rfl⟩
          go_wp2_with fail
          refine (within_is h2 _).mono ?_
          rintro e w1 ⟨rfl, rfl⟩
          go_wp2_with fail
          go_roundw
          case rel => exact ⟨k + 1, by omega, by go_num, HD.out, hnx.trans ((below1 _ _).mono hnx.size)⟩
          case measure => simp [intOf]; omega
    · have HZ : Hid (scan (slotE nd ss) n 0 = 0) := by
        rw [← HS.out, show n - k = 0 by omega]; exact rfl
      have HSS : Hid (scan (hasE ss) nd 0 = slotsE nd ss) := by
        unfold slotsE
        rw [hl, HZ.out]; exact rfl
      clear HZ HS
      go_wp2
      go_loopw [7, 28] (fun _ i w2 => ∃ j : Nat, j ≤ nd ∧ i = .int .i64 j ∧ scan (hasE ss) (nd - j) j = slotsE nd ss ∧ Below w.heap.size w w2) (fun _ i _ => nd - (intOf i).toNat)
      case atStart => exact ⟨0, Nat.zero_le _, rfl, HSS.out, hnx⟩
      case round =>
        clear HSS hnx hk hlt
        obtain ⟨j, hj, rfl, hsc, hny⟩ := hrel
        have HS : Hid (scan (hasE ss) (nd - j) j = slotsE nd ss) := hsc
        clear hsc
        by_cases hlt : j < nd
        · have hC := fun W hrow hB hc => has_any ad n cap ss (j : Int) wr.heap.size W hl hn hrow hB hc
          cases hh : ss.any (fun s => s.dom == (j : Int))
          · rw [hh] at hC
            have HD : Hid (slotsE nd ss = 5) := by
              rw [← HS.out, scan_hit (by omega) (by rw [hasE_bad hh]; omega)]; exact hasE_bad hh
            go_wp2_with fail
            refine (hC _ ((HR.out.below hny).below (below1 _ _)) (by simp) (by simp [go_sem])).mono ?_
            rintro e w1 ⟨rfl, hb1⟩
            go_wp2
            go_ret
            exact ⟨by rw [HD.out]; rfl, hny.trans ((below1 _ _).trans (hb1.mono (by simp)) |>.mono hny.size)⟩
          · rw [hh] at hC
            have HD : Hid (scan (hasE ss) (nd - (j + 1)) (j + 1) = slotsE nd ss) := by
              rw [← HS.out, scan_miss (n := nd - j) (by omega) (hasE_ok hh), Nat.sub_add_eq]; exact rfl
            go_wp2_with fail
            refine (hC _ ((HR.out.below hny).below (below1 _ _)) (by simp) (by simp [go_sem])).mono ?_
            rintro e w1 ⟨rfl, hb1⟩
            go_wp2_with fail
            go_roundw
            case rel => exact ⟨j + 1, by omega, by go_num, HD.out, hny.trans ((below1 _ _).trans (hb1.mono (by simp)) |>.mono hny.size)⟩
            case measure => simp [intOf]; omega
        · have HD : Hid (slotsE nd ss = 0) := by rw [← HS.out, show nd - j = 0 by omega]; exact rfl
          go_wp2
          go_ret
          exact ⟨by rw [HD.out]; rfl, hny⟩

theorem linkE_bad {ds : List Dm} {ls : List Lk} {i : Nat} (h : (endsB ds.length (lk ls i) && sizeB (lk ls i)) = false) : linkE ds ls i = 1 := by simp only [linkE, h]; rfl
theorem linkE_up {ds : List Dm} {ls : List Lk} {i : Nat} (h : (endsB ds.length (lk ls i) && sizeB (lk ls i)) = true) (h2 : upB ds (lk ls i) = false) : linkE ds ls i = 10 := by simp only [linkE, h, h2]; rfl
theorem linkE_ok {ds : List Dm} {ls : List Lk} {i : Nat} (h : (endsB ds.length (lk ls i) && sizeB (lk ls i)) = true) (h2 : upB ds (lk ls i) = true) : linkE ds ls i = 0 := by simp only [linkE, h, h2]; rfl

/-- A link that was just laid. -/
theorem link_cells {W w' : World} {l : Lk} (h : Below (W.alloc (.cells #[.int .i64 l.kind, .int .i64 l.src, .int .i64 l.dst, .int .i64 l.size] 32)).heap.size (W.alloc (.cells #[.int .i64 l.kind, .int .i64 l.src, .int .i64 l.dst, .int .i64 l.size] 32)) w') :
    W.heap.size < w'.heap.size ∧ w'.cell? ⟨W.heap.size, 0, none⟩ = some (.int .i64 l.kind) ∧ w'.cell? ⟨W.heap.size, 1, none⟩ = some (.int .i64 l.src) ∧ w'.cell? ⟨W.heap.size, 2, none⟩ = some (.int .i64 l.dst) ∧ w'.cell? ⟨W.heap.size, 3, none⟩ = some (.int .i64 l.size) := by
  have hs := h.size
  simp at hs
  refine ⟨by omega, ?_, ?_, ?_, ?_⟩
  all_goals
    rw [h.cell (by simp)]
    simp [go_sem]

theorem ends_nats {nd : Nat} {l : Lk} (h : endsB nd l = true) : ∃ a b : Nat, l.src = a ∧ l.dst = b ∧ a < nd ∧ b < nd := by
  have := of_decide_eq_true h
  exact ⟨l.src.toNat, l.dst.toNat, by omega, by omega, by omega, by omega⟩

set_option maxHeartbeats 4000000 in
set_option maxRecDepth 100000 in
theorem links_any (ad ae : Option Addr) (n cap nd cap2 : Nat) (ls : List Lk) (ds : List Dm) (w : World) (hl : ls.length = n) (hn : n ≤ 5000) (hld : ds.length = nd) (hd : nd ≤ 5000) (hrow : Lies w ad (cellsL ls)) (hrod : Lies w ae (cellsD ds)) :
    Calls Tryd.prog 23 #[.slice ad n cap, .slice ae nd cap2] w fun e w' => e = .returned (.int .i64 (linksE ds ls : Nat)) ∧ Below w.heap.size w w' := by
  have HR : Hid (Lies w ad (cellsL ls)) := hrow
  have HD : Hid (Lies w ae (cellsD ds)) := hrod
  clear hrow hrod
  go_enter Tryd.func23, Tryd.ntmps23
  go_wp2
  go_loopw [6, 9] (fun _ i wr => ∃ k : Nat, k ≤ n ∧ i = .int .i64 k ∧ scan (linkE ds ls) (n - k) k = linksE ds ls ∧ Below w.heap.size w wr) (fun _ i _ => n - (intOf i).toNat)
  case atStart => exact ⟨0, Nat.zero_le _, rfl, by subst hl; rfl, Below.refl _ _⟩
  case round =>
    obtain ⟨k, hk, rfl, hsc, hnx⟩ := hrel
    have HS : Hid (scan (linkE ds ls) (n - k) k = linksE ds ls) := hsc
    clear hsc
    by_cases hlt : k < n
    · obtain ⟨b, off, rfl, hb, q0, q1, q2, q3⟩ := (HR.out.below hnx).link (lk_at (i := k) (by omega))
      have HE : Hid (∀ x : Nat, linkE ds ls k = x → x ≠ 0 → linksE ds ls = x) := fun x hx h0 => by rw [← HS.out, scan_hit (by omega) (by rw [hx]; exact h0), hx]
      have HO : Hid (linkE ds ls k = 0 → scan (linkE ds ls) (n - (k + 1)) (k + 1) = linksE ds ls) := fun h => by
        rw [← HS.out, scan_miss (n := n - k) (by omega) h, Nat.sub_add_eq]
      have HB : Hid (((endsB nd (lk ls k) && sizeB (lk ls k)) = false → linkE ds ls k = 1) ∧ ((endsB nd (lk ls k) && sizeB (lk ls k)) = true → upB ds (lk ls k) = false → linkE ds ls k = 10) ∧ ((endsB nd (lk ls k) && sizeB (lk ls k)) = true → upB ds (lk ls k) = true → linkE ds ls k = 0)) := by
        subst hld
        exact ⟨linkE_bad, linkE_up, linkE_ok⟩
      have HU : Hid (upB ds (lk ls k) = leqB (dm ds (lk ls k).src.toNat).lev (dm ds (lk ls k).src.toNat).cat (dm ds (lk ls k).dst.toNat).lev (dm ds (lk ls k).dst.toNat).cat) := rfl
      generalize lk ls k = l at *
      have hE := fun W => ends_any l nd hd W
      have hZ := fun W => size_any l W
      cases h1 : endsB nd l
      · rw [h1] at hE
        have HX : Hid (linksE ds ls = 1) := HE.out 1 (HB.out.1 (by rw [h1]; rfl)) (by omega)
        go_wp2_with fail
        refine (hE _).mono ?_
        rintro e w1 ⟨rfl, hb1⟩
        go_wp2
        go_ret
        exact ⟨by rw [HX.out]; rfl, hnx.trans ((below1 _ _).trans (hb1.mono (by simp)) |>.mono hnx.size)⟩
      · rw [h1] at hE
        cases h2 : sizeB l
        · rw [h2] at hZ
          have HX : Hid (linksE ds ls = 1) := HE.out 1 (HB.out.1 (by rw [h1, h2]; rfl)) (by omega)
          go_wp2_with fail
          refine (hE _).mono ?_
          rintro e w1 ⟨rfl, hb1⟩
          obtain ⟨hz1, z0, z1, z2, z3⟩ := link_cells hb1
          go_wp2_with fail
          refine (hZ _).mono ?_
          rintro e w2 ⟨rfl, hb2⟩
          go_wp2
          go_ret
          exact ⟨by rw [HX.out]; rfl, below_next (hnx.trans ((below1 _ _).trans (hb1.mono (by simp)) |>.mono hnx.size)) hb2⟩
        · rw [h2] at hZ
          have hes : (endsB nd l && sizeB l) = true := by rw [h1, h2]; rfl
          have HES : Hid ((endsB nd l && sizeB l) = true) := hes
          clear hes
          go_wp2_with fail
          refine (hE _).mono ?_
          rintro e w1 ⟨rfl, hb1⟩
          obtain ⟨hz1, z0, z1, z2, z3⟩ := link_cells hb1
          have hB1 : Below w.heap.size w w1 := hnx.trans ((below1 _ _).trans (hb1.mono (by simp)) |>.mono hnx.size)
          clear hb1
          go_wp2_with fail
          refine (hZ _).mono ?_
          rintro e w2 ⟨rfl, hb2⟩
          obtain ⟨cc, _⟩ := bcell hb2
          have y1 := (cc wr.heap.size 1 hz1).trans z1
          have y2 := (cc wr.heap.size 2 hz1).trans z2
          have hz2 : wr.heap.size < w2.heap.size := by have := hb2.size; omega
          have hB2 := below_next hB1 hb2
          obtain ⟨a, c, ha, hc, hal, hcl⟩ := ends_nats h1
          rw [ha] at y1 HU
          rw [hc] at y2 HU
          simp only [Int.toNat_natCast] at HU
          clear cc z0 z1 z2 z3 hz1 hb2 hB1 h1 ha hc
          obtain ⟨b2, off2, rfl, hbb, _, d1, d2, _⟩ := (HD.out.below hB2).dom (dm_at (i := a) (by omega))
          obtain ⟨b3, off3, hbe, _, _, d3, d4, _⟩ := (HD.out.below hB2).dom (dm_at (i := c) (by omega))
          injection hbe with hbe
          injection hbe with e1 e2
          subst e1 e2
          generalize dm ds a = A at *
          generalize dm ds c = C at *
          have hQ := fun W => leq_any A.lev A.cat C.lev C.cat W
          have HQ : Hid (∀ W : World, Calls Tryd.prog 12 #[.agg #[.int .i64 A.lev, .int .i64 A.cat], .agg #[.int .i64 C.lev, .int .i64 C.cat]] W fun e w' => e = .returned (.bool (leqB A.lev A.cat C.lev C.cat)) ∧ Below W.heap.size W w') := hQ
          clear hQ
          have g1 : (a : Int) < (nd : Int) := by omega
          have g2 : (c : Int) < (nd : Int) := by omega
          have g3 : (0 : Int) ≤ (a : Int) := by omega
          have g4 : (0 : Int) ≤ (c : Int) := by omega
          cases hu : leqB A.lev A.cat C.lev C.cat
          · rw [hu] at HQ
            have HX : Hid (linksE ds ls = 10) := HE.out 10 (HB.out.2.1 HES.out (by rw [HU.out, hu])) (by omega)
            go_wp2_with fail
            refine wp_region_quiet_below (by kernel_rfl) (by kernel_rfl) ?_
            repeat (first | go_big_quiet_skip | quiet_step ((go_at_call 12; exact Calls.regrown_of (HQ.out _))))
            refine wpQuiet_nil ?_
            intro w3 hw'
            have hb3 := below_of_regrown hw'
            clear hw'
            go_wp2
            go_ret
            exact ⟨by rw [HX.out]; rfl, below_next hB2 hb3⟩
          · rw [hu] at HQ
            have HX : Hid (scan (linkE ds ls) (n - (k + 1)) (k + 1) = linksE ds ls) := HO.out (HB.out.2.2 HES.out (by rw [HU.out, hu]))
            go_wp2_with fail
            refine wp_region_quiet_below (by kernel_rfl) (by kernel_rfl) ?_
            repeat (first | go_big_quiet_skip | quiet_step ((go_at_call 12; exact Calls.regrown_of (HQ.out _))))
            refine wpQuiet_nil ?_
            intro w3 hw'
            have hb3 := below_of_regrown hw'
            clear hw'
            go_wp2_with fail
            go_roundw
            case rel => exact ⟨k + 1, by omega, by go_num, HX.out, below_next hB2 hb3⟩
            case measure => simp [intOf]; omega
    · have HX : Hid (linksE ds ls = 0) := by rw [← HS.out, show n - k = 0 by omega]; exact rfl
      go_wp2
      go_ret
      exact ⟨by rw [HX.out]; rfl, hnx⟩

end Go.Proofs.YtmhjoomkeidcaaaDoor
