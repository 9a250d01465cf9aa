/-
  What policy.checkDomains comes to: the error of the first domain that may not be.
-/
import Derived.Test.YtmhjoomkeidcaaaDoorSmall
import Derived.Lib.QuietBelow
import Derived.BigQuiet
namespace Go.Proofs.YtmhjoomkeidcaaaDoor
open Go.RowKit L2

theorem regrown_cell (W : World) (d : Nat) (os : Array Obj) (b o : Nat) (h : b < W.heap.size) : (Sort.grow (redrawn W d) os).cell? ⟨b, o, none⟩ = W.cell? ⟨b, o, none⟩ :=
  (below_regrown W d os).cell (p := ⟨b, o, none⟩) h
attribute [local go_sem] regrown_cell
theorem below_of_regrown {W w' : World} (h : ∃ p : Regrown, w' = Sort.grow (redrawn W p.d) p.os) : Below W.heap.size W w' := by
  obtain ⟨p, rfl⟩ := h
  exact below_regrown W p.d p.os

theorem take_lies {w : World} {ad : Option Addr} {ds : List Dm} (h : Lies w ad (cellsD ds)) (n : Nat) : Lies w ad (cellsD (ds.take n)) := by
  unfold cellsD
  rw [flat_take cD 6 (fun _ => rfl)]
  exact Lies.take h _

/-- A domain that was just laid. -/
theorem dom_cells {W w' : World} {d : Dm} (h : Below (W.alloc (.cells #[.string d.name, .int .i64 d.lev, .int .i64 d.cat, .int .i64 d.tasks, .int .i64 d.objs, .int .i64 d.ring] 37)).heap.size (W.alloc (.cells #[.string d.name, .int .i64 d.lev, .int .i64 d.cat, .int .i64 d.tasks, .int .i64 d.objs, .int .i64 d.ring] 37)) w') :
    W.heap.size < w'.heap.size ∧ w'.cell? ⟨W.heap.size, 0, none⟩ = some (.string d.name) ∧ w'.cell? ⟨W.heap.size, 1, none⟩ = some (.int .i64 d.lev) ∧ w'.cell? ⟨W.heap.size, 2, none⟩ = some (.int .i64 d.cat)
      ∧ w'.cell? ⟨W.heap.size, 3, none⟩ = some (.int .i64 d.tasks) ∧ w'.cell? ⟨W.heap.size, 4, none⟩ = some (.int .i64 d.objs) ∧ w'.cell? ⟨W.heap.size, 5, none⟩ = some (.int .i64 d.ring) := by
  have hs := h.size
  simp at hs
  refine ⟨by omega, ?_, ?_, ?_, ?_, ?_, ?_⟩
  all_goals
    rw [h.cell (by simp)]
    simp [go_sem]

theorem domE_name {ds : List Dm} {i : Nat} (h : nameBad ds i = true) : domE ds i = 4 := by simp [domE, h]
theorem domE_lab {ds : List Dm} {i : Nat} (h : nameBad ds i = false) (h2 : goodB (dm ds i).lev (dm ds i).cat = false) : domE ds i = 3 := by simp [domE, h, h2]
theorem domE_quota {ds : List Dm} {i : Nat} (h : nameBad ds i = false) (h2 : goodB (dm ds i).lev (dm ds i).cat = true) (h3 : quotaB (dm ds i) = false) : domE ds i = 1 := by simp [domE, h, h2, h3]
theorem domE_ok {ds : List Dm} {i : Nat} (h : nameBad ds i = false) (h2 : goodB (dm ds i).lev (dm ds i).cat = true) (h3 : quotaB (dm ds i) = true) : domE ds i = 0 := by simp [domE, h, h2, h3]

theorem ret_nat {a b : Nat} (h : a = b) : Ending.returned (.int .i64 (a : Int)) = .returned (.int .i64 (b : Int)) := by rw [h]

set_option maxHeartbeats 4000000 in
set_option maxRecDepth 100000 in
theorem domains_any (ad : Option Addr) (n cap : Nat) (ds : List Dm) (w : World) (hl : ds.length = n) (hn : n ≤ 5000) (hcap : n ≤ cap) (hrow : Lies w ad (cellsD ds)) :
    Calls Tryd.prog 21 #[.slice ad n cap] w fun e w' => e = .returned (.int .i64 (domsE ds : Nat)) ∧ Below w.heap.size w w' := by
  have HR : Hid (Lies w ad (cellsD ds)) := hrow
  clear hrow
  go_enter Tryd.func21, Tryd.ntmps21
  go_wp2
  go_loopw [3, 4, 7] (fun _ _ i wr => ∃ k : Nat, k ≤ n ∧ i = .int .i64 k ∧ scan (domE ds) (n - k) k = domsE ds ∧ Below w.heap.size w wr) (fun _ _ i _ => n - (intOf i).toNat)
  case atStart => exact ⟨0, Nat.zero_le _, rfl, by subst hl; rfl, Below.refl _ _⟩
  case round =>
    obtain ⟨k, hk, rfl, hsc, hnx⟩ := hrel
    have HS : Hid (scan (domE ds) (n - k) k = domsE ds) := hsc
    clear hsc
    by_cases hlt : k < n
    · obtain ⟨b, off, rfl, hb, q0, q1, q2, q3, q4, q5⟩ := (HR.out.below hnx).dom (dm_at (i := k) (by omega))
      have hNB : nameBad ds k = (!nameB (dm ds k).name || decide (0 ≤ placeOf (ds.take k) (dm ds k).name)) := rfl
      have hLB := fun h h2 => domE_lab (ds := ds) (i := k) h h2
      have hQB := fun h h2 h3 => domE_quota (ds := ds) (i := k) h h2 h3
      have hOK := fun h h2 h3 => domE_ok (ds := ds) (i := k) h h2 h3
      have HH : Hid ((goodB (dm ds k).lev (dm ds k).cat = false → nameBad ds k = false → domE ds k = 3) ∧ (goodB (dm ds k).lev (dm ds k).cat = true → quotaB (dm ds k) = false → nameBad ds k = false → domE ds k = 1) ∧ (goodB (dm ds k).lev (dm ds k).cat = true → quotaB (dm ds k) = true → nameBad ds k = false → domE ds k = 0)) :=
        ⟨fun h h2 => hLB h2 h, fun h h2 h3 => hQB h3 h h2, fun h h2 h3 => hOK h3 h h2⟩
      clear hLB hQB hOK
      have HN : Hid (nameBad ds k = (!nameB (dm ds k).name || decide (0 ≤ placeOf (ds.take k) (dm ds k).name))) := hNB
      clear hNB
      generalize dm ds k = d at *
      have hG := fun W => good_any d.lev d.cat W
      have hQ := fun W => quotas_any d W
      have hM := fun W => name_any d.name W
      have HG : Hid (∀ W : World, Calls Tryd.prog 45 #[.string d.name] W fun e w' => e = .returned (.bool (nameB d.name)) ∧ Below W.heap.size W w') := hM
      clear hM
      have HE : Hid (∀ x : Nat, domE ds k = x → x ≠ 0 → domsE ds = x) := fun x hx h0 => by rw [← HS.out, scan_hit (by omega) (by rw [hx]; exact h0), hx]
      cases hm : nameB d.name
      · rw [hm] at HG
        have HD : Hid (domsE ds = 4) := HE.out 4 (domE_name (by rw [HN.out, hm]; rfl)) (by omega)
        go_wp2_with fail
        refine wp_region_quiet_below (by kernel_rfl) (by kernel_rfl) ?_
        repeat (first | go_big_quiet_skip | quiet_step ((go_at_call 45; exact Calls.regrown_of (HG.out _))))
        refine wpQuiet_nil ?_
        intro w1 hw'
        have hb1 := below_of_regrown hw'
        clear hw'
        go_wp2
        go_ret
        exact ⟨by rw [HD.out]; rfl, hnx.trans ((below1 _ _).trans (hb1.mono (by simp)) |>.mono hnx.size)⟩
      · rw [hm] at HG
        have hPl := fun (W : World) hrow => place_any (some ⟨b, off, none⟩) k cap (ds.take k) d.name W (by simp; omega) (by omega) hrow
        have HP : Hid (∀ (W : World), Lies W (some ⟨b, off, none⟩) (cellsD (ds.take k)) → Calls Tryd.prog 46 #[.slice (some ⟨b, off, none⟩) k cap, .string d.name] W fun e w' => e = .returned (.int .i64 (placeOf (ds.take k) d.name)) ∧ Below W.heap.size W w') := hPl
        have HT : Hid (Lies wr (some ⟨b, off, none⟩) (cellsD (ds.take k))) := take_lies (HR.out.below hnx) k
        clear hPl
        rw [hm] at HN
        have hkc : (k : Int) ≤ (cap : Int) := by omega
        have hk0 : (0 : Int) ≤ (k : Int) := by omega
        generalize placeOf (ds.take k) d.name = pl at *
        by_cases hpl : 0 ≤ pl
        · have hd : decide (0 ≤ pl) = true := decide_eq_true hpl
          have HD : Hid (domsE ds = 4) := HE.out 4 (domE_name (by rw [HN.out, hd]; rfl)) (by omega)
          go_wp2_with fail
          refine wp_region_quiet_below (by kernel_rfl) (by kernel_rfl) ?_
          repeat (first | go_big_quiet_skip | quiet_step (first | (go_at_call 45; exact Calls.regrown_of (HG.out _)) | (go_at_call 46; exact Calls.regrown_of (HP.out _ ((HT.out.below (below1 _ _)).below (below_regrown _ _ _))))))
          refine wpQuiet_nil ?_
          intro w1 hw'
          have hb1 := below_of_regrown hw'
          clear hw'
          go_wp2
          go_ret
          exact ⟨by rw [HD.out]; rfl, hnx.trans ((below1 _ _).trans (hb1.mono (by simp)) |>.mono hnx.size)⟩
        · have hd : decide (0 ≤ pl) = false := decide_eq_false hpl
          have HNB : Hid (nameBad ds k = false) := by rw [HN.out, hd]; exact rfl
          go_wp2_with fail
          refine wp_region_quiet_below (by kernel_rfl) (by kernel_rfl) ?_
          repeat (first | go_big_quiet_skip | quiet_step (first | (go_at_call 45; exact Calls.regrown_of (HG.out _)) | (go_at_call 46; exact Calls.regrown_of (HP.out _ ((HT.out.below (below1 _ _)).below (below_regrown _ _ _))))))
          refine wpQuiet_nil ?_
          intro w1 hw'
          have hb1 := below_of_regrown hw'
          clear hw'
          obtain ⟨hz1, z0, z1, z2, z3, z4, z5⟩ := dom_cells hb1
          have hB1 : Below w.heap.size w w1 := hnx.trans ((below1 _ _).trans (hb1.mono (by simp)) |>.mono hnx.size)
          clear hb1
          cases hg : goodB d.lev d.cat
          · rw [hg] at hG
            have HD : Hid (domsE ds = 3) := HE.out 3 (HH.out.1 hg HNB.out) (by omega)
            go_wp2_with fail
            refine (hG _).mono ?_
            rintro e w2 ⟨rfl, hb2⟩
            go_wp2
            go_ret
            exact ⟨by rw [HD.out]; rfl, below_next hB1 hb2⟩
          · rw [hg] at hG
            cases hq : quotaB d
            · rw [hq] at hQ
              have HD : Hid (domsE ds = 1) := HE.out 1 (HH.out.2.1 hg hq HNB.out) (by omega)
              go_wp2_with fail
              refine (hG _).mono ?_
              rintro e w2 ⟨rfl, hb2⟩
              obtain ⟨cc, _⟩ := bcell hb2
              have y0 := (cc wr.heap.size 0 hz1).trans z0
              have y1 := (cc wr.heap.size 1 hz1).trans z1
              have y2 := (cc wr.heap.size 2 hz1).trans z2
              have y3 := (cc wr.heap.size 3 hz1).trans z3
              have y4 := (cc wr.heap.size 4 hz1).trans z4
              have y5 := (cc wr.heap.size 5 hz1).trans z5
              clear cc
              go_wp2_with fail
              refine (hQ _).mono ?_
              rintro e w3 ⟨rfl, hb3⟩
              go_wp2
              go_ret
              exact ⟨by rw [HD.out]; rfl, below_next (below_next hB1 hb2) hb3⟩
            · rw [hq] at hQ
              have HD : Hid (scan (domE ds) (n - (k + 1)) (k + 1) = domsE ds) := by rw [← HS.out, scan_miss (n := n - k) (by omega) (HH.out.2.2 hg hq HNB.out), Nat.sub_add_eq]; exact rfl
              go_wp2_with fail
              refine (hG _).mono ?_
              rintro e w2 ⟨rfl, hb2⟩
              obtain ⟨cc, _⟩ := bcell hb2
              have y0 := (cc wr.heap.size 0 hz1).trans z0
              have y1 := (cc wr.heap.size 1 hz1).trans z1
              have y2 := (cc wr.heap.size 2 hz1).trans z2
              have y3 := (cc wr.heap.size 3 hz1).trans z3
              have y4 := (cc wr.heap.size 4 hz1).trans z4
              have y5 := (cc wr.heap.size 5 hz1).trans z5
              clear cc
              go_wp2_with fail
              refine (hQ _).mono ?_
              rintro e w3 ⟨rfl, hb3⟩
              go_wp2_with fail
              go_roundw
              case rel => exact ⟨k + 1, by omega, by go_num, HD.out, below_next (below_next hB1 hb2) hb3⟩
              case measure => simp [intOf]; omega
    · go_wp2
      go_ret
      obtain rfl : k = n := by omega
      refine ⟨?_, hnx⟩
      rw [← HS.out, Nat.sub_self]
      rfl

end Go.Proofs.YtmhjoomkeidcaaaDoor
