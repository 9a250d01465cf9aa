/-
  What the document's Give and Drop come to.
-/
import Derived.Test.YtggfndokmdpaeaaRHand
namespace Go.Proofs.Ytggfndokmdpaeaa
open Go.RowKit

theorem less_nd {l : List Wn} (hn : (ts l).Nodup) {t : Int} (h : inZ (ts l) t = true) : (ts (lessO l (idxN l t))).Nodup := by
  rw [less_ts hn h]
  exact rm_nodup hn t
theorem give_not {l : List Wn} {t : Int} {b : Bool} (h1 : ¬ t < 1) (h : giveB l t b = false) : giveE l t b = 11 ∧ giveO l t b = [] ∧ giveL l t b = l := by
  unfold giveE giveO giveL
  rw [if_neg h1, if_neg h1, if_neg h1, h]
  exact ⟨rfl, rfl, rfl⟩
theorem give_yes {l : List Wn} {t : Int} {b : Bool} (h1 : ¬ t < 1) (h : giveB l t b = true) : giveE l t b = 0 ∧ giveO l t b = handLo (lessO l (idxN l t)) ∧ giveL l t b = handLL (lessO l (idxN l t)) := by
  unfold giveE giveO giveL
  rw [if_neg h1, if_neg h1, if_neg h1, h]
  exact ⟨rfl, rfl, rfl⟩
theorem rowZ_nil (w : World) (a : Option Addr) : RowZ w a [] := fun h => absurd rfl h

set_option maxRecDepth 4000 in
set_option maxHeartbeats 2000000 in
theorem rgive_any (R base : Nat) (u : Value) (l : List Wn) (hl : l.length ≤ 1000) (hnd : (ts l).Nodup) (t : Int) (b : Bool) (w : World) (hR : AtR w R base u l) (hbs : base ≤ w.heap.size) :
    Calls Try.prog 25 #[.pointer (some ⟨R, 0, none⟩), .int .i64 t, .bool b] w fun e w' => ∃ a c, e = .returned (.tuple #[.slice a (giveO l t b).length c, .int .i64 (giveE l t b)]) ∧ NowR R base u (giveL l t b) w w' ∧ RowZ w' a (giveO l t b) := by
  have HR := hide hR
  by_cases h1 : t < 1
  · rw [show giveE l t b = 1 from if_pos h1, show giveO l t b = [] from if_pos h1, show giveL l t b = l from if_pos h1]
    clear hR
    go_enter Try.func25, Try.ntmps25
    go_wp2
    go_ret2
    exact ⟨_, _, rfl, NowR.same HR.out (Below.refl _ _), rowZ_nil _ _⟩
  · have A := at_any R base u l hl t w hR
    cases hi : inZ (ts l) t
    · obtain ⟨e1, e2, e3⟩ := give_not (b := b) h1 (show giveB l t b = false by unfold giveB; rw [hi]; rfl)
      rw [e1, e2, e3]
      rw [idx_out hi] at A
      have HA := hide A
      clear hR A hi e1 e2 e3
      go_enter Try.func25, Try.ntmps25
      go_wp2_with fail
      refine HA.out.mono ?_
      rintro e w2 ⟨rfl, hw2⟩
      subst hw2
      go_wp2
      go_ret2
      exact ⟨_, _, rfl, NowR.same HR.out (Below.refl _ _), rowZ_nil _ _⟩
    · obtain ⟨h2, h3, h4⟩ := idx_here hi
      rw [h4] at A
      have HA := hide A
      obtain ⟨g, ac, rfl, _, hgl, hcell, _⟩ := row_openO hR.row (by omega)
      obtain ⟨_, p1, p2⟩ := hcell _ h2
      obtain ⟨c0, _⟩ := hR.cells
      have i1 : ((idxN l t : Nat) : Int) < (l.length : Int) := by omega
      have i0 : (0 : Int) ≤ ((idxN l t : Nat) : Int) := by omega
      have hg : giveB l t b = ((wn l (idxN l t)).h && ((wn l (idxN l t)).w == b)) := by unfold giveB; rw [hi, Bool.true_and]
      by_cases hh : (wn l (idxN l t)).h = true
      · rw [hh] at p2
        by_cases hw : (wn l (idxN l t)).w = b
        · obtain ⟨e1, e2, e3⟩ := give_yes (b := b) h1 (by rw [hg, hh, hw]; simp)
          rw [e1, e2, e3]
          have hw' : ((wn l (idxN l t)).w == b) = true := by simpa using hw
          have dk : decide (((idxN l t : Nat) : Int) < 0) = false := decide_eq_false (by omega)
          have HO := hide (out_any R base _ l hl _ h2 w hR hbs)
          have hnd2 := hide (less_nd hnd hi)
          have hl2 : Hid ((lessO l (idxN l t)).length ≤ 1000) := by have := less_len h2; show _ ≤ _; omega
          clear hR A hi e1 e2 e3 hcell hg hh hw h2 h3 h4 hnd
          generalize lessO l (idxN l t) = l2 at *
          generalize (wn l (idxN l t)).w = Y at *
          generalize idxN l t = k at *
          generalize l.length = L at *
          go_enter Try.func25, Try.ntmps25
          go_wp2_with fail
          refine HA.out.mono ?_
          rintro e w2 ⟨rfl, hw2⟩
          subst hw2
          go_wp2_with fail
          refine HO.out.mono ?_
          rintro e w3 ⟨rfl, hN⟩
          obtain ⟨u3, hA3, hV3, hW3⟩ := hN
          have HH := hide (rhand_any R base u3 l2 hl2.out hnd2.out w3 hA3 (Nat.le_trans hbs hV3.size))
          have HV3 := hide hV3
          have HW3 := hide hW3
          clear hA3 hV3 hW3 HO HA
          go_wp2_with fail
          refine HH.out.mono ?_
          rintro e w4 ⟨a, c, rfl, hN, hz⟩
          have HN := hide (NowR.next HV3.out HW3.out hN)
          have HZ := hide hz
          clear hN hz HH
          go_wp2
          go_ret2
          exact ⟨a, c, rfl, HN.out, HZ.out⟩
        · obtain ⟨e1, e2, e3⟩ := give_not (b := b) h1 (by rw [hg, hh, Bool.true_and]; simpa using hw)
          rw [e1, e2, e3]
          have hw' : ((wn l (idxN l t)).w == b) = false := by simpa using hw
          have dk : decide (((idxN l t : Nat) : Int) < 0) = false := decide_eq_false (by omega)
          clear hR A hi e1 e2 e3 hcell hg hh hw h2 h3 h4 hnd
          generalize (wn l (idxN l t)).w = Y at *
          generalize idxN l t = k at *
          generalize l.length = L at *
          go_enter Try.func25, Try.ntmps25
          go_wp2_with fail
          refine HA.out.mono ?_
          rintro e w2 ⟨rfl, hw2⟩
          subst hw2
          go_wp2
          go_ret2
          exact ⟨_, _, rfl, NowR.same HR.out (Below.refl _ _), rowZ_nil _ _⟩
      · have hh' : (wn l (idxN l t)).h = false := by simpa using hh
        rw [hh'] at p2
        obtain ⟨e1, e2, e3⟩ := give_not (b := b) h1 (by rw [hg, hh', Bool.false_and])
        rw [e1, e2, e3]
        clear hR A hi e1 e2 e3 hcell hg hh hh' h2 h3 h4 hnd p1
        generalize idxN l t = k at *
        generalize l.length = L at *
        go_enter Try.func25, Try.ntmps25
        go_wp2_with fail
        refine HA.out.mono ?_
        rintro e w2 ⟨rfl, hw2⟩
        subst hw2
        go_wp2
        go_ret2
        exact ⟨_, _, rfl, NowR.same HR.out (Below.refl _ _), rowZ_nil _ _⟩

theorem out_not {l : List Wn} {t : Int} (h : outB l t = false) : outO l t = [] ∧ outL l t = l := by
  unfold outO outL
  rw [h]
  exact ⟨rfl, rfl⟩
theorem out_yes {l : List Wn} {t : Int} (h : outB l t = true) : outO l t = handLo (lessO l (idxN l t)) ∧ outL l t = handLL (lessO l (idxN l t)) := by
  unfold outO outL
  rw [h]
  exact ⟨rfl, rfl⟩

set_option maxRecDepth 4000 in
set_option maxHeartbeats 2000000 in
theorem rdrop_any (R base : Nat) (u : Value) (l : List Wn) (hl : l.length ≤ 1000) (hnd : (ts l).Nodup) (t : Int) (w : World) (hR : AtR w R base u l) (hbs : base ≤ w.heap.size) :
    Calls Try.prog 23 #[.pointer (some ⟨R, 0, none⟩), .int .i64 t] w fun e w' => ∃ a c, e = .returned (.tuple #[.slice a (outO l t).length c, .bool (outB l t)]) ∧ NowR R base u (outL l t) w w' ∧ RowZ w' a (outO l t) := by
  have HR := hide hR
  have A := at_any R base u l hl t w hR
  cases hi : inZ (ts l) t
  · have hg : outB l t = false := by unfold outB; rw [hi]; rfl
    obtain ⟨e2, e3⟩ := out_not hg
    rw [hg, e2, e3]
    rw [idx_out hi] at A
    have HA := hide A
    clear hR A hi e2 e3 hg
    go_enter Try.func23, Try.ntmps23
    go_wp2_with fail
    refine HA.out.mono ?_
    rintro e w2 ⟨rfl, hw2⟩
    subst hw2
    go_wp2
    go_ret2
    exact ⟨_, _, rfl, NowR.same HR.out (Below.refl _ _), rowZ_nil _ _⟩
  · obtain ⟨h2, h3, h4⟩ := idx_here hi
    rw [h4] at A
    have HA := hide A
    obtain ⟨g, ac, rfl, _, hgl, hcell, _⟩ := row_openO hR.row (by omega)
    obtain ⟨_, _, p2⟩ := hcell _ h2
    obtain ⟨c0, _⟩ := hR.cells
    have i1 : ((idxN l t : Nat) : Int) < (l.length : Int) := by omega
    have i0 : (0 : Int) ≤ ((idxN l t : Nat) : Int) := by omega
    have hg : outB l t = !(wn l (idxN l t)).h := by unfold outB; rw [hi, Bool.true_and]
    by_cases hh : (wn l (idxN l t)).h = true
    · rw [hh] at p2 hg
      have hg' : outB l t = false := hg
      obtain ⟨e2, e3⟩ := out_not hg'
      rw [hg', e2, e3]
      clear hR A hi e2 e3 hcell hg hg' hh h2 h3 h4 hnd
      generalize idxN l t = k at *
      generalize l.length = L at *
      go_enter Try.func23, Try.ntmps23
      go_wp2_with fail
      refine HA.out.mono ?_
      rintro e w2 ⟨rfl, hw2⟩
      subst hw2
      go_wp2
      go_ret2
      exact ⟨_, _, rfl, NowR.same HR.out (Below.refl _ _), rowZ_nil _ _⟩
    · have hh' : (wn l (idxN l t)).h = false := by simpa using hh
      rw [hh'] at p2 hg
      have hg' : outB l t = true := hg
      obtain ⟨e2, e3⟩ := out_yes hg'
      rw [hg', e2, e3]
      have HO := hide (out_any R base _ l hl _ h2 w hR hbs)
      have hnd2 := hide (less_nd hnd hi)
      have hl2 : Hid ((lessO l (idxN l t)).length ≤ 1000) := by have := less_len h2; show _ ≤ _; omega
      clear hR A hi e2 e3 hcell hg hg' hh hh' h2 h3 h4 hnd
      generalize lessO l (idxN l t) = l2 at *
      generalize idxN l t = k at *
      generalize l.length = L at *
      go_enter Try.func23, Try.ntmps23
      go_wp2_with fail
      refine HA.out.mono ?_
      rintro e w2 ⟨rfl, hw2⟩
      subst hw2
      go_wp2_with fail
      refine HO.out.mono ?_
      rintro e w3 ⟨rfl, hN⟩
      obtain ⟨u3, hA3, hV3, hW3⟩ := hN
      have HH := hide (rhand_any R base u3 l2 hl2.out hnd2.out w3 hA3 (Nat.le_trans hbs hV3.size))
      have HV3 := hide hV3
      have HW3 := hide hW3
      clear hA3 hV3 hW3 HO HA
      go_wp2_with fail
      refine HH.out.mono ?_
      rintro e w4 ⟨a, c, rfl, hN, hz⟩
      have HN := hide (NowR.next HV3.out HW3.out hN)
      have HZ := hide hz
      clear hN hz HH
      go_wp2
      go_ret2
      exact ⟨a, c, rfl, HN.out, HZ.out⟩

end Go.Proofs.Ytggfndokmdpaeaa
