/-
  What the document's Push comes to.
-/
import Derived.Test.YtonahaembfbgbaaRefPusha2
import Derived.Test.YtonahaembfbgbaaRefPushb
namespace Go.Proofs.Ytonahaembfbgbaa
open Go.RowKit

set_option maxHeartbeats 4000000 in
theorem refPush_no (R T : Nat) (s : Qs) (vs : Nat → Value) (k x : Int) (w : World) (hs : Ok s) (hR : AtR w R T s vs) (hno : ¬ fits s k x) :
    Calls Try.prog 15 #[.pointer (some ⟨R, 0, none⟩), .int .i64 k, .int .i64 x] w fun e w' => e = .returned (.bool false) ∧ w' = w := by
  obtain ⟨c0, c1⟩ := hR.cells
  have hWh := refWhere_any R T s vs x w hs hR
  by_cases h1 : k < 0
  · have d1 : decide (k < 0) = true := by simpa using h1
    clear hR hWh
    go_enter Try.func15, Try.ntmps15
    go_wp2
    go_ret
    exact ⟨rfl, rfl⟩
  · have d1 : decide (k < 0) = false := by simpa using h1
    by_cases h2 : (s.nq : Int) ≤ k
    · have d2 : decide ((s.nq : Int) ≤ k) = true := by simpa using h2
      clear hR hWh
      go_enter Try.func15, Try.ntmps15
      go_wp2
      go_ret
      exact ⟨rfl, rfl⟩
    · have d2 : decide ((s.nq : Int) ≤ k) = false := by simpa using h2
      by_cases h3 : x < 0
      · have d3 : decide (x < 0) = true := by simpa using h3
        clear hR hWh
        go_enter Try.func15, Try.ntmps15
        go_wp2
        go_ret
        exact ⟨rfl, rfl⟩
      · have d3 : decide (x < 0) = false := by simpa using h3
        by_cases h4 : (s.ni : Int) ≤ x
        · have d4 : decide ((s.ni : Int) ≤ x) = true := by simpa using h4
          clear hR hWh
          go_enter Try.func15, Try.ntmps15
          go_wp2
          go_ret
          exact ⟨rfl, rfl⟩
        · have d4 : decide ((s.ni : Int) ≤ x) = false := by simpa using h4
          have hi : hasI s x := ⟨by omega, by omega⟩
          have hw : 0 ≤ whereOf s x := by
            unfold whereOf
            rw [if_pos hi]
            rcases hs.wh x.toNat (by omega) with e | e
            · exact absurd ⟨⟨by omega, by omega⟩, hi, e⟩ hno
            · exact e.1
          have d5 : decide (0 ≤ whereOf s x) = true := by simpa using hw
          generalize whereOf s x = v at *
          have HW := hide hWh
          clear hR hWh hno hi
          go_enter Try.func15, Try.ntmps15
          go_wp2_with fail
          refine HW.out.mono ?_
          rintro e w2 ⟨rfl, hw2⟩
          have hw2' := hw2.symm
          clear hw2
          subst hw2'
          go_wp2
          go_ret
          exact ⟨rfl, rfl⟩

theorem refPush_any (R T : Nat) (s : Qs) (vs : Nat → Value) (k x : Int) (w : World) (hs : Ok s) (hR : AtR w R T s vs) :
    Calls Try.prog 15 #[.pointer (some ⟨R, 0, none⟩), .int .i64 k, .int .i64 x] w fun e w' => e = .returned (.bool (pushB s k x)) ∧ NowR R T (pushOf s k x) w w' := by
  by_cases h : fits s k x
  · obtain ⟨j, rfl⟩ : ∃ j : Nat, k = (j : Int) := ⟨k.toNat, by omega⟩
    obtain ⟨y, rfl⟩ : ∃ y : Nat, x = (y : Int) := ⟨x.toNat, by omega⟩
    rw [show pushB s (j : Int) (y : Int) = true from if_pos h, show pushOf s (j : Int) (y : Int) = pushAt s j y from if_pos h]
    have hrow := hR.row j (by omega)
    have hw : s.wh y = -1 := by simpa using h.2.2
    rcases hrow.2 with ⟨hv, _⟩ | ⟨g, cap, cur, hv, _⟩
    · exact refPush_nil R T s vs j y w hs hR (by omega) (by omega) hw hv
    · exact refPush_some R T s vs j y w hs hR (by omega) (by omega) hw g cap _ rfl hv
  · rw [show pushB s k x = false from if_neg h, show pushOf s k x = s from if_neg h]
    refine (refPush_no R T s vs k x w hs hR h).mono ?_
    rintro e w' ⟨rfl, rfl⟩
    exact ⟨rfl, vs, hR, Turn.refl _ _ _⟩

end Go.Proofs.Ytonahaembfbgbaa
