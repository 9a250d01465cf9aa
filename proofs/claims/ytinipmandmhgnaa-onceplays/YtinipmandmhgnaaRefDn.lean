/-
  What the document's Done comes to.
-/
import Derived.Test.YtinipmandmhgnaaRefBeg
namespace Go.Proofs.Ytinipmandmhgnaa
open Go.RowKit

theorem idx_has {l : List Int} {t : Int} (h : has l t) : idxZ l t = 0 := idx_at (k := 0) (List.length_pos_iff.2 h.2.1) h.2.2 (fun _ hm => absurd hm (Nat.not_lt_zero _))
theorem idx_not {l : List Int} {t : Int} (h : ¬ has l t) (h1 : ¬ t < 1) : (idxZ l t != 0) = true := by
  cases hb : inZ l t
  · rw [idx_out hb]; rfl
  · obtain ⟨k, q1, q2, q3⟩ := idx_in hb
    have hk : k ≠ 0 := by
      rintro rfl
      exact h ⟨by omega, List.length_pos_iff.1 (by omega), q3⟩
    rw [q2]
    simp
    omega
theorem dn_no {l : List Int} {o : Bool} {t : Int} (h : ¬ has l t) : dnW l t = [] ∧ dnL l t = l ∧ dnO l o t = o := ⟨if_neg h, if_neg h, if_neg h⟩
theorem dn_yes {l : List Int} {o : Bool} {t : Int} (h : has l t) : dnW l t = l.tail ∧ dnE l t = 0 ∧ dnL l t = [] ∧ dnO l o t = true :=
  ⟨if_pos h, (if_neg (by have := h.1; omega)).trans (if_pos h), if_pos h, if_pos h⟩
theorem RowZ.set {w : World} {a : Option Addr} {l : List Int} (h : RowZ w a l) {R j : Nat} (hR : ∀ o, a = some o → o.block ≠ R) (v : Value) : RowZ (w.setCell ⟨R, j, none⟩ v) a l := fun hn => by
  obtain ⟨g, off, h1, h2, h3⟩ := h hn
  have hg : g ≠ R := hR _ h1
  exact ⟨g, off, h1, by simpa using h2, fun k hk => (World.cell?_of_block (Below.heap_setCell _ _ _ _ (fun e => hg e))).trans (h3 k hk)⟩

set_option maxHeartbeats 2000000 in
theorem refDn_any (R base : Nat) (u : Value) (l : List Int) (o : Bool) (hl : l.length ≤ 1000) (t : Int) (w : World) (hR : AtR w R base u l o) :
    Calls Try.prog 11 #[.pointer (some ⟨R, 0, none⟩), .int .i64 t] w fun e w' => (∃ a c, e = .returned (.tuple #[.slice a (dnW l t).length c, .int .i64 (dnE l t)]) ∧ RowZ w' a (dnW l t)) ∧ NowR R base u (dnL l t) (dnO l o t) w w' := by
  by_cases h1 : t < 1
  · have hh : ¬ has l t := fun h => by have := h.1; omega
    obtain ⟨e1, e2, e3⟩ := dn_no (o := o) hh
    rw [e1, e2, e3, show dnE l t = 1 from if_pos h1]
    have HR := hide hR
    clear hR hh e1 e2 e3
    go_enter Try.func11, Try.ntmps11
    go_wp2
    go_ret2
    exact ⟨⟨none, 0, rfl, fun h => absurd rfl h⟩, NowR.same HR.out (Below.refl _ _)⟩
  · have A := at_any R base u l o hl t w hR
    by_cases hh : has l t
    · obtain ⟨e1, e2, e3, e4⟩ := dn_yes (o := o) hh
      rw [e1, e2, e3, e4]
      rw [idx_has hh] at A
      have HA := hide A
      have hn := hh.2.1
      clear e1 e2 e3 e4 A hh
      have hp := List.length_pos_iff.2 hn
      obtain ⟨g, ac, rfl, _, hgl, hcell, hc⟩ := row_open hR.row hp
      have hgR : g ≠ R := fun e => hR.far (by show some g = some R; rw [e])
      have hmx := (row_cap hR.row).2
      unfold maxLen at hmx
      obtain ⟨c0, co, cf⟩ := hR.cells
      have cf0 := cf 0
      have cf1 := cf 1
      have HR := hide hR
      have hRl := hR.lt
      have HT : Hid (l.tail.length = l.length - 1) := List.length_tail
      have i1 : (1 : Int) ≤ (l.length : Int) := by omega
      have i2 : (l.length : Int) ≤ (ac : Int) := by omega
      have i3 : (ac : Int) ≤ 9223372036854775807 := by omega
      have HN : Hid (NowR R base (.slice (some ⟨g, 0, none⟩) l.length ac) [] true w ((w.setCell ⟨R, 0, none⟩ (.slice none 0 0)).setCell ⟨R, 1, none⟩ (.bool true))) := by
        refine ⟨.slice none 0 0, ⟨?_, World.ownsRow_nil _ _ _ _⟩, ((Mov.refl _ _).set (p := ⟨R, 0, none⟩) (Or.inl rfl) _).set (p := ⟨R, 1, none⟩) (Or.inl rfl) _, fun k hk => by simp [Value.ownBlock] at hk⟩
        exact Lib.heap_setCell_same (Lib.heap_setCell_same hR.box _) _
      have HZ : Hid (∀ off, (off = 1 ∨ l.tail = []) → RowZ ((w.setCell ⟨R, 0, none⟩ (.slice none 0 0)).setCell ⟨R, 1, none⟩ (.bool true)) (some ⟨g, off, none⟩) l.tail) := hide fun off ho => by
        rcases ho with rfl | ho
        · refine RowZ.set (RowZ.set ?_ (by rintro _ ⟨⟩; exact hgR) _) (by rintro _ ⟨⟩; exact hgR) _
          exact fun _ => ⟨g, 1, rfl, hgl, fun k hk => by
            rw [List.length_tail] at hk
            rw [gz_tail, Nat.add_comm]
            exact (hcell (k + 1) (by omega)).1⟩
        · exact fun h => absurd ho h
      clear hcell hR cf hn hmx
      generalize hL : l.length = L at *
      have HL := hide hL
      clear hL
      by_cases hac : ac = 1
      · subst hac
        obtain rfl : L = 1 := by omega
        go_enter Try.func11, Try.ntmps11
        go_wp2_with fail
        refine HA.out.mono ?_
        rintro e w2 ⟨rfl, hw2⟩
        subst hw2
        clear HA
        go_wp2
        go_ret2
        refine ⟨⟨some ⟨g, 0, none⟩, 0, ?_, HZ.out _ (Or.inr (List.length_eq_zero_iff.1 HT.out))⟩, HN.out⟩
        rw [HT.out]
        rfl
      · go_enter Try.func11, Try.ntmps11
        go_wp2_with fail
        refine HA.out.mono ?_
        rintro e w2 ⟨rfl, hw2⟩
        subst hw2
        clear HA
        go_wp2
        go_ret2
        refine ⟨⟨some ⟨g, 1, none⟩, ac - 1, ?_, HZ.out _ (Or.inl rfl)⟩, HN.out⟩
        rw [HT.out]
        rfl
    · have e0 : dnE l t = 11 := by unfold dnE; rw [if_neg h1, if_neg hh]
      obtain ⟨e1, e2, e3⟩ := dn_no (o := o) hh
      rw [e0, e1, e2, e3]
      have hx := idx_not hh h1
      have HA := hide A
      have HR := hide hR
      clear hR A hh e0 e1 e2 e3
      generalize idxZ l t = X at *
      go_enter Try.func11, Try.ntmps11
      go_wp2_with fail
      refine HA.out.mono ?_
      rintro e w2 ⟨rfl, hw2⟩
      subst hw2
      go_wp2
      go_ret2
      exact ⟨⟨none, 0, rfl, fun h => absurd rfl h⟩, NowR.same HR.out (Below.refl _ _)⟩

end Go.Proofs.Ytinipmandmhgnaa
