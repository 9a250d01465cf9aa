/-
  What the program's Ready comes to.
-/
import Derived.Test.YtngaecfainhjcaaSTurn2
namespace Go.Proofs.Ytngaecfainhjcaa
open Go.RowKit A

set_option maxHeartbeats 2000000 in
theorem ready_any (S B P base K : Nat) (v : Value) (s : Sc) (hl : s.run.length ≤ 1000) (hK : K ≤ 1000000) (hf : Fit K s.a) (t : Int) (ht : t ≤ 9223372036854775807) (w : World) (hS : AtS w S B P base v s) (hbs : base ≤ w.heap.size) :
    Calls Try.prog 20 #[.pointer (some ⟨S, 0, none⟩), .int .i64 t] w fun e w' => e = .returned (.bool (readyB s t)) ∧ NowS S B P base v (readyOf s t) w w' := by
  obtain ⟨i3, hi, hz0, hz1, hz2⟩ := info_parts info3
  have Pl := place_sany S B P base K v s t ht hK hf w hS
  have F := find_any S B P base v s hl t w hS
  obtain ⟨_, c1, cf⟩ := hS.cells
  have cf1 := cf 1
  have HS := hide hS
  clear hS cf
  have no : ∀ {b : Bool}, readyB s t = b → b = false → readyOf s t = s := fun h hb => by unfold readyOf; rw [h, hb]; rfl
  cases hp : isB s.a t
  · have e1 : readyB s t = false := by unfold readyB; rw [hp]; rfl
    rw [e1, no e1 rfl]
    rw [place_lt hp] at Pl
    have HP := hide Pl
    clear Pl F c1 cf1 hp e1 no
    go_enter Try.func20, Try.ntmps20
    go_wp2_with fail
    refine HP.out.mono ?_
    rintro e w2 ⟨rfl, hw2⟩
    subst hw2
    go_wp2
    go_ret
    exact ⟨rfl, NowS.same HS.out (Below.refl _ _)⟩
  · have h0 : 1 ≤ t := (isB_hits.1 hp).1
    rw [place_nat hp] at Pl
    have HP := hide Pl
    have hk0 : ¬ ((kOf t : Nat) : Int) < 0 := by omega
    generalize kOf t = kk at *
    cases hb : inB s.run t
    · have e1 : readyB s t = true := by unfold readyB; rw [hp, hb]; rfl
      have e2 : readyOf s t = ⟨s.a, s.run ++ [t.toNat]⟩ := by unfold readyOf; rw [e1]; rfl
      rw [e1, e2]
      rw [idxR_out hb] at F
      have HF := hide F
      obtain ⟨X, hX⟩ : ∃ X : Nat, X = t.toNat := ⟨_, rfl⟩
      have hX' : t = (X : Int) := by omega
      rw [← hX]
      subst hX'
      have HR := hide HS.out.r
      obtain ⟨av, ac, hv⟩ := owns_slice HS.out.r
      subst hv
      have hR := HS.out.r
      have hSl := HS.out.ltS
      clear Pl F hp hb e1 e2 no hX h0
      go_enter Try.func20, Try.ntmps20
      go_wp2_with fail
      refine HP.out.mono ?_
      rintro e w2 ⟨rfl, hw2⟩
      subst hw2
      go_wp2_with fail
      refine HF.out.mono ?_
      rintro e w3 ⟨rfl, hw3⟩
      subst hw3
      go_wp2_with (at_builtin; refine wpList_append_own_at _ rfl _ _ 30 rfl base 3 i3 (.int .i64 0) 1 8 Try.underlying30 hi hz0 hz1 hz2 rfl (by decide) _ _ _ rfl (hR.alloc _) ⟨w3.heap.size, 0, none⟩ 1 1 [.int .i64 (X : Int)] rfl rfl (newsI (by simp [go_sem])) (onesI _) (by unfold maxLen; omega) (by omega) (by simp; omega) ?_)
      intro v' w4 hown hgrow _ hat
      obtain ⟨av', ac', rfl⟩ := owns_slice hown
      have HA := hide (app_row HS.out hown hgrow (by simpa using hat))
      have hA : Below w3.heap.size w3 (w3.alloc (.cells #[.int .i64 (X : Int)] 3)) := (Below.refl _ _).alloc (Nat.le_refl _) _
      have h1 := HS.out.below hA
      have hfr : w4.frozen? ⟨S, 1, none⟩ = false := Lib.frozen_of_heap ((hgrow.block _ h1.ltS (fun e => h1.far.1 e.symm)).trans h1.box) 1
      have hce : w4.cell? ⟨S, 1, none⟩ = some (.slice av s.run.length ac) := Lib.cell_of_heap ((hgrow.block _ h1.ltS (fun e => h1.far.1 e.symm)).trans h1.box) 1
      clear hown hgrow hat hR c1 cf1 hA h1
      go_wp2
      go_ret
      refine ⟨rfl, ?_⟩
      exact HA.out
    · have e1 : readyB s t = false := by unfold readyB; rw [hp, hb]; rfl
      rw [e1, no e1 rfl]
      obtain ⟨k, _, h2, _⟩ := idxR_in hb
      rw [h2] at F
      have HF := hide F
      clear Pl F c1 cf1 hp hb e1 no h2 h0
      go_enter Try.func20, Try.ntmps20
      go_wp2_with fail
      refine HP.out.mono ?_
      rintro e w2 ⟨rfl, hw2⟩
      subst hw2
      go_wp2_with fail
      refine HF.out.mono ?_
      rintro e w3 ⟨rfl, hw3⟩
      subst hw3
      go_wp2
      go_ret
      refine ⟨rfl, ?_⟩
      exact NowS.same HS.out (Below.refl _ _)

end Go.Proofs.Ytngaecfainhjcaa
