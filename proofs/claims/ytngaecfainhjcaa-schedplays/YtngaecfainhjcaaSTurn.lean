/-
  What the program's calls that turn the tasks come to: Spawn, Block, Ready, Yield, Exit, New.
-/
import Derived.Test.YtngaecfainhjcaaSFun
namespace Go.Proofs.Ytngaecfainhjcaa
open Go.RowKit A

/-- The row behind an append of one that is put back into the box. -/
theorem app_row {w w3 : World} {S B P base X : Nat} {v v' : Value} {s : Sc} {o : Obj} (h : AtS w S B P base v s) (hown : w3.ownsRow base 3 1 v' (s.run.length + 1) (cI s.run ++ [.int .i64 (X : Int)])) (hg : (w.alloc o).grownBy w3 v.ownBlock) (hat : v'.ownBlock = v.ownBlock ∨ v'.ownBlock = some (w.alloc o).heap.size) :
    NowS S B P base v ⟨s.a, s.run ++ [X]⟩ w (w3.setCell ⟨S, 1, none⟩ v') := by
  have hA : Below w.heap.size w (w.alloc o) := (Below.refl _ _).alloc (Nat.le_refl _) _
  have h1 := h.below hA
  have hne := h1.ne
  have hz := hg.size
  have box3 : w3.heap[S]? = some (.cells #[.pointer (some ⟨B, 0, none⟩), v] 49 (0, 0)) := (hg.block _ h1.ltS (fun e => h1.far.1 e.symm)).trans h1.box
  have a3 : AtA w3 B P s.a := h1.a.grown h1.r (by decide) (by decide) hg
  have ho : w3.ownsRow base 3 1 v' (s.run ++ [X]).length (cI (s.run ++ [X])) := by rw [cI_snoc, List.length_append]; exact hown
  have m3 : Mov (MineS S B P v) w w3 := ⟨hg.os.trans hA.os, hg.tape.trans hA.tape, hg.output.trans hA.output, Nat.le_trans hA.size hz, fun k hk hS =>
    (hg.block k (Nat.lt_of_lt_of_le hk hA.size) (fun e => hS (Or.inr (Or.inr (Or.inr e.symm))))).trans (hA.block k hk)⟩
  refine ⟨v', ⟨Lib.heap_setCell_same box3 v', a3.same (Below.heap_setCell _ _ _ _ (Ne.symm hne.1)) (Below.heap_setCell _ _ _ _ (Ne.symm hne.2)), owns_far ho fun k hk => Below.heap_setCell _ _ _ _ (fun e => row_box ho box3 (by decide) (by rw [hk, e]))⟩, m3.set (p := ⟨S, 1, none⟩) (Or.inl rfl) v', fun k hk => ?_⟩
  rcases hat with q | q
  · exact Or.inr (by rw [← q]; exact hk)
  · rw [q] at hk
    have := Option.some.inj hk
    have := hA.size
    exact Or.inl (by omega)

theorem spawn_no (s : Sc) (h : takeB s.a = false) : spawnOf s = s := by unfold spawnOf; rw [h]; rfl
theorem take_no (s : Ar) (h : takeB s = false) : takeH s = 0 ∧ takeOf s = s := by
  unfold takeB at h
  split at h
  · rename_i e; exact ⟨if_pos e, if_pos e⟩
  · cases h

set_option maxHeartbeats 1000000 in
theorem spawn_any (S B P base K : Nat) (v : Value) (s : Sc) (hl : s.run.length ≤ 1000) (hK : K ≤ 1000000) (hf : Fit K s.a) (w : World) (hS : AtS w S B P base v s) (hbs : base ≤ w.heap.size) :
    Calls Try.prog 12 #[.pointer (some ⟨S, 0, none⟩)] w fun e w' => e = .returned (.tuple #[.int .i64 (takeH s.a), .bool (takeB s.a)]) ∧ NowS S B P base v (spawnOf s) w w' := by
  obtain ⟨i3, hi, hz0, hz1, hz2⟩ := info_parts info3
  have T := take_any B P K s.a hK w hf hS.a
  obtain ⟨c0, _, _⟩ := hS.cells
  have HS := hide hS
  clear hS
  cases hb : takeB s.a
  · obtain ⟨e1, e2⟩ := take_no s.a hb
    rw [hb, e1, e2] at T
    rw [spawn_no s hb, e1]
    have HT := hide T
    clear T hb e1 e2
    go_enter Try.func12, Try.ntmps12
    go_wp2_with fail
    refine HT.out.mono ?_
    rintro e w2 ⟨rfl, hN⟩
    have hN := hide hN
    go_wp2
    go_ret2
    exact ⟨rfl, v, HS.out.turn hN.out.1 hN.out.2, mov_turn hN.out.2, fun _ hk => Or.inr hk⟩
  · have e3 : spawnOf s = ⟨takeOf s.a, s.run ++ [(takeH s.a).toNat]⟩ := by unfold spawnOf; rw [hb]; rfl
    rw [e3]
    rw [hb] at T
    obtain ⟨X, hX⟩ : ∃ X : Nat, X = (takeH s.a).toNat := ⟨_, rfl⟩
    have hX' : takeH s.a = (X : Int) := by rw [hX]; exact takeH_nat s.a
    rw [← hX, hX']
    rw [hX'] at T
    have HT := hide T
    clear T hb e3 hX hX'
    go_enter Try.func12, Try.ntmps12
    go_wp2_with fail
    refine HT.out.mono ?_
    rintro e w2 ⟨rfl, hN⟩
    have HS2 := hide (HS.out.turn hN.1 hN.2)
    have HM := hide (mov_turn (v := v) (S := S) hN.2)
    obtain ⟨_, c1, cf⟩ := HS2.out.cells
    have cf1 := cf 1
    obtain ⟨av, ac, hv⟩ := owns_slice HS2.out.r
    have hv' := hv
    subst hv'
    have hSl := HS2.out.ltS
    have hbs2 : base ≤ w2.heap.size := Nat.le_trans hbs hN.2.size
    have hR := HS2.out.r
    clear hN cf c0 hv
    go_wp2_with (at_builtin; refine wpList_append_own_at _ rfl _ _ 30 rfl base 3 i3 (.int .i64 0) 1 8 Try.underlying30 hi hz0 hz1 hz2 rfl (by decide) _ _ _ rfl (hR.alloc _) ⟨w2.heap.size, 0, none⟩ 1 1 [.int .i64 (X : Int)] rfl rfl (newsI (by simp [go_sem])) (onesI _) (by unfold maxLen; omega) (by omega) (by simp; omega) ?_)
    intro v' w3 hown hgrow _ hat
    obtain ⟨av', ac', rfl⟩ := owns_slice hown
    have HA := hide (app_row HS2.out hown hgrow (by simpa using hat))
    have hfr : w3.frozen? ⟨S, 1, none⟩ = false := by
      have hA : Below w2.heap.size w2 (w2.alloc (.cells #[.int .i64 (X : Int)] 3)) := (Below.refl _ _).alloc (Nat.le_refl _) _
      have h1 := HS2.out.below hA
      exact Lib.frozen_of_heap ((hgrow.block _ h1.ltS (fun e => h1.far.1 e.symm)).trans h1.box) 1
    have hce : w3.cell? ⟨S, 1, none⟩ = some (.slice av s.run.length ac) := by
      have hA : Below w2.heap.size w2 (w2.alloc (.cells #[.int .i64 (X : Int)] 3)) := (Below.refl _ _).alloc (Nat.le_refl _) _
      have h1 := HS2.out.below hA
      exact Lib.cell_of_heap ((hgrow.block _ h1.ltS (fun e => h1.far.1 e.symm)).trans h1.box) 1
    clear hown hgrow hat hR c1 cf1
    go_wp2
    go_ret2
    obtain ⟨v2, k1, k2, k3⟩ := HA.out
    have hz := HM.out.size
    exact ⟨rfl, v2, k1, HM.out.thn k2 (fun i hi => Or.inr hi), fun j hj => by rcases k3 j hj with q | q; exact Or.inl (by omega); exact Or.inr q⟩

end Go.Proofs.Ytngaecfainhjcaa
