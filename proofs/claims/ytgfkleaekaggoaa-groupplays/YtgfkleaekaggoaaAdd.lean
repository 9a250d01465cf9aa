/-
  What the program's Add comes to.
-/
import Derived.Test.YtgfkleaekaggoaaFun
namespace Go.Proofs.Ytgfkleaekaggoaa
open Go.RowKit

/-- What there is behind it: r is told, and is not the program's any more. -/
def AddM (M base : Nat) (v : Value) (c : Int) (l : List Int) (n : Int) (r : Value) (w w' : World) : Prop :=
  w'.ownsRow base 3 1 r (addW c n l).length (cZ (addW c n l)) ∧ (∀ k, r.ownBlock = some k → v.ownBlock = some k) ∧
  ∃ v', AtM w' M base v' (addC c n) (addL c n l) ∧ Mov (fun k => k = M) w w' ∧ (∀ k, v'.ownBlock = some k → v.ownBlock = some k ∧ r.ownBlock ≠ some k)
theorem AddM.no {M base : Nat} {v : Value} {c : Int} {l : List Int} {n : Int} {w : World} (h : AtM w M base v c l) (e1 : addW c n l = []) (e2 : addC c n = c) (e3 : addL c n l = l) : AddM M base v c l n (.slice none 0 0) w w := by
  unfold AddM
  rw [e1, e2, e3]
  exact ⟨World.ownsRow_nil _ _ _ _, fun k hk => by simp [Value.ownBlock] at hk, v, h, Mov.refl _ _, fun k hk => ⟨hk, by simp [Value.ownBlock]⟩⟩
theorem AddM.some {M base : Nat} {v : Value} {c : Int} {l : List Int} {n : Int} {w : World} (h : AtM w M base v c l) (e1 : addW c n l = []) (e2 : addC c n = c + n) (e3 : addL c n l = l) : AddM M base v c l n (.slice none 0 0) w (w.setCell ⟨M, 0, none⟩ (.int .i64 (c + n))) := by
  unfold AddM
  rw [e1, e2, e3]
  exact ⟨World.ownsRow_nil _ _ _ _, fun k hk => by simp [Value.ownBlock] at hk, v, h.setCount _, (Mov.refl (fun k => k = M) w).set (p := ⟨M, 0, none⟩) rfl _, fun k hk => ⟨hk, by simp [Value.ownBlock]⟩⟩
theorem AddM.zero {M base : Nat} {v : Value} {c : Int} {l : List Int} {n : Int} {w : World} (h : AtM w M base v c l) (e1 : addW c n l = l) (e2 : addC c n = 0) (e3 : addL c n l = []) :
    AddM M base v c l n v w ((w.setCell ⟨M, 0, none⟩ (.int .i64 0)).setCell ⟨M, 1, none⟩ (.slice none 0 0)) := by
  unfold AddM
  rw [e1, e2, e3]
  have hm : Mov (fun k => k = M) w ((w.setCell ⟨M, 0, none⟩ (.int .i64 0)).setCell ⟨M, 1, none⟩ (.slice none 0 0)) := ((Mov.refl (fun k => k = M) w).set (p := ⟨M, 0, none⟩) rfl _).set (p := ⟨M, 1, none⟩) rfl _
  have ha : AtM ((w.setCell ⟨M, 0, none⟩ (.int .i64 0)).setCell ⟨M, 1, none⟩ (.slice none 0 0)) M base (.slice none 0 0) 0 [] := (h.setCount 0).setRow (World.ownsRow_nil _ _ _ _)
  have hf := h.far
  exact ⟨owns_far h.row fun k hk => hm.block k (h.row.lt k hk).2 (fun e => hf (by rw [hk, e])), fun _ hk => hk, _, ha, hm, fun k hk => by simp [Value.ownBlock] at hk⟩

set_option maxHeartbeats 1000000 in
theorem add_any (M base : Nat) (v : Value) (c : Int) (l : List Int) (hc : 0 ≤ c ∧ c ≤ 1048576) (n : Int) (w : World) (hM : AtM w M base v c l) :
    Calls Try.prog 13 #[.pointer (some ⟨M, 0, none⟩), .int .i64 n] w fun e w' => ∃ r, e = .returned (.tuple #[r, .int .i64 (addE c n)]) ∧ AddM M base v c l n r w w' := by
  obtain ⟨c0, c1, cf⟩ := hM.cells
  have cf0 := cf 0
  have cf1 := cf 1
  have hMl := hM.lt
  have HM := hide hM
  clear hM cf
  have w1 : IntKind.i64.wrap (-c) = -c := wrapB (by omega)
  have w2 : IntKind.i64.wrap (1048576 - c) = 1048576 - c := wrapB (by omega)
  by_cases q1 : c + n < 0
  · obtain ⟨e1, e2, e3, e4, _⟩ := add_low (l := l) q1
    rw [e1]
    have q : n < -c := by omega
    have HE := hide (AddM.no HM.out e3 e2 e4)
    clear e1 e2 e3 e4 HM
    go_enter Try.func13, Try.ntmps13
    go_wp2
    go_ret2
    exact ⟨_, rfl, HE.out⟩
  by_cases q2 : 1048576 < c + n
  · obtain ⟨e1, e2, e3, e4, _⟩ := add_over (l := l) q2
    rw [e1]
    have HE := hide (AddM.no HM.out e3 e2 e4)
    clear e1 e2 e3 e4 HM
    go_enter Try.func13, Try.ntmps13
    go_wp2
    go_ret2
    exact ⟨_, rfl, HE.out⟩
  obtain ⟨e1, e2, _⟩ := add_fit (c := c) (n := n) (by omega) (by omega)
  rw [e1]
  by_cases q3 : c + n = 0
  · obtain ⟨e3, e4⟩ := add_zero (l := l) q3
    have HE := hide (AddM.zero HM.out e3 (e2.trans q3) e4)
    have w3 : IntKind.i64.wrap (c + n) = 0 := by rw [q3]; rfl
    obtain ⟨av, ac, hv⟩ := owns_slice HM.out.row
    subst hv
    clear e1 e2 e3 e4 HM
    generalize l.length = L at *
    go_enter Try.func13, Try.ntmps13
    go_wp2
    go_ret2
    exact ⟨_, rfl, HE.out⟩
  · obtain ⟨e3, e4⟩ := add_some (l := l) q3
    have HE := hide (AddM.some HM.out e3 e2 e4)
    have w3 : IntKind.i64.wrap (c + n) = c + n := wrapB (by omega)
    clear e1 e2 e3 e4 HM
    go_enter Try.func13, Try.ntmps13
    go_wp2
    go_ret2
    exact ⟨_, rfl, HE.out⟩

end Go.Proofs.Ytgfkleaekaggoaa
