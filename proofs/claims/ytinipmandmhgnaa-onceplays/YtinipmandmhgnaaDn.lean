/-
  What the program's Done comes to.
-/
import Derived.Test.YtinipmandmhgnaaFun
import Derived.Test.YtinipmandmhgnaaRefDn
namespace Go.Proofs.Ytinipmandmhgnaa
open Go.RowKit

/-- What there is behind it: r is told, and is not the program's any more. -/
def DnM (M base : Nat) (v : Value) (l : List Int) (o : Bool) (t : Int) (r : Value) (w w' : World) : Prop :=
  w'.ownsRow base 3 1 r (dnW l t).length (cZ (dnW l t)) ∧ (∀ k, r.ownBlock = some k → v.ownBlock = some k) ∧
  ∃ v', AtM w' M base v' (dnL l t) (dnO l o t) ∧ Mov (fun k => k = M) w w' ∧ (∀ k, v'.ownBlock = some k → v.ownBlock = some k ∧ r.ownBlock ≠ some k)
theorem DnM.no {M base : Nat} {v : Value} {l : List Int} {o : Bool} {t : Int} {w : World} (h : AtM w M base v l o) (hh : ¬ has l t) : DnM M base v l o t (.slice none 0 0) w w := by
  obtain ⟨e1, e2, e3⟩ := dn_no (o := o) hh
  unfold DnM
  rw [e1, e2, e3]
  exact ⟨World.ownsRow_nil _ _ _ _, fun k hk => by simp [Value.ownBlock] at hk, v, h, Mov.refl _ _, fun k hk => ⟨hk, by simp [Value.ownBlock]⟩⟩
theorem DnM.yes {M base : Nat} {v : Value} {l : List Int} {o : Bool} {t : Int} {w : World} (h : AtM w M base v l o) (hh : has l t) (ob : Obj) :
    DnM M base v l o t v w ((((w.setCell ⟨M, 0, none⟩ (.int .i64 0)).setCell ⟨M, 1, none⟩ (.slice none 0 0)).setCell ⟨M, 2, none⟩ (.bool true)).alloc ob) := by
  obtain ⟨e1, _, e3, e4⟩ := dn_yes (o := o) hh
  unfold DnM
  rw [e1, e3, e4]
  have hm : Mov (fun k => k = M) w (((w.setCell ⟨M, 0, none⟩ (.int .i64 0)).setCell ⟨M, 1, none⟩ (.slice none 0 0)).setCell ⟨M, 2, none⟩ (.bool true)) :=
    (((Mov.refl (fun k => k = M) w).set (p := ⟨M, 0, none⟩) rfl _).set (p := ⟨M, 1, none⟩) rfl _).set (p := ⟨M, 2, none⟩) rfl _
  have ha : AtM (((w.setCell ⟨M, 0, none⟩ (.int .i64 0)).setCell ⟨M, 1, none⟩ (.slice none 0 0)).setCell ⟨M, 2, none⟩ (.bool true)) M base (.slice none 0 0) [] true :=
    ⟨Lib.heap_setCell_same (Lib.heap_setCell_same (Lib.heap_setCell_same h.box _) _) _, World.ownsRow_nil _ _ _ _⟩
  have hf := h.far
  refine ⟨owns_below (owns_far h.row fun k hk => hm.block k (h.row.lt k hk).2 (fun e => hf (by rw [hk, e]))) (below1 _ _), fun _ hk => hk, _, ha.below (below1 _ _), hm.thn (Mov.of_below (S := fun _ => False) (below1 _ _)) (fun _ h => h.elim), fun k hk => by simp [Value.ownBlock] at hk⟩

set_option maxHeartbeats 1000000 in
theorem dn_any (M base : Nat) (v : Value) (l : List Int) (o : Bool) (t : Int) (w : World) (hM : AtM w M base v l o) :
    Calls Try.prog 10 #[.pointer (some ⟨M, 0, none⟩), .int .i64 t] w fun e w' => ∃ r, e = .returned (.tuple #[r, .int .i64 (dnE l t)]) ∧ DnM M base v l o t r w w' := by
  obtain ⟨c0, c1, c2, cf⟩ := hM.cells
  have cf0 := cf 0
  have cf1 := cf 1
  have cf2 := cf 2
  have HM := hide hM
  clear hM cf
  by_cases h1 : t < 1
  · have hh : ¬ has l t := fun h => by have := h.1; omega
    have HH := hide hh
    rw [show dnE l t = 1 from if_pos h1]
    clear hh
    go_enter Try.func10, Try.ntmps10
    go_wp2
    go_ret2
    exact ⟨_, rfl, DnM.no HM.out HH.out⟩
  · by_cases hh : has l t
    · have hht : hold l = t := hh.2.2
      rw [(dn_yes (o := o) hh).2.1]
      have HH := hide hh
      rw [hht] at c0
      have hMl := HM.out.lt
      have tt : (t != t) = false := by simp
      obtain ⟨av, ac, hv⟩ := owns_slice HM.out.row
      subst hv
      have HF := hide HM.out.far
      clear hht hh
      generalize hd : l.tail.length = n at *
      have HD := hide hd
      clear hd
      go_enter Try.func10, Try.ntmps10
      go_wp2
      go_ret2
      refine ⟨_, rfl, ?_⟩
      exact DnM.yes HM.out HH.out _
    · have e0 : dnE l t = 11 := by unfold dnE; rw [if_neg h1, if_neg hh]
      rw [e0]
      have ht : ¬ t = hold l := by
        intro e
        apply hh
        refine ⟨by omega, ?_, e.symm⟩
        intro h
        subst h
        rw [hold_nil] at e
        omega
      have ht' : (t != hold l) = true := by simpa using ht
      have HH := hide hh
      clear hh e0 ht
      generalize hold l = H at c0 ht'
      go_enter Try.func10, Try.ntmps10
      go_wp2
      go_ret2
      exact ⟨_, rfl, DnM.no HM.out HH.out⟩

end Go.Proofs.Ytinipmandmhgnaa
