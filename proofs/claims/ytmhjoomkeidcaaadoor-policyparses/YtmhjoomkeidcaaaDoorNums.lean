/-
  What policy.readNumbers comes to: as many numbers as there are places go there, in order, or one of the words is none.
-/
import Derived.Test.YtmhjoomkeidcaaaDoorNum2
namespace Go.Proofs.YtmhjoomkeidcaaaDoor
open Go.RowKit

/-- The numbers of the first words; none, if one of them is none. -/
def numsOf (ws : List ByteArray) : Nat → Option (List Nat)
  | 0 => some []
  | m + 1 => match numsOf ws m with
    | none => none
    | some l => match numOf (ws.getD m ⟨#[]⟩) with
      | some n => some (l ++ [n])
      | none => none
theorem numsOf_none {ws : List ByteArray} : ∀ {m k : Nat}, numsOf ws k = none → k ≤ m → numsOf ws m = none
  | 0, 0, h, _ => h
  | 0, k + 1, _, h => by omega
  | m + 1, k, h, hk => by
    by_cases e : k = m + 1
    · subst e; exact h
    · rw [numsOf, numsOf_none (m := m) h (by omega)]
theorem numsOf_length {ws : List ByteArray} : ∀ {m : Nat} {l : List Nat}, numsOf ws m = some l → l.length = m
  | 0, l, h => by simp only [numsOf] at h; injection h with h; subst h; rfl
  | m + 1, l, h => by
    rw [numsOf] at h
    split at h
    · cases h
    · rename_i l' hl'
      split at h
      · injection h with h; subst h; rw [List.length_append, numsOf_length hl']; rfl
      · cases h
theorem numsOf_bad {ws : List ByteArray} {k : Nat} {l : List Nat} (h : numsOf ws k = some l) (hb : numOf (ws.getD k ⟨#[]⟩) = none) : numsOf ws (k + 1) = none := by
  simp only [numsOf, h, hb]
theorem numsOf_next {ws : List ByteArray} {k n : Nat} {l : List Nat} (h : numsOf ws k = some l) (hb : numOf (ws.getD k ⟨#[]⟩) = some n) : numsOf ws (k + 1) = some (l ++ [n]) := by
  simp only [numsOf, h, hb]

/-- Numbers laid into cells, from a place on. -/
def putN (cs : Array Value) (o : Nat) : List Nat → Array Value
  | [] => cs
  | n :: l => putN (cs.setIfInBounds o (.int .i64 (n : Int))) (o + 1) l
theorem putN_snoc : ∀ (l : List Nat) (cs : Array Value) (o n : Nat), putN cs o (l ++ [n]) = (putN cs o l).setIfInBounds (o + l.length) (.int .i64 (n : Int))
  | [], cs, o, n => rfl
  | x :: l, cs, o, n => by
    rw [List.cons_append, putN, putN_snoc l, putN, List.length_cons, show o + 1 + l.length = o + (l.length + 1) by omega]
theorem putN_size : ∀ (l : List Nat) (cs : Array Value) (o : Nat), (putN cs o l).size = cs.size
  | [], cs, o => rfl
  | x :: l, cs, o => by rw [putN, putN_size l, Array.size_setIfInBounds]

theorem grown_trans {a b c : World} {r : Option Nat} (h : a.grownBy b r) (k : b.grownBy c r) : a.grownBy c r :=
  ⟨k.os.trans h.os, k.tape.trans h.tape, k.output.trans h.output, Nat.le_trans h.size k.size, fun i hi hr => (k.block i (Nat.lt_of_lt_of_le hi h.size) hr).trans (h.block i hi hr)⟩
theorem grown_below {a b : World} {r : Option Nat} (h : Below a.heap.size a b) : a.grownBy b r := ⟨h.os, h.tape, h.output, h.size, fun i hi _ => h.block i hi⟩
theorem grown_set (a : World) (g j : Nat) (u : Value) : a.grownBy (a.setCell ⟨g, j, none⟩ u) (some g) :=
  ⟨rfl, rfl, rfl, by simp [World.setCell], fun i _ hr => Below.heap_setCell _ _ _ _ (fun e => hr (by rw [e]))⟩
theorem grown_refl (a : World) (r : Option Nat) : a.grownBy a r := ⟨rfl, rfl, rfl, Nat.le_refl _, fun _ _ _ => rfl⟩
theorem grown_cell {a b : World} {g k o : Nat} (h : a.grownBy b (some g)) (hk : k < a.heap.size) (hg : k ≠ g) : b.cell? ⟨k, o, none⟩ = a.cell? ⟨k, o, none⟩ :=
  World.cell?_of_block (w := a) (h.block k hk (fun e => hg (by injection e)))

set_option maxHeartbeats 2000000 in
theorem numbers_any (wb wo n wcap m pb bd o : Nat) (ws : List ByteArray) (cs : Array Value) (T : TypeId) (w : World) (hws : ws.length = n) (hm : m ≤ n) (hn : n ≤ 5000)
    (hw : ∀ j x, ws[j]? = some x → w.cell? ⟨wb, wo + j, none⟩ = some (.string x)) (hwb : wb < w.heap.size) (hwd : wb ≠ bd)
    (hp : ∀ j, j < m → w.cell? ⟨pb, j, none⟩ = some (.pointer (some ⟨bd, o + j, none⟩))) (hpb : pb < w.heap.size) (hpd : pb ≠ bd)
    (hb : w.heap[bd]? = some (.cells cs T (0, 0))) (hcs : o + m ≤ cs.size) :
    Calls Tryd.prog 79 #[.slice (some ⟨wb, wo, none⟩) n wcap, .slice (some ⟨pb, 0, none⟩) m m] w fun e w' =>
      e = .returned (.bool (numsOf ws m).isSome) ∧ w.grownBy w' (some bd) ∧ ∀ l, numsOf ws m = some l → w'.heap[bd]? = some (.cells (putN cs o l) T (0, 0)) := by
  have HW : Hid (∀ j x, ws[j]? = some x → w.cell? ⟨wb, wo + j, none⟩ = some (.string x)) := hw
  have HP : Hid (∀ j, j < m → w.cell? ⟨pb, j, none⟩ = some (.pointer (some ⟨bd, o + j, none⟩))) := hp
  have HB : Hid (w.heap[bd]? = some (.cells cs T (0, 0))) := hb
  clear hw hp hb
  go_enter Tryd.func79, Tryd.ntmps79
  go_wp2
  go_loopw [5, 6, 7, 8, 11] (fun _ _ _ _ i wr => ∃ (k : Nat) (l : List Nat), k ≤ m ∧ i = .int .i64 k ∧ numsOf ws k = some l ∧ wr.heap[bd]? = some (.cells (putN cs o l) T (0, 0)) ∧ w.grownBy wr (some bd)) (fun _ _ _ _ i _ => m - (intOf i).toNat)
  case atStart => exact ⟨0, [], Nat.zero_le _, rfl, rfl, HB.out, grown_refl _ _⟩
  case round =>
    obtain ⟨k, l, hk, rfl, hnl, hbk, hgr⟩ := hrel
    by_cases hlt : k < m
    · have hx : ws[k]? = some (ws.getD k ⟨#[]⟩) := by simp [show k < ws.length by omega]
      have q0 : wr.cell? ⟨wb, wo + k, none⟩ = some (.string (ws.getD k ⟨#[]⟩)) := by rw [grown_cell hgr hwb hwd]; exact HW.out _ _ hx
      have q1 : wr.cell? ⟨pb, k, none⟩ = some (.pointer (some ⟨bd, o + k, none⟩)) := by rw [grown_cell hgr hpb hpd]; exact HP.out _ hlt
      have hll := numsOf_length hnl
      have HBD : Hid (numOf (ws.getD k ⟨#[]⟩) = none → numsOf ws m = none) := fun h => numsOf_none (numsOf_bad hnl h) (by omega)
      have HNX : Hid (∀ x, numOf (ws.getD k ⟨#[]⟩) = some x → numsOf ws (k + 1) = some (l ++ [x])) := fun x h => numsOf_next hnl h
      have hbl : bd < wr.heap.size := (Array.getElem?_eq_some_iff.1 hbk).1
      have HBK : Hid (wr.heap[bd]? = some (.cells (putN cs o l) T (0, 0))) := hbk
      clear hx hnl hbk
      generalize ws.getD k ⟨#[]⟩ = x at *
      have hN := fun W => number_any x W
      cases hnx : numOf x with
      | none =>
        rw [hnx] at hN
        have HE : Hid (numsOf ws m = none) := HBD.out hnx
        simp only [numV] at hN
        go_wp2_with fail
        refine (hN _).mono ?_
        rintro e w1 ⟨rfl, hb1⟩
        go_wp2
        go_ret
        exact ⟨by rw [HE.out]; rfl, grown_trans hgr (grown_below hb1), fun l' h => by rw [HE.out] at h; cases h⟩
      | some z =>
        rw [hnx] at hN
        have HE : Hid (numsOf ws (k + 1) = some (l ++ [z])) := HNX.out z hnx
        simp only [numV] at hN
        go_wp2_with fail
        refine (hN _).mono ?_
        rintro e w1 ⟨rfl, hb1⟩
        have hh1 : w1.heap[bd]? = some (.cells (putN cs o l) T (0, 0)) := (hb1.block bd hbl).trans HBK.out
        have c0 : ∃ u, w1.cell? ⟨bd, o + k, none⟩ = some u := by
          rw [Lib.cell_of_heap hh1]
          exact ⟨_, Array.getElem?_eq_getElem (by rw [putN_size]; omega)⟩
        obtain ⟨u, c0⟩ := c0
        have c1 : w1.frozen? ⟨bd, o + k, none⟩ = false := Lib.frozen_of_heap hh1 _
        have HH : Hid (w1.heap[bd]? = some (.cells (putN cs o l) T (0, 0))) := hh1
        clear hh1
        go_wp2_with fail
        go_roundw
        case rel =>
          refine ⟨k + 1, l ++ [z], by omega, by go_num, HE.out, ?_, grown_trans (grown_trans hgr (grown_below hb1)) (grown_set _ _ _ _)⟩
          rw [putN_snoc, hll]
          exact Lib.heap_setCell_same HH.out _
        case measure => simp [intOf]; omega
    · have e : k = m := by omega
      subst e
      have HE : Hid (numsOf ws k = some l) := hnl
      have HBK : Hid (wr.heap[bd]? = some (.cells (putN cs o l) T (0, 0))) := hbk
      clear hnl hbk
      go_wp2
      go_ret
      refine ⟨by rw [HE.out]; rfl, hgr, fun l' h => ?_⟩
      rw [HE.out] at h
      injection h with h
      subst h
      exact HBK.out

end Go.Proofs.YtmhjoomkeidcaaaDoor
