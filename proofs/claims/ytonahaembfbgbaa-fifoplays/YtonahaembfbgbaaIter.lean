/-
  What fifo's iterator comes to: it hands out a queue's items, the first one first, whatever the loop's body does with its own variables.
-/
import Derived.RangeFuncNested
import Derived.RangeFuncBound
import Derived.RangeFuncCalls
import Derived.RangeFuncLeaves
import Derived.RangeFuncBox
import Derived.Shelf.Abstract
import Derived.Shelf.RegionOpen
import Derived.WalkKit
import Derived.OwnWalkIn
import Derived.TacticsInMore
import Derived.LoopNIn
import Derived.LoopIn
import Derived.Test.YtonahaembfbgbaaTurns
namespace Go.Proofs.Ytonahaembfbgbaa
open Go.RowKit Go.Shelf
attribute [local go_sem] Oper.semAt_some

/-- Cells of some blocks stay. -/
structure KeepS (S : Nat → Prop) (W W' : World) : Prop where
  size : W.heap.size ≤ W'.heap.size
  same : ∀ b o, S b → W.heap[b]? = some o → o.isCells = true → W'.heap[b]? = some o

theorem KeepS.refl (S : Nat → Prop) (W : World) : KeepS S W W := ⟨Nat.le_refl _, fun _ _ _ h _ => h⟩
theorem KeepS.trans {S : Nat → Prop} {A B C : World} (h : KeepS S A B) (k : KeepS S B C) : KeepS S A C :=
  ⟨Nat.le_trans h.size k.size, fun b o hb ho hc => k.same b o hb (h.same b o hb ho hc) hc⟩
theorem KeepS.drew {S : Nat → Prop} {A B : World} (h : KeepS S A B) : KeepS S A B.drew := ⟨h.size, h.same⟩
theorem KeepS.drawn {S : Nat → Prop} {A B : World} (h : Drawn A B) : KeepS S A B := ⟨h.1.size, fun b o _ ho _ => by rw [h.2]; exact ho⟩
theorem keepS_b {S : Nat → Prop} {w : World} (W : World) (l : Nat) (o o' : Obj) (_ : w.heap.size ≤ l) (h : W.heap[l]? = some o) (hc : o.isCells = false) (_ : o.isWalk = false) : KeepS S W (W.putObj l o') :=
  ⟨(grownBy_putObj' W l o').size, fun b o2 _ ho hc2 => (World.putObj_heap_other (fun e => by subst e; rw [h] at ho; cases ho; rw [hc] at hc2; cases hc2)).trans ho⟩
theorem KeepS.setCell {S : Nat → Prop} (W : World) (b : Nat) (v : Value) (h : ¬ S b) : KeepS S W (W.setCell ⟨b, 0, none⟩ v) :=
  ⟨(KeepsWalks.setCell W _ v).size, fun k o hk ho _ => (Below.heap_setCell _ _ _ k (fun e => by have : k = b := e; subst this; exact h hk)).trans ho⟩
theorem KeepS.heap {S : Nat → Prop} {W W' : World} (h : KeepS S W W') {b : Nat} {cs : Array Value} {t : TypeId} {x : Nat × Nat} (hb : S b) (hc : W.heap[b]? = some (.cells cs t x)) : W'.heap[b]? = some (.cells cs t x) := h.same b _ hb hc rfl
theorem HasP.keep {S : Nat → Prop} {W W' : World} {P n : Nat} {f : Nat → Plc} (h : HasP W P n f) (k : KeepS S W W') (hP : S P) : HasP W' P n f := by
  obtain ⟨cs, c1, c2, c3⟩ := h
  exact ⟨cs, k.heap hP c1, c2, c3⟩
theorem AtF.keep {S : Nat → Prop} {W W' : World} {B P n ni : Nat} {f : Nat → Plc} (h : AtF W B P n ni f) (k : KeepS S W W') (hB : S B) (hP : S P) : AtF W' B P n ni f := ⟨k.heap hB h.box, h.row.keep k hP⟩
theorem drawn_grown {W W' : World} (h : Drawn W W') : W.grownBy W' none := ⟨h.1.os, h.1.tape, h.1.output, h.1.size, fun k hk _ => h.1.block k hk⟩

theorem idx_nd : ∀ (l : List Nat) (e j : Nat), (e :: l).Nodup → j ≤ l.length → (l ++ [e]).idxOf (nd e l j) = j
  | [], e, j, _, h => by
    obtain rfl : j = 0 := by simpa using h
    simp [nd, List.getD]
  | a :: r, e, 0, _, _ => by simp [nd, List.getD]
  | a :: r, e, j + 1, hn, h => by
    have hn' : (e :: r).Nodup := by
      rw [List.nodup_cons, List.nodup_cons] at hn
      exact List.nodup_cons.2 ⟨fun hm => hn.1 (List.mem_cons_of_mem _ hm), hn.2.2⟩
    have hj : j ≤ r.length := by simpa using h
    have ih := idx_nd r e j hn' hj
    have e1 : nd e (a :: r) (j + 1) = nd e r j := by simp [nd, List.getD]
    have hm : nd e r j ∈ r ++ [e] := by
      by_cases hjl : j < r.length
      · exact List.mem_append_left _ (List.mem_of_getElem? (nd_lt hjl))
      · obtain rfl : j = r.length := by omega
        rw [nd_end]; simp
    have hne : a ≠ nd e r j := by
      intro e'
      rw [← e'] at hm
      rw [List.nodup_cons, List.nodup_cons] at hn
      rcases List.mem_append.1 hm with hm | hm
      · exact hn.2.1 hm
      · simp at hm; subst hm; exact hn.1 (by simp)
    rw [e1, List.cons_append, List.idxOf_cons, ih, show (a == nd e r j) = false by simpa using hne]
    rfl

theorem nd_ne {l : List Nat} {e j : Nat} (hn : (e :: l).Nodup) (h : j < l.length) : nd e l j ≠ e := fun e' => by
  have := List.mem_of_getElem? (nd_lt (e := e) h)
  rw [e'] at this
  exact (List.nodup_cons.1 hn).1 this
theorem nd_mem {l : List Nat} {e j : Nat} (h : j < l.length) : nd e l j ∈ l := List.mem_of_getElem? (nd_lt h)
theorem take_nd {l : List Nat} {e j : Nat} (h : j < l.length) : l.take (j + 1) = l.take j ++ [nd e l j] := by
  rw [List.take_add_one, nd_lt h]; rfl

theorem in_in (n : Nat) (p : Option Addr) (k : Int) (w : World) :
    CallsIn Fence.wide n Try.prog 25 #[.pointer p, .int .i64 k] w fun e w' => e = .returned (.func (.func 28) #[] #[.pointer (some ⟨w.heap.size, 0, none⟩), .pointer (some ⟨w.heap.size + 1, 0, none⟩)]) ∧ w' = (w.alloc (.cells #[.pointer p] 23)).alloc (.cells #[.int .i64 k] 3) := by
  refine callsIn_of_wp Try.func25 rfl trivial ?_ rfl
  simp only [Try.ntmps25, List.size_toArray, List.length_cons, List.length_nil, Nat.reduceAdd, Nat.reduceSub, Array.replicate_succ, Array.replicate_zero, List.push_toArray, List.append_toArray, List.nil_append, List.cons_append]
  gi_wp2
  go_ret
  exact ⟨rfl, rfl⟩

def enc (x : Nat) : Array Value := #[.int .i64 (x : Int)]

set_option maxRecDepth 100000 in
set_option maxHeartbeats 2000000 in
theorem iter_yes (n : Nat) (hn : 1 ≤ n) (l Bq Bk B P : Nat) (S : Nat → Prop) (s : Qs) (k : Nat) (f : Nat → Plc) (hs : Ok s) (hr : Rep s f) (hk : k < s.nq) (hSq : S Bq) (hSB : S B) (hSP : S P)
    (J Jx : List Nat → World → Prop) (B0 : Nat) (hJ : AbidesFrom B0 J)
    (hY : ∀ pre x W, J pre W → pre.length < (s.l k).length → YieldAt Fence.wide (n - 1) Try.prog l (enc x) W fun e W' =>
      (e = .returned (.bool true) ∧ J (pre ++ [x]) W' ∧ KeepS S W W') ∨ (e = .returned (.bool false) ∧ Jx (pre ++ [x]) W'))
    (W : World) (hq : W.heap[Bq]? = some (.cells #[.pointer (some ⟨B, 0, none⟩)] 23 (0, 0))) (hc : W.heap[Bk]? = some (.cells #[.int .i64 (k : Int)] 3 (0, 0))) (hA : AtF W B P (s.ni + s.nq) s.ni f) (h0 : J [] W) :
    CallsIn Fence.wide n Try.prog 28 #[.func (.yield l) #[] #[], .pointer (some ⟨Bq, 0, none⟩), .pointer (some ⟨Bk, 0, none⟩)] W fun e W' => (∃ v, e = .returned v) ∧
      ((∃ ys, ys = s.l k ∧ J ys W') ∨ (∃ p, (∃ j, j < (s.l k).length ∧ p = (s.l k).take (j + 1)) ∧ Jx p W')) := by
  have b1 := hs.nq
  have b2 := hs.ni
  have hnd := ring_nodup hs hk
  have hrg := hr.ring k hk
  have hQ := fun W h => hasQ_yes B P (s.ni + s.nq) s.ni f (k : Int) (by omega) (by omega) (by omega) W h
  have hE := fun W h => end_any B P (s.ni + s.nq) s.ni f k (by omega) (by omega) W h
  have hmem : ∀ j, j < (s.l k).length → nd (s.ni + k) (s.l k) j < s.ni + s.nq := fun j hj => by have := ((hs.mem k _ hk).1 (nd_mem (e := s.ni + k) hj)).1; omega
  obtain ⟨L, hL⟩ : ∃ L, L = s.l k := ⟨_, rfl⟩
  obtain ⟨e, he⟩ : ∃ e, e = s.ni + k := ⟨_, rfl⟩
  rw [← hL, ← he] at hnd hrg
  rw [← hL] at hY
  rw [← he] at hE
  rw [← he, ← hL] at hmem
  rw [← hL]
  have hen : e < s.ni + s.nq := by omega
  generalize s.ni + s.nq = N at *
  have HA : Hid (AtF W B P N s.ni f) := hA
  have HL : Hid (Links f (ringOf e L) ∧ (e :: L).Nodup ∧ ∀ j, j < L.length → nd e L j < N) := ⟨hrg, hnd, hmem⟩
  have HQ : Hid (W.heap[Bq]? = some (.cells #[.pointer (some ⟨B, 0, none⟩)] 23 (0, 0))) := hq
  have cq : W.cell? ⟨Bq, 0, none⟩ = some (.pointer (some ⟨B, 0, none⟩)) := Lib.cell_of_heap hq 0
  have ck : W.cell? ⟨Bk, 0, none⟩ = some (.int .i64 (k : Int)) := Lib.cell_of_heap hc 0
  clear hA hrg hnd hmem hq hc hL he hs hr hk
  refine callsIn_of_wp Try.func28 rfl trivial ?_ rfl
  simp only [Try.ntmps28, List.size_toArray, List.length_cons, List.length_nil, Nat.reduceAdd, Nat.reduceSub, Array.replicate_succ, Array.replicate_zero, List.push_toArray, List.append_toArray, List.nil_append, List.cons_append]
  gi_wp2_with (first
    | (refine ⟨trivial, ?_⟩; gi_at_call 26; refine (callsIn_wide.2 (hQ _ HA.out)).mono ?_; rintro e' w1 ⟨rfl, hD⟩; rw [← hD.cell] at cq ck; obtain ⟨c0, c1⟩ := (hD.at HA.out).cells; obtain ⟨x0, x1, x2⟩ := (hD.at HA.out).row.cells hen; rw [ring_first HL.out.1] at x2)
    | (refine ⟨trivial, ?_⟩; gi_at_call 23; refine (callsIn_wide.2 (hE _ (hD.at HA.out))).mono ?_; rintro e' w2 ⟨rfl, hw2⟩; subst hw2))
  clear c0 c1 x0 x1 x2 cq ck hQ hE
  gi_loopw [5] (fun i wr => ∃ j : Nat, j ≤ L.length ∧ i = .int .i64 ((nd e L j : Nat) : Int) ∧ J (L.take j) wr ∧ KeepS S W wr) (fun i _ => L.length - (L ++ [e]).idxOf (intOf i).toNat)
  case atStart => exact ⟨0, Nat.zero_le _, rfl, by simpa using hJ _ _ _ none h0 (drawn_grown hD) (by simp), KeepS.drawn hD⟩
  case round =>
    obtain ⟨j, hj, rfl, hJs, hnx⟩ := hrel
    by_cases hlt : j < L.length
    · have hxe := nd_ne HL.out.2.1 hlt
      have hxN := HL.out.2.2 j hlt
      have HT : Hid (L.take (j + 1) = L.take j ++ [nd e L j] ∧ (f (nd e L j)).b = nd e L (j + 1) ∧ (L ++ [e]).idxOf (nd e L j) = j ∧ (L ++ [e]).idxOf (nd e L (j + 1)) = j + 1) := ⟨take_nd hlt, ring_next HL.out.1 hlt, idx_nd L e j HL.out.2.1 hj, idx_nd L e (j + 1) HL.out.2.1 hlt⟩
      obtain ⟨fn, tmps, assign, body, hy, hR⟩ := hY (L.take j) (nd e L j) wr hJs (by simp; omega)
      generalize nd e L j = x at *
      obtain ⟨x', hx'⟩ : ∃ x', x' = nd e L (j + 1) := ⟨_, rfl⟩
      rw [← hx'] at HT
      have HX : Hid (x' = nd e L (j + 1)) := hx'
      clear hx'
      have hxe' : ((x : Int) != (e : Int)) = true := by simp; omega
      dsimp only [enc] at hy
      clear hJs
      gi_wp2
      refine hR.mono ?_
      rintro e' W3 (⟨rfl, hJ3, hk3⟩ | ⟨rfl, hJx3⟩)
      · have hK := hnx.trans hk3
        have cq : W3.cell? ⟨Bq, 0, none⟩ = some (.pointer (some ⟨B, 0, none⟩)) := Lib.cell_of_heap (hK.heap hSq HQ.out) 0
        obtain ⟨c0, c1⟩ := (HA.out.keep hK hSB hSP).cells
        obtain ⟨x0, x1, x2⟩ := (HA.out.keep hK hSB hSP).row.cells hxN
        rw [HT.out.2.1] at x2
        have HJ : Hid (J (L.take j ++ [x]) W3 ∧ KeepS S W W3) := ⟨hJ3, hK⟩
        clear hJ3 hk3 hK hnx hR
        gi_wp2
        go_roundw
        case rel => exact ⟨j + 1, hlt, by rw [HX.out], by rw [HT.out.1]; exact HJ.out.1, HJ.out.2⟩
        case measure =>
          have t1 := HT.out.2.2.1
          have t2 := HT.out.2.2.2
          simp [intOf, t1, t2]; omega
      · gi_wp2
        refine bodyPost_ret (results_none rfl _ _ _) rfl ?_
        exact ⟨⟨_, rfl⟩, .inr ⟨_, ⟨j, hlt, HT.out.1.symm⟩, hJx3⟩⟩
    · obtain rfl : j = L.length := by omega
      rw [nd_end]
      gi_wp2
      go_end0
      exact ⟨⟨_, rfl⟩, .inl ⟨_, rfl, by simpa using hJs⟩⟩

end Go.Proofs.Ytonahaembfbgbaa
