/-
  What package label's Below comes to, called with any list of at most 100 labels: the places of those that may flow to the label.
-/
import Derived.Test.YtkecnjahknjblaaOrder
namespace Go.Proofs.Ytkecnjahknjblaa
open Go.RowKit

theorem info3 : (Try.prog.info? 3).map (fun i => (i.zero, i.size, i.bytes)) = some (some (.int .i64 0), 1, 8) := by kernel_rfl

/-- Level and categories of the label at a place of a list. -/
def lv (ls : List (Int × Int)) (i : Nat) : Int := (ls.getD i (0, 0)).1
def ct (ls : List (Int × Int)) (i : Nat) : Int := (ls.getD i (0, 0)).2

/-- May the label at place i flow to the label of level tl and categories tc? -/
def flowsAt (ls : List (Int × Int)) (tl tc : Int) (i : Nat) : Bool := leqB (lv ls i) (ct ls i) tl tc

/-- Of the first k places those whose labels may flow there. -/
def pl (ls : List (Int × Int)) (tl tc : Int) (k : Nat) : List Nat := (List.range k).filter (flowsAt ls tl tc)
/-- Numbers as the machine holds them. -/
def cellsOf (l : List Nat) : List Value := l.map fun n : Nat => Value.int .i64 (n : Int)

theorem cellsOf_length (l : List Nat) : (cellsOf l).length = l.length := by simp [cellsOf]
theorem pl_le (ls : List (Int × Int)) (tl tc : Int) (k : Nat) : (pl ls tl tc k).length ≤ k := by
  have := List.length_filter_le (flowsAt ls tl tc) (List.range k)
  simpa [pl] using this
theorem pl_yes {ls : List (Int × Int)} {tl tc : Int} {k : Nat} (h : flowsAt ls tl tc k = true) : pl ls tl tc (k + 1) = pl ls tl tc k ++ [k] := by
  simp [pl, List.range_succ, List.filter_append, h]
theorem pl_no {ls : List (Int × Int)} {tl tc : Int} {k : Nat} (h : flowsAt ls tl tc k = false) : pl ls tl tc (k + 1) = pl ls tl tc k := by
  simp [pl, List.range_succ, List.filter_append, h]

/-- A list of labels as it lies in memory. -/
def LabRow (w : World) (ad : Option Addr) (ls : List (Int × Int)) : Prop :=
  ls = [] ∨ ∃ b off, ad = some ⟨b, off, none⟩ ∧ b < w.heap.size ∧ ∀ i, i < ls.length → w.cell? ⟨b, off + i * 2, none⟩ = some (.int .i64 (lv ls i)) ∧ w.cell? ⟨b, off + i * 2 + 1, none⟩ = some (.int .i64 (ct ls i))

theorem LabRow.below {w w' : World} {ad : Option Addr} {ls : List (Int × Int)} (h : LabRow w ad ls) (k : Below w.heap.size w w') : LabRow w' ad ls := by
  rcases h with h | ⟨b, off, h1, h2, h3⟩
  · exact Or.inl h
  · refine Or.inr ⟨b, off, h1, Nat.lt_of_lt_of_le h2 k.size, fun i hi => ?_⟩
    rw [k.cell (p := ⟨b, off + i * 2, none⟩) h2, k.cell (p := ⟨b, off + i * 2 + 1, none⟩) h2]
    exact h3 i hi

/-- What a call owns stays owned where nothing that was there has turned. -/
theorem owns_below {w w' : World} {base : Nat} {e : TypeId} {size : Nat} {v : Value} {n : Nat} {xs : List Value} (h : w.ownsRow base e size v n xs) (k : Below w.heap.size w w') : w'.ownsRow base e size v n xs := by
  obtain ⟨h1, h2⟩ := h
  refine ⟨h1, ?_⟩
  rcases h2 with h2 | ⟨g, cap, cur, hv, hg, hh, r⟩
  · exact Or.inl h2
  · refine Or.inr ⟨g, cap, cur, hv, hg, ?_, r⟩
    have hlt : g < w.heap.size := by
      rcases Nat.lt_or_ge g w.heap.size with h' | h'
      · exact h'
      · rw [Array.getElem?_eq_none h'] at hh; cases hh
    rw [k.block g hlt]; exact hh

theorem owns_mono {w : World} {base base' : Nat} {e : TypeId} {size : Nat} {v : Value} {n : Nat} {xs : List Value} (h : w.ownsRow base e size v n xs) (hb : base' ≤ base) : w.ownsRow base' e size v n xs := by
  obtain ⟨h1, h2⟩ := h
  refine ⟨h1, ?_⟩
  rcases h2 with h2 | ⟨g, cap, cur, hv, hg, r⟩
  · exact Or.inl h2
  · exact Or.inr ⟨g, cap, cur, hv, Nat.le_trans hb hg, r⟩

/-- A round that gathers nothing. -/
theorem rel_no {B k : Nat} {ls : List (Int × Int)} {tl tc : Int} {W wr w2 : World} {v : Value} {o : Obj} (hB : B ≤ wr.heap.size) (hq : flowsAt ls tl tc k = false)
    (hown : wr.ownsRow B 3 1 v (pl ls tl tc k).length (cellsOf (pl ls tl tc k))) (hnx : Below B W wr) (hb : Below (wr.alloc o).heap.size (wr.alloc o) w2) :
    w2.ownsRow B 3 1 v (pl ls tl tc (k + 1)).length (cellsOf (pl ls tl tc (k + 1))) ∧ Below B W w2 := by
  rw [pl_no hq]
  exact ⟨owns_below (hown.alloc o) hb, (hnx.alloc hB o).trans (hb.mono (by simp; omega))⟩

/-- A round that gathers its place. -/
theorem rel_yes {B k : Nat} {ls : List (Int × Int)} {tl tc : Int} {W w2 w3 : World} {v v' : Value} {o : Obj} (hB : B ≤ w2.heap.size) (hq : flowsAt ls tl tc k = true)
    (hown : w2.ownsRow B 3 1 v (pl ls tl tc k).length (cellsOf (pl ls tl tc k))) (hnx : Below B W w2)
    (hown' : w3.ownsRow B 3 1 v' ((pl ls tl tc k).length + 1) (cellsOf (pl ls tl tc k) ++ [.int .i64 k])) (hgrow : (w2.alloc o).grownBy w3 v.ownBlock) :
    w3.ownsRow B 3 1 v' (pl ls tl tc (k + 1)).length (cellsOf (pl ls tl tc (k + 1))) ∧ Below B W w3 := by
  rw [pl_yes hq]
  refine ⟨by simpa [cellsOf] using hown', (hnx.alloc hB o).grown hgrow (by simp; omega) (fun j hj => (hown.lt j hj).1)⟩

set_option maxHeartbeats 2000000 in
set_option maxRecDepth 100000 in
theorem below_any (ad : Option Addr) (len cap : Nat) (ls : List (Int × Int)) (tl tc : Int) (w : World) (hl : ls.length = len) (hlen : len ≤ 100) (hrow : LabRow w ad ls) :
    Calls Try.prog 16 #[.slice ad len cap, .agg #[.int .i64 tl, .int .i64 tc]] w fun e w' =>
      ∃ v, e = .returned v ∧ w'.ownsRow w.heap.size 3 1 v (pl ls tl tc len).length (cellsOf (pl ls tl tc len)) ∧ Below w.heap.size w w' := by
  obtain ⟨i0, hi, hz0, hz1, hz2⟩ := info_parts info3
  have HR : Hid (LabRow w ad ls) := hrow
  clear hrow
  go_enter Try.func16, Try.ntmps16
  go_wp2
  go_loopw [5, 10] (fun v i wr => ∃ k : Nat, k ≤ len ∧ i = .int .i64 k ∧ wr.ownsRow (w.heap.size + 1) 3 1 v (pl ls tl tc k).length (cellsOf (pl ls tl tc k)) ∧ Below (w.heap.size + 1) (w.alloc (.cells #[.int .i64 tl, .int .i64 tc] 23)) wr)
    (fun _ i _ => len - (intOf i).toNat)
  case atStart => exact ⟨0, Nat.zero_le _, rfl, World.ownsRow_nil _ _ _ _, Below.refl _ _⟩
  case round =>
    obtain ⟨k, hk, rfl, hown, hnx⟩ := hrel
    have hz := hnx.size
    simp at hz
    have t0 : wr.cell? ⟨w.heap.size, 0, none⟩ = some (.int .i64 tl) := by rw [hnx.cell (by simp)]; simp [go_sem]
    have t1 : wr.cell? ⟨w.heap.size, 1, none⟩ = some (.int .i64 tc) := by rw [hnx.cell (by simp)]; simp [go_sem]
    have hzz : w.heap.size < wr.heap.size := by omega
    by_cases hlt : k < len
    · obtain ⟨b, off, rfl, hb, hcs⟩ : ∃ b off, ad = some ⟨b, off, none⟩ ∧ b < w.heap.size ∧ ∀ i, i < ls.length → w.cell? ⟨b, off + i * 2, none⟩ = some (.int .i64 (lv ls i)) ∧ w.cell? ⟨b, off + i * 2 + 1, none⟩ = some (.int .i64 (ct ls i)) := by
        rcases HR.out with h | h
        · rw [h] at hl; simp at hl; omega
        · exact h
      have c0 : wr.cell? ⟨b, off + k * 2, none⟩ = some (.int .i64 (lv ls k)) := by
        rw [hnx.cell (by simp only; omega), World.cell?_alloc_past _ _ _ hb]; exact (hcs k (by omega)).1
      have c1 : wr.cell? ⟨b, off + k * 2 + 1, none⟩ = some (.int .i64 (ct ls k)) := by
        rw [hnx.cell (by simp only; omega), World.cell?_alloc_past _ _ _ hb]; exact (hcs k (by omega)).2
      clear hcs
      cases hq : flowsAt ls tl tc k
      · have hq' : leqB (lv ls k) (ct ls k) tl tc = false := hq
        go_wp2_with (go_at_call 7; refine (leq_any _ _ _ _ _).mono ?_; rintro e w2 ⟨rfl, hb2⟩)
        have R := rel_no (by omega) hq hown hnx hb2
        go_roundw
        case rel => exact ⟨k + 1, by omega, by go_num, R.1, R.2⟩
        case measure => simp [intOf]; omega
      · have hq' : leqB (lv ls k) (ct ls k) tl tc = true := hq
        have hp := pl_le ls tl tc k
        go_wp2_with (first
          | (go_at_call 7; refine (leq_any _ _ _ _ _).mono ?_; rintro e w2 ⟨rfl, hb2⟩; have hown2 := owns_below (hown.alloc _) hb2; have hnx2 := (hnx.alloc (by omega) _).trans (hb2.mono (by simp; omega)))
          | (at_builtin; refine wpList_append_own _ rfl _ _ 30 rfl (w.heap.size + 1) 3 i0 (.int .i64 0) 1 8 Try.underlying30 hi hz0 hz1 hz2 rfl (by decide) _ _ _ rfl (hown2.alloc _) ⟨w2.heap.size, 0, none⟩ 1 1 [.int .i64 (k : Int)] rfl rfl ?c1 ?c2 ?c3 ?c4 ?c5 ?_))
        case c1 =>
          intro j u hj
          match j, hj with
          | 0, hj => simp at hj; subst hj; simp [Addr.add]
        case c2 => intro u hu; simp at hu; subst hu; rfl
        case c3 => unfold maxLen; omega
        case c4 => omega
        case c5 => have := hnx2.size; simp at this ⊢; omega
        intro v' w3 hown' hgrow _
        have R := rel_yes (by have := hnx2.size; simp at this; omega) hq hown2 hnx2 hown' hgrow
        clear hown' hgrow hown hown2
        go_wp2
        go_roundw
        case rel => exact ⟨k + 1, by omega, by go_num, R.1, R.2⟩
        case measure => simp [intOf]; omega
    · go_wp2
      go_ret
      obtain rfl : k = len := by omega
      exact ⟨_, rfl, owns_mono hown (by omega), ((Below.refl _ _).alloc (Nat.le_refl _) _).trans (hnx.mono (by omega))⟩

end Go.Proofs.Ytkecnjahknjblaa
