/-
  What sign.guess and sign.Read come to: the label that is guessed of a text by its runes, and the label that is read.
-/
import Derived.Test.YtmhjoomkeidcaaaDoorL2Print
import Derived.Lib.BufferMore
namespace Go.Proofs.YtmhjoomkeidcaaaDoor.L2
open Go.RowKit

theorem i64_or_nat (a b : Nat) (ha : a < 65536) (hb : b < 65536) : bits .or .i64 (a : Int) (b : Int) = ((a ||| b : Nat) : Int) := by
  have hab : a ||| b < 2 ^ 16 := Nat.or_lt_two_pow (n := 16) ha hb
  have e : (BitVec.ofInt 64 (a : Int) ||| BitVec.ofInt 64 (b : Int)).toNat = a ||| b := by
    rw [BitVec.toNat_or, BitVec.toNat_ofInt, BitVec.toNat_ofInt]
    have e1 : ((a : Int) % ((2 ^ 64 : Nat) : Int)).toNat = a := by omega
    have e2 : ((b : Int) % ((2 ^ 64 : Nat) : Int)).toNat = b := by omega
    rw [e1, e2]
  show IntKind.i64.wrap ((BitVec.ofInt 64 (a : Int) ||| BitVec.ofInt 64 (b : Int)).toNat : Nat) = _
  rw [e, IntKind.wrap_i64]
  omega

theorem wrap_nat (k : Nat) (h : k < 65536) : wrap64 (k : Int) = k := by unfold wrap64; omega
theorem wrap_pow (n : Nat) (h : n < 16) : wrap64 ((2 : Int) ^ n) = ((2 ^ n : Nat) : Int) := by
  have h1 : 2 ^ n < 65536 := Nat.pow_lt_pow_right (a := 2) (m := n) (n := 16) (by omega) h
  rw [← wrap_nat _ h1]
  simp

/-- Where the guess stands: its answer's place, the label so far, the place in the text. -/
def GuessAt (s : ByteArray) (w : World) (pos : Nat) (lv acc : Int) (wr : World) : Prop :=
  wr.heap[w.heap.size]? = some (.cells #[.int .i64 0, .int .i64 0] 35 (0, 0)) ∧ wr.heap[w.heap.size + 1]? = some (.cells #[.int .i64 lv, .int .i64 acc] 35 (0, 0)) ∧ wr.heap[w.heap.size + 1 + 1]? = some (.stringIter s pos) ∧ Below w.heap.size w wr

theorem GuessAt.next {s : ByteArray} {w wr : World} {pos : Nat} {lv acc : Int} (h : GuessAt s w pos lv acc wr) (pos' : Nat) : GuessAt s w pos' lv acc (wr.iterAt (w.heap.size + 1 + 1) s pos') := by
  obtain ⟨h0, h1, h2, hb⟩ := h
  exact ⟨(Lib.iterAt_other _ _ _ _ _ (by omega)).trans h0, (Lib.iterAt_other _ _ _ _ _ (by omega)).trans h1, Lib.iterAt_heap _ _ _ _ _ h2, Lib.below_iterAt hb (by omega) _ _⟩

theorem GuessAt.set0 {s : ByteArray} {w wr : World} {pos : Nat} {lv acc : Int} (h : GuessAt s w pos lv acc wr) (v : Int) : GuessAt s w pos v acc (wr.setCell ⟨w.heap.size + 1, 0, none⟩ (.int .i64 v)) := by
  obtain ⟨h0, h1, h2, hb⟩ := h
  refine ⟨(Below.heap_setCell _ _ _ _ (by simp only; omega)).trans h0, ?_, (Below.heap_setCell _ _ _ _ (by simp only; omega)).trans h2, hb.setCell (by simp only; omega) _⟩
  rw [Lib.heap_setCell_same h1]
  rfl

theorem GuessAt.set1 {s : ByteArray} {w wr : World} {pos : Nat} {lv acc : Int} (h : GuessAt s w pos lv acc wr) (v : Int) : GuessAt s w pos lv v (wr.setCell ⟨w.heap.size + 1, 1, none⟩ (.int .i64 v)) := by
  obtain ⟨h0, h1, h2, hb⟩ := h
  refine ⟨(Below.heap_setCell _ _ _ _ (by simp only; omega)).trans h0, ?_, (Below.heap_setCell _ _ _ _ (by simp only; omega)).trans h2, hb.setCell (by simp only; omega) _⟩
  rw [Lib.heap_setCell_same h1]
  rfl

theorem GuessAt.drew {s : ByteArray} {w wr : World} {pos : Nat} {lv acc : Int} (h : GuessAt s w pos lv acc wr) : GuessAt s w pos lv acc wr.drew :=
  ⟨h.1, h.2.1, h.2.2.1, h.2.2.2.drew⟩

theorem GuessAt.cells {s : ByteArray} {w wr : World} {pos : Nat} {lv acc : Int} (h : GuessAt s w pos lv acc wr) :
    wr.cell? ⟨w.heap.size + 1, 0, none⟩ = some (.int .i64 lv) ∧ wr.cell? ⟨w.heap.size + 1, 1, none⟩ = some (.int .i64 acc) ∧ wr.frozen? ⟨w.heap.size + 1, 0, none⟩ = false ∧ wr.frozen? ⟨w.heap.size + 1, 1, none⟩ = false
    ∧ wr.cell? ⟨w.heap.size, 0, none⟩ = some (.int .i64 0) ∧ wr.cell? ⟨w.heap.size, 1, none⟩ = some (.int .i64 0) ∧ wr.frozen? ⟨w.heap.size, 0, none⟩ = false ∧ wr.frozen? ⟨w.heap.size, 1, none⟩ = false := by
  obtain ⟨h0, h1, h2, hb⟩ := h
  exact ⟨Lib.cell_of_heap h1 0, Lib.cell_of_heap h1 1, Lib.frozen_of_heap h1 0, Lib.frozen_of_heap h1 1, Lib.cell_of_heap h0 0, Lib.cell_of_heap h0 1, Lib.frozen_of_heap h0 0, Lib.frozen_of_heap h0 1⟩

theorem width_pos (s : ByteArray) (pos : Nat) (h : pos < s.size) : 1 ≤ (Utf8.decode s pos).2 := by
  by_cases ha : (s[pos]'h).toNat < 128
  · rw [decode_ascii s pos h ha]
    exact Nat.le_refl _
  · exact (decode_high s pos h (by omega)).2

theorem alloc_at (w : World) (o : Obj) : (w.alloc o).heap[w.heap.size]? = some o := by
  show (w.heap.push o)[w.heap.size]? = some o
  simp

/-- The level so far. -/
def lvAt (s : ByteArray) (pos : Nat) : Int := if pos = 0 then 0 else guessL s

set_option maxHeartbeats 1000000 in
theorem guess_any (s : ByteArray) (w : World) :
    Calls Tryd.prog 86 #[.string s] w fun e w' => e = .returned (.agg #[.int .i64 (guessL s), .int .i64 (guessC s)]) ∧ Below w.heap.size w w' := by
  go_enter Tryd.func86, Tryd.ntmps86
  go_wp2
  go_loopw [] (fun wr => ∃ (pos fuel acc : Nat), GuessAt s w pos (lvAt s pos) acc wr ∧ catsFrom s fuel pos acc = guessC s ∧ s.size ≤ pos + fuel ∧ acc < 65536) (fun wr => s.size - wr.iterPos (w.heap.size + 1 + 1))
  case atStart =>
    have e1 := World.iter_heap ((w.alloc (.cells #[.int .i64 0, .int .i64 0] 35)).alloc (.cells #[.int .i64 0, .int .i64 0] 35)) s 0
    refine ⟨0, s.size, 0, ⟨?_, ?_, ?_, (below2 _ _ _).alloc (by simp; omega) _⟩, rfl, by omega, by omega⟩
    · exact (Lib.alloc_old _ _ _ (by simp; omega)).trans ((Lib.alloc_old _ _ _ (by simp)).trans (alloc_at _ _))
    · refine (Lib.alloc_old _ _ _ (by simp)).trans ?_
      rw [show lvAt s 0 = 0 from rfl]
      have := alloc_at (w.alloc (.cells #[.int .i64 0, .int .i64 0] 35)) (.cells #[.int .i64 0, .int .i64 0] 35)
      simpa using this
    · simpa using e1
  case round =>
    obtain ⟨pos, fuel, acc, hG, hcf, hfu, hac⟩ := hrel
    have hit := hG.2.2.1
    have hsz : w.heap.size + 1 + 1 < wr.heap.size := (Array.getElem?_eq_some_iff.1 hit).1
    by_cases hp : pos < s.size
    · obtain ⟨r, hr⟩ : ∃ r, r = (Utf8.decode s pos).1 := ⟨_, rfl⟩
      obtain ⟨np, hnp⟩ : ∃ np, np = pos + (Utf8.decode s pos).2 := ⟨_, rfl⟩
      have hnx : ∀ ty, (Instr.next (.pointer (some ⟨w.heap.size + 1 + 1, 0, none⟩)) true ty).run Tryd.prog wr = .ok (.tuple #[.bool true, .int .i64 pos, .int .i32 r]) (wr.iterAt (w.heap.size + 1 + 1) s np) := fun ty => by
        rw [hr, hnp]; exact Lib.run_next_any_at wr (w.heap.size + 1 + 1) s pos ty hit hp
      have hwd := width_pos s pos hp
      have hd1 : r ≤ 2147483647 := by rw [hr]; exact decode_le s pos
      have hG2 := hG.next np
      have hpos : pos < np := by omega
      obtain ⟨c0, c1, f0, f1, _, _, _, _⟩ := hG2.cells
      obtain ⟨f, rfl⟩ : ∃ f, fuel = f + 1 := ⟨fuel - 1, by omega⟩
      simp only [catsFrom, if_pos hp, ← hr, ← hnp] at hcf
      have HIT : Hid (wr.heap[w.heap.size + 1 + 1]? = some (.stringIter s pos)) := hit
      have HR : Hid (pos = 0 → guessL s = r - 48) := fun hz => by subst hz; unfold guessL; rw [if_pos hp, ← hr]
      clear hr hnp hwd hit
      by_cases hz : pos = 0
      · subst hz
        go_wp2_with fail
        go_roundw
        case rel =>
          refine ⟨np, f, acc, ?_, by simpa using hcf, by omega, hac⟩
          have := hG2.set0 (r - 48)
          rw [show lvAt s np = r - 48 by unfold lvAt; rw [if_neg (by omega)]; exact HR.out rfl]
          exact this
        case measure =>
          have h2 := (hG2.set0 (r - 48)).2.2.1
          simp only [World.iterPos, h2, HIT.out]
          omega
      · have hzb : ((pos : Int) == 0) = false := by simp [hz]
        rw [if_neg hz] at hcf
        have hlv : lvAt s np = lvAt s pos := by unfold lvAt; rw [if_neg hz, if_neg (by omega)]
        by_cases hcat : 945 ≤ r ∧ r ≤ 960
        · obtain ⟨n, rfl⟩ : ∃ n, r = 945 + n := ⟨r - 945, by omega⟩
          have hn : n < 16 := by omega
          have hco : catOf (945 + (n : Int)) = n := by unfold catOf; rw [if_pos (by omega)]; omega
          rw [addCat, if_pos hcat, show 945 + n - 945 = n by omega] at hcf
          have hpw : 2 ^ n < 65536 := Nat.pow_lt_pow_right (a := 2) (m := n) (n := 16) (by omega) hn
          have hor := i64_or_nat acc (2 ^ n) hac hpw
          have HO : Hid (catsFrom s f np (acc ||| 2 ^ n) = guessC s) := hcf
          clear hcf
          go_wp2_with fail
          refine (cat_any _ (by omega) (by omega) _).mono ?_
          rintro e w1 ⟨rfl, rfl⟩
          rw [hco]
          go_wp2_with fail
          go_region
          rw [wrap_pow n hn, hor]
          go_wp2_with fail
          go_roundw
          case rel =>
            refine ⟨np, f, acc ||| 2 ^ n, ?_, HO.out, by omega, Nat.or_lt_two_pow (n := 16) hac hpw⟩
            rw [hlv]; exact (hG2.set1 _).drew
          case measure =>
            have h2 := (hG2.set1 ((acc ||| 2 ^ n : Nat) : Int)).2.2.1
            simp only [World.iterPos, World.drew, h2, HIT.out]
            omega
        · have hco : catOf (r : Int) = -1 := by unfold catOf; rw [if_neg (by omega)]
          rw [addCat, if_neg hcat] at hcf
          go_wp2_with fail
          refine (cat_any _ (by omega) (by omega) _).mono ?_
          rintro e w1 ⟨rfl, rfl⟩
          rw [hco]
          go_wp2_with fail
          go_roundw
          case rel =>
            refine ⟨np, f, acc, ?_, hcf, by omega, hac⟩
            rw [hlv]; exact hG2
          case measure =>
            have h2 := hG2.2.2.1
            simp only [World.iterPos, h2, HIT.out]
            omega
    · have hnx : ∀ ty, (Instr.next (.pointer (some ⟨w.heap.size + 1 + 1, 0, none⟩)) true ty).run Tryd.prog wr = _ := fun ty => Lib.run_next_end_at wr (w.heap.size + 1 + 1) s pos ty hit hp
      obtain ⟨c0, c1, f0, f1, d0, d1, g0, g1⟩ := hG.cells
      have hl : lvAt s pos = guessL s := by
        unfold lvAt
        by_cases hz : pos = 0
        · rw [if_pos hz]; unfold guessL; rw [if_neg (by omega)]
        · rw [if_neg hz]
      have ha : acc = guessC s := by
        rw [← hcf]
        cases fuel with
        | zero => rfl
        | succ f => simp only [catsFrom, if_neg hp]
      rw [hl] at c0
      rw [ha] at c1
      have hbw := hG.2.2.2
      have e1 := Lib.heap_setCell_same (i := 0) hG.1 (.int .i64 (guessL s))
      have e2 := Lib.heap_setCell_same (i := 1) e1 (.int .i64 (guessC s))
      have q0 : (wr.setCell ⟨w.heap.size, 0, none⟩ (.int .i64 (guessL s))).cell? ⟨w.heap.size, 0, none⟩ = some (.int .i64 (guessL s)) := Lib.cell_of_heap e1 0
      have q1 : ((wr.setCell ⟨w.heap.size, 0, none⟩ (.int .i64 (guessL s))).setCell ⟨w.heap.size, 1, none⟩ (.int .i64 (guessC s))).cell? ⟨w.heap.size, 1, none⟩ = some (.int .i64 (guessC s)) := Lib.cell_of_heap e2 1
      clear hG hcf e1 e2
      go_wp2
      exact bodyPost_ret (v := .agg #[.int .i64 (guessL s), .int .i64 (guessC s)]) (by simp [results, Tryd.results86, go_sem, q0, q1]) rfl ⟨rfl, (hbw.setCell (by simp) _).setCell (by simp) _⟩

end Go.Proofs.YtmhjoomkeidcaaaDoor.L2
