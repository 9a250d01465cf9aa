/-
  What the small functions come to: which runes may not be, whether a byte belongs to no rune, the next place, the width of a rune.
-/
import Derived.Test.YtmhjoomkeidcaaaDoorRows
import Derived.Test.YtmhjoomkeidcaaaDoorL3Spec
import Derived.WalkKit
import Derived.WalkSpells
import Derived.WalkLawsBesides
import Derived.BigCall
import Derived.Lib.BufferMore
namespace Go.Proofs.YtmhjoomkeidcaaaDoor.L3
open Go.RowKit

theorem bcell {W w1 : World} (hb : Below W.heap.size W w1) : (∀ b o, b < W.heap.size → w1.cell? ⟨b, o, none⟩ = W.cell? ⟨b, o, none⟩) ∧ (∀ b o, b < W.heap.size → w1.frozen? ⟨b, o, none⟩ = W.frozen? ⟨b, o, none⟩) :=
  ⟨fun b o h => hb.cell (p := ⟨b, o, none⟩) h, fun b o h => hb.frozen (p := ⟨b, o, none⟩) h⟩
theorem below_next {W a b : World} (h : Below W.heap.size W a) (k : Below a.heap.size a b) : Below W.heap.size W b := h.trans (k.mono h.size)
theorem below1 (w : World) (o1 : Obj) : Below w.heap.size w (w.alloc o1) := (Below.refl _ _).alloc (Nat.le_refl _) _
theorem ret_bool {a b : Bool} (h : a = b) : Ending.returned (.bool a) = .returned (.bool b) := by rw [h]
theorem ret_int {k : IntKind} {a b : Int} (h : a = b) : Ending.returned (.int k a) = .returned (.int k b) := by rw [h]
theorem alloc_at (w : World) (o : Obj) : (w.alloc o).heap[w.heap.size]? = some o := by
  show (w.heap.push o)[w.heap.size]? = some o
  simp
theorem list_ne {a b : ByteArray} (h : a ≠ b) : (a.toList == b.toList) = false := by
  rw [beq_eq_false_iff_ne]
  intro e
  rw [ByteArray.toList_eq, ByteArray.toList_eq] at e
  exact h (ByteArray.ext (Array.toList_inj.mp e))
theorem list_eq {a b : ByteArray} (h : a.data.toList = b.data.toList) : (a.toList == b.toList) = true := by
  rw [beq_iff_eq, ByteArray.toList_eq, ByteArray.toList_eq, h]
theorem list_beq (a b : ByteArray) : (a.toList == b.toList) = decide (a.data.toList = b.data.toList) := by
  rw [ByteArray.toList_eq, ByteArray.toList_eq, Bool.eq_iff_iff]; simp
theorem size_list (s : ByteArray) : s.data.toList.length = s.size := by rw [Array.length_toList]; rfl

/-- A part of a text. -/
theorem extract_list (s : ByteArray) (i j : Nat) : (s.extract i j).data.toList = (s.data.toList.drop i).take (j - i) := by
  simp [ByteArray.data_extract, List.take_drop]
theorem extract_rest (s : ByteArray) (i : Nat) : (s.extract i s.size).data.toList = s.data.toList.drop i := by
  rw [extract_list, List.take_of_length_le]
  rw [List.length_drop, Array.length_toList]
  exact Nat.le_refl _

def bannedB (r : Nat) : Bool := decide (r < 32) && decide (r ≠ 10) || decide (r = 127)

set_option maxHeartbeats 400000 in
theorem banned_any (r : Nat) (w : World) :
    Calls Tryd.prog 74 #[.int .i32 r] w fun e w' => e = .returned (.bool (bannedB r)) ∧ w' = w := by
  by_cases h1 : (r : Int) < 32
  · by_cases h2 : (r : Int) = 10
    · have h2b : ((r : Int) != 10) = false := by simp [h2]
      have h3b : ((r : Int) == 127) = false := by simp; omega
      have e : bannedB r = false := by obtain rfl : r = 10 := by omega
                                       rfl
      rw [e]
      clear h2
      go_enter Tryd.func74, Tryd.ntmps74
      go_wp2
      go_ret
      exact ⟨rfl, rfl⟩
    · have h2b : ((r : Int) != 10) = true := by simp [h2]
      have e : bannedB r = true := by simp [bannedB]; omega
      rw [e]
      clear h2
      go_enter Tryd.func74, Tryd.ntmps74
      go_wp2
      go_ret
      exact ⟨rfl, rfl⟩
  · by_cases h3 : (r : Int) = 127
    · have h3b : ((r : Int) == 127) = true := by simpa using h3
      have e : bannedB r = true := by simp [bannedB]; omega
      rw [e]
      clear h3
      go_enter Tryd.func74, Tryd.ntmps74
      go_wp2
      go_ret
      exact ⟨rfl, rfl⟩
    · have h3b : ((r : Int) == 127) = false := by simpa using h3
      have e : bannedB r = false := by simp [bannedB]; omega
      rw [e]
      clear h3
      go_enter Tryd.func74, Tryd.ntmps74
      go_wp2
      go_ret
      exact ⟨rfl, rfl⟩

/-- The rune that stands for none, as its own bytes. -/
def signB : ByteArray := ⟨#[239, 191, 189]⟩
/-- Does a text begin with it? -/
def preB (l : List UInt8) : Bool := decide (l.take 3 = [239, 191, 189])

set_option maxHeartbeats 400000 in
theorem prefix_yes (u : ByteArray) (w : World) (h : 3 ≤ (u.size : Int)) :
    Calls Tryd.prog 91 #[.string u, .string signB] w fun e w' => e = .returned (.bool ((u.extract 0 3).toList == signB.toList)) ∧ w' = w := by
  have hs : (signB.size : Int) = 3 := rfl
  generalize signB = t at *
  cases hb : ((u.extract 0 3).toList == t.toList)
  all_goals
    go_enter Tryd.func91, Tryd.ntmps91
    go_wp2
    go_ret
    exact ⟨rfl, rfl⟩

set_option maxHeartbeats 400000 in
theorem prefix_no (u : ByteArray) (w : World) (h : ¬ 3 ≤ (u.size : Int)) :
    Calls Tryd.prog 91 #[.string u, .string signB] w fun e w' => e = .returned (.bool false) ∧ w' = w := by
  have hs : (signB.size : Int) = 3 := rfl
  generalize signB = t at *
  go_enter Tryd.func91, Tryd.ntmps91
  go_wp2
  go_ret
  exact ⟨rfl, rfl⟩

theorem prefix_lite (u : ByteArray) (w : World) :
    Calls Tryd.prog 91 #[.string u, .string signB] w fun e w' => e = .returned (.bool (preB u.data.toList)) ∧ w' = w := by
  by_cases h : 3 ≤ (u.size : Int)
  · have e : ((u.extract 0 3).toList == signB.toList) = preB u.data.toList := by
      rw [list_beq, extract_list]; rfl
    rw [← e]; exact prefix_yes u w h
  · have e : preB u.data.toList = false := by
      unfold preB
      rw [decide_eq_false_iff_not]
      intro e
      have := congrArg List.length e
      rw [List.length_take, size_list] at this
      simp at this
      omega
    rw [e]; exact prefix_no u w h

set_option maxHeartbeats 400000 in
theorem prefix_any (u : ByteArray) (w : World) :
    Calls Tryd.prog 85 #[.string u, .string signB] w fun e w' => e = .returned (.bool (preB u.data.toList)) ∧ w' = w := by
  have HP := fun w => prefix_lite u w
  generalize signB = t at *
  go_enter Tryd.func85, Tryd.ntmps85
  go_wp2_with fail
  refine (HP _).mono ?_
  rintro e w1 ⟨rfl, rfl⟩
  go_wp2
  go_ret
  exact ⟨rfl, rfl⟩

def brokenB (l : List UInt8) (r : Nat) : Bool := decide (r = 65533) && !preB l

set_option maxHeartbeats 400000 in
theorem broken_any (u : ByteArray) (r : Nat) (w : World) :
    Calls Tryd.prog 75 #[.string u, .int .i32 r] w fun e w' => e = .returned (.bool (brokenB u.data.toList r)) ∧ w' = w := by
  by_cases h : (r : Int) = 65533
  · have hb : ((r : Int) == 65533) = true := by simpa using h
    have e : brokenB u.data.toList r = !preB u.data.toList := by
      unfold brokenB
      rw [show decide (r = 65533) = true from decide_eq_true (by omega)]; rfl
    rw [e]
    clear h e
    go_enter Tryd.func75, Tryd.ntmps75
    go_wp2_with fail
    refine (prefix_any u _).mono ?_
    rintro e w1 ⟨rfl, rfl⟩
    go_wp2
    go_ret
    exact ⟨rfl, rfl⟩
  · have hb : ((r : Int) == 65533) = false := by simpa using h
    have e : brokenB u.data.toList r = false := by
      unfold brokenB
      rw [show decide (r = 65533) = false from decide_eq_false (by omega)]; rfl
    rw [e]
    clear h e
    go_enter Tryd.func75, Tryd.ntmps75
    go_wp2
    go_ret
    exact ⟨rfl, rfl⟩

set_option maxHeartbeats 400000 in
theorem behind_end (line col : Nat) (h : line ≤ 5000) (w : World) :
    Calls Tryd.prog 76 #[.int .i32 10, .int .i64 line, .int .i64 col] w fun e w' => e = .returned (.tuple #[.int .i64 ((line + 1 : Nat) : Int), .int .i64 1]) ∧ w' = w := by
  rw [show ((line + 1 : Nat) : Int) = (line : Int) + 1 by omega]
  go_enter Tryd.func76, Tryd.ntmps76
  go_wp2
  go_ret2
  exact ⟨rfl, rfl⟩
set_option maxHeartbeats 400000 in
theorem behind_not (r line col : Nat) (hr : r ≠ 10) (h : col ≤ 5000) (w : World) :
    Calls Tryd.prog 76 #[.int .i32 r, .int .i64 line, .int .i64 col] w fun e w' => e = .returned (.tuple #[.int .i64 line, .int .i64 ((col + 1 : Nat) : Int)]) ∧ w' = w := by
  have hb : ((r : Int) == 10) = false := by simp; omega
  rw [show ((col + 1 : Nat) : Int) = (col : Int) + 1 by omega]
  go_enter Tryd.func76, Tryd.ntmps76
  go_wp2
  go_ret2
  exact ⟨rfl, rfl⟩
/-- The place behind a rune r whose bytes are c. -/
theorem behind_any (r line col : Nat) (c : List UInt8) (hr : r = 10 ↔ c = [10]) (h1 : line ≤ 5000) (h2 : col ≤ 5000) (w : World) :
    Calls Tryd.prog 76 #[.int .i32 r, .int .i64 line, .int .i64 col] w fun e w' => e = .returned (.tuple #[.int .i64 (nextL line c : Nat), .int .i64 (nextC col c : Nat)]) ∧ w' = w := by
  by_cases h : r = 10
  · have hc := hr.1 h
    subst h
    rw [show nextL line c = line + 1 by unfold nextL; rw [if_pos hc], show nextC col c = 1 by unfold nextC; rw [if_pos hc]]
    exact behind_end line col h1 w
  · have hc : ¬ c = [10] := fun e => h (hr.2 e)
    rw [show nextL line c = line by unfold nextL; rw [if_neg hc], show nextC col c = col + 1 by unfold nextC; rw [if_neg hc]]
    exact behind_not r line col h h2 w

set_option maxHeartbeats 400000 in
theorem runeLen_any (r : Nat) (h : r ≤ 1114111) (hs : r < 55296 ∨ 57344 ≤ r) (w : World) :
    Calls Tryd.prog 77 #[.int .i32 r] w fun e w' => e = .returned (.int .i64 (rlen r : Nat)) ∧ w' = w := by
  have h0 : ¬ (r : Int) < 0 := by omega
  by_cases h1 : (r : Int) ≤ 127
  · rw [show rlen r = 1 by unfold rlen; rw [if_pos (by omega)]]
    clear hs
    go_enter Tryd.func77, Tryd.ntmps77
    go_wp2
    go_ret
    exact ⟨rfl, rfl⟩
  · by_cases h2 : (r : Int) ≤ 2047
    · rw [show rlen r = 2 by unfold rlen; rw [if_neg (by omega), if_pos (by omega)]]
      clear hs
      go_enter Tryd.func77, Tryd.ntmps77
      go_wp2
      go_ret
      exact ⟨rfl, rfl⟩
    · by_cases h3 : 55296 ≤ (r : Int)
      · have h4 : ¬ (r : Int) ≤ 57343 := by omega
        by_cases h5 : (r : Int) ≤ 65535
        · rw [show rlen r = 3 by unfold rlen; rw [if_neg (by omega), if_neg (by omega), if_pos (by omega)]]
          clear hs
          go_enter Tryd.func77, Tryd.ntmps77
          go_wp2
          go_ret
          exact ⟨rfl, rfl⟩
        · have h6 : (r : Int) ≤ 1114111 := by omega
          rw [show rlen r = 4 by unfold rlen; rw [if_neg (by omega), if_neg (by omega), if_neg (by omega)]]
          clear hs
          go_enter Tryd.func77, Tryd.ntmps77
          go_wp2
          go_ret
          exact ⟨rfl, rfl⟩
      · have h5 : (r : Int) ≤ 65535 := by omega
        rw [show rlen r = 3 by unfold rlen; rw [if_neg (by omega), if_neg (by omega), if_pos (by omega)]]
        clear hs
        go_enter Tryd.func77, Tryd.ntmps77
        go_wp2
        go_ret
        exact ⟨rfl, rfl⟩

end Go.Proofs.YtmhjoomkeidcaaaDoor.L3
