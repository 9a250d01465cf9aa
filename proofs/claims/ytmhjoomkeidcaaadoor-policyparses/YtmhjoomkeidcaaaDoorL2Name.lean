/-
  Which texts are names, in plain Lean, and what sign.Name comes to.
-/
import Derived.Test.YtmhjoomkeidcaaaDoorL2Read
namespace Go.Proofs.YtmhjoomkeidcaaaDoor.L2
open Go.RowKit

/-- How many letters a text is, if it is all letters. -/
def letters : List UInt8 → Option Nat
  | [] => some 0
  | [a] => if 97 ≤ a.toNat ∧ a.toNat ≤ 122 then some 1 else none
  | a :: b :: rest => if 97 ≤ a.toNat ∧ a.toNat ≤ 122 then (letters (b :: rest)).map (· + 1) else if 0 ≤ greekB a.toNat b.toNat ∧ greekB a.toNat b.toNat ≤ 24 then (letters rest).map (· + 1) else none

def nameOK : Option Nat → Nat → Bool
  | some k, n => decide (0 < n + k ∧ n + k < 13)
  | none, _ => false
def nameB (s : ByteArray) : Bool := nameOK (letters s.data.toList) 0

theorem nameOK_succ (o : Option Nat) (n : Nat) : nameOK (o.map (· + 1)) n = nameOK o (n + 1) := by
  cases o with
  | none => rfl
  | some k => simp only [Option.map_some, nameOK]; rw [decide_eq_decide]; omega

theorem letters_latin (a : UInt8) (l : List UInt8) (h : 97 ≤ a.toNat ∧ a.toNat ≤ 122) : letters (a :: l) = (letters l).map (· + 1) := by
  cases l with
  | nil => simp only [letters, if_pos h]; rfl
  | cons b r => simp only [letters, if_pos h]

theorem letters_greek (a b : UInt8) (l : List UInt8) (h : ¬ (97 ≤ a.toNat ∧ a.toNat ≤ 122)) (hg : 0 ≤ greekB a.toNat b.toNat ∧ greekB a.toNat b.toNat ≤ 24) : letters (a :: b :: l) = (letters l).map (· + 1) := by
  simp only [letters, if_neg h, if_pos hg]

theorem letters_other (a b : UInt8) (l : List UInt8) (h : ¬ (97 ≤ a.toNat ∧ a.toNat ≤ 122)) (hg : ¬ (0 ≤ greekB a.toNat b.toNat ∧ greekB a.toNat b.toNat ≤ 24)) : letters (a :: b :: l) = none := by
  simp only [letters, if_neg h, if_neg hg]

theorem letters_pos (a : UInt8) : ∀ (l : List UInt8) (k : Nat), letters (a :: l) = some k → 1 ≤ k := by
  intro l k h
  by_cases h1 : 97 ≤ a.toNat ∧ a.toNat ≤ 122
  · rw [letters_latin a l h1] at h
    cases h2 : letters l with
    | none => rw [h2] at h; cases h
    | some j => rw [h2] at h; simp only [Option.map_some, Option.some.injEq] at h; omega
  · cases l with
    | nil => simp only [letters, if_neg h1] at h; cases h
    | cons b r =>
      by_cases hg : 0 ≤ greekB a.toNat b.toNat ∧ greekB a.toNat b.toNat ≤ 24
      · rw [letters_greek a b r h1 hg] at h
        cases h2 : letters r with
        | none => rw [h2] at h; cases h
        | some j => rw [h2] at h; simp only [Option.map_some, Option.some.injEq] at h; omega
      · rw [letters_other a b r h1 hg] at h; cases h

theorem name_long (a : UInt8) (l : List UInt8) (n : Nat) (hn : 12 ≤ n) : nameOK (letters (a :: l)) n = false := by
  cases h : letters (a :: l) with
  | none => rfl
  | some k => have := letters_pos a l k h; exact decide_eq_false (by omega)

/-- At a place of a text: a letter, and the place behind it, or none. -/
theorem name_step (s : ByteArray) (p n : Nat) (h : p < s.size) :
    (letB ((Utf8.decode s p).1 : Int) = true ∧ nameOK (letters (s.data.toList.drop p)) n = nameOK (letters (s.data.toList.drop (p + (Utf8.decode s p).2))) (n + 1))
    ∨ (letB ((Utf8.decode s p).1 : Int) = false ∧ nameOK (letters (s.data.toList.drop p)) n = false) := by
  have hd := drop_cons h
  by_cases h1 : 97 ≤ (s.get! p).toNat ∧ (s.get! p).toNat ≤ 122
  · left
    have hdec := decode_one (s := s) (p := p) (by omega)
    rw [hdec, hd, letters_latin _ _ h1, nameOK_succ]
    exact ⟨decide_eq_true (by simp only; omega), rfl⟩
  · by_cases h2 : p + 1 < s.size ∧ 0 ≤ greekB (s.get! p).toNat (s.get! (p + 1)).toNat ∧ greekB (s.get! p).toNat (s.get! (p + 1)).toNat ≤ 24
    · left
      have hdec := decode_greek h2.1 h2.2.1 h2.2.2
      rw [hdec, hd, drop_cons h2.1, letters_greek _ _ _ h1 h2.2, nameOK_succ]
      refine ⟨decide_eq_true (by simp only; omega), rfl⟩
    · right
      have hnl := decode_none h1 h2
      refine ⟨decide_eq_false (by unfold isLetter at hnl; omega), ?_⟩
      rw [hd]
      by_cases h3 : p + 1 < s.size
      · rw [drop_cons h3, letters_other _ _ _ h1 (fun hg => h2 ⟨h3, hg⟩)]; rfl
      · rw [List.drop_of_length_le (by rw [Array.length_toList]; exact Nat.not_lt.1 h3)]
        simp only [letters, if_neg h1]; rfl

set_option maxHeartbeats 1000000 in
theorem name_any (s : ByteArray) (w : World) :
    Calls Tryd.prog 45 #[.string s] w fun e w' => e = .returned (.bool (nameB s)) ∧ Below w.heap.size w w' := by
  go_enter Tryd.func45, Tryd.ntmps45
  go_wp2
  go_loopw [3] (fun i wr => ∃ (pos n : Nat), n ≤ 12 ∧ i = .int .i64 n ∧ wr.heap[w.heap.size]? = some (.stringIter s pos) ∧ Below w.heap.size w wr ∧ nameOK (letters (s.data.toList.drop pos)) n = nameB s) (fun _ wr => s.size - wr.iterPos w.heap.size)
  case atStart => exact ⟨0, 0, by omega, rfl, World.iter_heap _ _ _, below1 _ _, rfl⟩
  case round =>
    obtain ⟨pos, n, hn, rfl, hit, hbw, hnm⟩ := hrel
    have hsz : w.heap.size < wr.heap.size := (Array.getElem?_eq_some_iff.1 hit).1
    by_cases hp : pos < s.size
    · have hst := name_step s pos n hp
      have hlong := fun h => name_long (s.get! pos) (s.data.toList.drop (pos + 1)) n h
      rw [← drop_cons hp] at hlong
      have hwd := width_pos s pos hp
      obtain ⟨r, hr⟩ : ∃ r, r = (Utf8.decode s pos).1 := ⟨_, rfl⟩
      obtain ⟨np, hnp⟩ : ∃ np, np = pos + (Utf8.decode s pos).2 := ⟨_, rfl⟩
      have hnx : ∀ ty, (Instr.next (.pointer (some ⟨w.heap.size, 0, none⟩)) true ty).run Tryd.prog wr = .ok (.tuple #[.bool true, .int .i64 pos, .int .i32 r]) (wr.iterAt w.heap.size s np) := fun ty => by
        rw [hr, hnp]; exact Lib.run_next_any_at wr w.heap.size s pos ty hit hp
      rw [← hr, ← hnp, hnm] at hst
      rw [hnm] at hlong
      have hit2 := Lib.iterAt_heap wr w.heap.size s pos np hit
      have hbw2 := Lib.below_iterAt hbw (k := w.heap.size) (Nat.le_refl _) s np
      have hpos : pos < np := by omega
      have HIT : Hid (wr.heap[w.heap.size]? = some (.stringIter s pos)) := hit
      clear hr hnp hwd hit hnm
      by_cases h12 : 12 ≤ n
      · have e12 : n = 12 := by omega
        subst e12
        have hnb := hlong h12
        clear hst hlong
        go_wp2_with fail
        go_ret
        exact ⟨ret_bool hnb.symm, hbw2⟩
      · clear hlong
        have hgt : ¬ (12 < (n : Int) + 1) := by omega
        rcases hst with ⟨hl, hs⟩ | ⟨hl, hs⟩
        · have HS : Hid (nameB s = nameOK (letters (s.data.toList.drop np)) (n + 1)) := hs
          clear hs
          go_wp2_with (go_at_call 70; refine (letter_any _ _).mono ?_; rintro e w1 ⟨rfl, rfl⟩)
          go_roundw
          case rel => exact ⟨np, n + 1, by omega, by go_num, hit2, hbw2, HS.out.symm⟩
          case measure =>
            simp only [World.iterPos, hit2, HIT.out]
            omega
        · go_wp2_with (go_at_call 70; refine (letter_any _ _).mono ?_; rintro e w1 ⟨rfl, rfl⟩)
          go_ret
          exact ⟨ret_bool hs.symm, hbw2⟩
    · have hnx : ∀ ty, (Instr.next (.pointer (some ⟨w.heap.size, 0, none⟩)) true ty).run Tryd.prog wr = _ := fun ty => Lib.run_next_end_at wr w.heap.size s pos ty hit hp
      have he : nameB s = decide (0 < n) := by
        rw [← hnm, List.drop_of_length_le (by rw [Array.length_toList]; exact Nat.not_lt.1 hp)]
        simp only [letters, nameOK]
        rw [decide_eq_decide]; omega
      go_wp2
      go_ret
      exact ⟨ret_bool (by rw [he, decide_eq_decide]), hbw⟩

end Go.Proofs.YtmhjoomkeidcaaaDoor.L2
