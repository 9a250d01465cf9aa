/-
  Plain facts on the texts of labels: the text that a label has, byte by byte, how it is read back, and which texts are names.
-/
import Derived.Lib.RuneBytes
import Derived.Laws.RangeAny
namespace Go.Proofs.YtmhjoomkeidcaaaDoor.L2
open Go.RowKit

/-- The two bytes of category n's sign. -/
def signOf (n : Nat) : List UInt8 := [((945 + n) / 64 + 192).toUInt8, ((945 + n) % 64 + 128).toUInt8]

/-- The signs of a label's categories, of k of them from n on. -/
def signsFrom (c : Nat) : Nat → Nat → List UInt8
  | 0, _ => []
  | k + 1, n => (if c.testBit n then signOf n else []) ++ signsFrom c k (n + 1)

/-- A label's text. -/
def textOf (l c : Nat) : List UInt8 := (48 + l).toUInt8 :: 123 :: (signsFrom c 16 0 ++ [125])
def textB (l c : Nat) : ByteArray := ⟨(textOf l c).toArray⟩

theorem encode_sign (n : Nat) (h : n < 16) : Lib.encodeRune (945 + (n : Int)) = signOf n := by
  unfold Lib.encodeRune
  rw [Lib.encodeRuneZ_two (by omega) (by omega)]
  simp only [List.map_cons, List.map_nil, signOf]
  have e1 : (192 + (945 + (n : Int)) / 64).toNat = (945 + n) / 64 + 192 := by omega
  have e2 : (128 + (945 + (n : Int)) % 64).toNat = (945 + n) % 64 + 128 := by omega
  rw [e1, e2]

theorem toUInt8_toNat (n : Nat) (h : n < 256) : n.toUInt8.toNat = n := by
  simp [Nat.toUInt8]; omega

/-- What is read at a place of a text. -/
theorem get_drop {s : ByteArray} {p : Nat} {a : UInt8} {r : List UInt8} (h : s.data.toList.drop p = a :: r) : p < s.size ∧ s.get! p = a ∧ s.data.toList.drop (p + 1) = r := by
  have hlt : p < s.data.toList.length := by
    rcases Nat.lt_or_ge p s.data.toList.length with h1 | h1
    · exact h1
    · rw [List.drop_of_length_le h1] at h; cases h
  rw [List.drop_eq_getElem_cons hlt] at h
  injection h with h1 h2
  have hlt2 : p < s.data.size := by simpa using hlt
  refine ⟨hlt2, ?_, h2⟩
  rw [← h1]
  exact (getElem!_pos s.data p hlt2).trans (by simp)

theorem drop_end {s : ByteArray} {p : Nat} (h : s.data.toList.drop p = []) : ¬ p < s.size := by
  have h1 := List.drop_eq_nil_iff.1 h
  rw [Array.length_toList] at h1
  exact Nat.not_lt.2 h1

theorem drop_cons {s : ByteArray} {p : Nat} (h : p < s.size) : s.data.toList.drop p = s.get! p :: s.data.toList.drop (p + 1) := by
  have hlt2 : p < s.data.size := h
  have hlt : p < s.data.toList.length := by simpa using hlt2
  rw [List.drop_eq_getElem_cons hlt]
  congr 1
  exact (by simp : s.data.toList[p] = s.data[p]).trans (getElem!_pos s.data p hlt2).symm

/-- Which sign from U+03B1 on two bytes are; below 0: none. -/
def greekB (a b : Nat) : Int := if a = 206 ∧ 177 ≤ b ∧ b ≤ 191 then b - 177 else if a = 207 ∧ 128 ≤ b ∧ b ≤ 191 then b - 128 + 15 else -1

theorem greek_sign (n : Nat) (h : n < 25) : greekB ((945 + n) / 64 + 192).toUInt8.toNat ((945 + n) % 64 + 128).toUInt8.toNat = n := by
  rw [toUInt8_toNat _ (by omega), toUInt8_toNat _ (by omega)]
  unfold greekB
  split
  · omega
  · split <;> omega

theorem sign_greek (a b : UInt8) (n : Nat) (h : greekB a.toNat b.toNat = n) (hn : n < 25) : [a, b] = signOf n := by
  have ha := a.toNat_lt; have hb := b.toNat_lt
  have e1 : a.toNat = (945 + n) / 64 + 192 := by
    unfold greekB at h
    split at h
    · omega
    · split at h <;> omega
  have e2 : b.toNat = (945 + n) % 64 + 128 := by
    unfold greekB at h
    split at h
    · omega
    · split at h <;> omega
  unfold signOf
  rw [← e1, ← e2]
  simp [Nat.toUInt8, UInt8.ofNat_toNat]

/-- The first rune of a text from a place on, where two bytes are. -/
theorem decode_two {s : ByteArray} {p : Nat} (h1 : p + 1 < s.size) (ha : (s.get! p).toNat / 32 = 6) (hb : (s.get! (p + 1)).toNat / 64 = 2) (hc : 2 ≤ (s.get! p).toNat % 32) :
    Utf8.decode s p = ((s.get! p).toNat % 32 * 64 + (s.get! (p + 1)).toNat % 64, 2) := by
  have n0 : ¬ (s.get! p).toNat < 128 := by omega
  simp only [Utf8.decode, Nat.add_zero]
  rw [if_neg n0, if_pos (by simp [ha, hb, h1]), if_pos (by omega)]

theorem decode_one {s : ByteArray} {p : Nat} (ha : (s.get! p).toNat < 128) : Utf8.decode s p = ((s.get! p).toNat, 1) := by
  simp only [Utf8.decode, Nat.add_zero]
  rw [if_pos ha]

/-- A letter of a name. -/
def isLetter (r : Nat) : Prop := (97 ≤ r ∧ r ≤ 122) ∨ (945 ≤ r ∧ r ≤ 969)

/-- No letter, where neither a Latin one stands nor two bytes that are a Greek one. -/
theorem decode_none {s : ByteArray} {p : Nat} (ha : ¬ (97 ≤ (s.get! p).toNat ∧ (s.get! p).toNat ≤ 122))
    (hg : ¬ (p + 1 < s.size ∧ 0 ≤ greekB (s.get! p).toNat (s.get! (p + 1)).toNat ∧ greekB (s.get! p).toNat (s.get! (p + 1)).toNat ≤ 24)) : ¬ isLetter (Utf8.decode s p).1 := by
  have b0 := (s.get! p).toNat_lt; have b1 := (s.get! (p + 1)).toNat_lt; have b2 := (s.get! (p + 2)).toNat_lt; have b3 := (s.get! (p + 3)).toNat_lt
  unfold isLetter
  simp only [Utf8.decode, Nat.add_zero]
  split
  · simp only; omega
  · split
    · rename_i h1 h2
      simp only [Bool.and_eq_true, beq_iff_eq, decide_eq_true_eq] at h2
      split
      · simp only
        intro hl
        apply hg
        refine ⟨h2.2.1, ?_⟩
        unfold greekB
        split
        · omega
        · split <;> omega
      · simp [Utf8.runeError]
    · split
      · split
        · rename_i h4
          simp only [Bool.and_eq_true, decide_eq_true_eq] at h4
          simp only; omega
        · simp [Utf8.runeError]
      · split
        · split
          · rename_i h4
            simp only [Bool.and_eq_true, decide_eq_true_eq] at h4
            simp only; omega
          · simp [Utf8.runeError]
        · simp [Utf8.runeError]

/-- A Greek letter. -/
theorem decode_greek {s : ByteArray} {p : Nat} (h1 : p + 1 < s.size) (h0 : 0 ≤ greekB (s.get! p).toNat (s.get! (p + 1)).toNat) (h2 : greekB (s.get! p).toNat (s.get! (p + 1)).toNat ≤ 24) :
    Utf8.decode s p = ((greekB (s.get! p).toNat (s.get! (p + 1)).toNat).toNat + 945, 2) := by
  have hx : ((s.get! p).toNat = 206 ∧ 177 ≤ (s.get! (p + 1)).toNat ∧ (s.get! (p + 1)).toNat ≤ 191 ∧ greekB (s.get! p).toNat (s.get! (p + 1)).toNat = (s.get! (p + 1)).toNat - 177) ∨
      ((s.get! p).toNat = 207 ∧ 128 ≤ (s.get! (p + 1)).toNat ∧ (s.get! (p + 1)).toNat ≤ 191 ∧ greekB (s.get! p).toNat (s.get! (p + 1)).toNat = (s.get! (p + 1)).toNat - 128 + 15) := by
    unfold greekB at *
    split at h0
    · rename_i h; left; rw [if_pos h]; exact ⟨h.1, h.2.1, h.2.2, rfl⟩
    · rename_i hn
      split at h0
      · rename_i h; right; rw [if_neg hn, if_pos h]; exact ⟨h.1, h.2.1, h.2.2, rfl⟩
      · omega
  have hb := (s.get! (p + 1)).toNat_lt
  rw [decode_two h1 (by omega) (by omega) (by omega)]
  simp only [Prod.mk.injEq, and_true]
  omega

end Go.Proofs.YtmhjoomkeidcaaaDoor.L2
