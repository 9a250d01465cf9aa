/-
  What the machine reads at a place of a text, where a rune stands there and where none does.
-/
import Derived.Test.YtmhjoomkeidcaaaDoorL3Text
namespace Go.Proofs.YtmhjoomkeidcaaaDoor.L3
open Go.RowKit

/-- What is read at a place of a text. -/
theorem get_drop {s : ByteArray} {p : Nat} {a : UInt8} {r : List UInt8} (h : s.data.toList.drop p = a :: r) : p < s.size ∧ s.get! p = a ∧ s.data.toList.drop (p + 1) = r := by
  have hlt : p < s.data.toList.length := by
    rcases Nat.lt_or_ge p s.data.toList.length with h1 | h1
    · exact h1
    · rw [List.drop_of_length_le h1] at h; cases h
  rw [List.drop_eq_getElem_cons hlt] at h
  injection h with h1 h2
  have hlt2 : p < s.data.size := by simpa using hlt
  refine ⟨hlt2, ?_, h2⟩
  rw [← h1]
  exact (getElem!_pos s.data p hlt2).trans (by simp)

theorem drop_end {s : ByteArray} {p : Nat} (h : s.data.toList.drop p = []) : ¬ p < s.size := by
  have h1 := List.drop_eq_nil_iff.1 h
  rw [Array.length_toList] at h1
  exact Nat.not_lt.2 h1

theorem drop_cons {s : ByteArray} {p : Nat} (h : p < s.size) : s.data.toList.drop p = s.get! p :: s.data.toList.drop (p + 1) := by
  have hlt2 : p < s.data.size := h
  have hlt : p < s.data.toList.length := by simpa using hlt2
  rw [List.drop_eq_getElem_cons hlt]
  congr 1
  exact (by simp : s.data.toList[p] = s.data[p]).trans (getElem!_pos s.data p hlt2).symm

/-- The rune and its width, out of four bytes of which the later ones may lack. -/
def decN (a b c d : Nat) (x1 x2 x3 : Bool) : Nat × Nat :=
  if a < 0x80 then (a, 1)
  else if a / 32 == 6 && (x1 && b / 64 == 2) then
    if a % 32 * 64 + b % 64 ≥ 0x80 then (a % 32 * 64 + b % 64, 2) else (65533, 1)
  else if a / 16 == 14 && (x1 && b / 64 == 2) && (x2 && c / 64 == 2) then
    if (a % 16 * 4096 + b % 64 * 64 + c % 64 ≥ 0x800 && Utf8.valid ((a % 16 * 4096 + b % 64 * 64 + c % 64 : Nat) : Int)) then (a % 16 * 4096 + b % 64 * 64 + c % 64, 3) else (65533, 1)
  else if a / 8 == 30 && (x1 && b / 64 == 2) && (x2 && c / 64 == 2) && (x3 && d / 64 == 2) then
    if (a % 8 * 262144 + b % 64 * 4096 + c % 64 * 64 + d % 64 ≥ 0x10000 && Utf8.valid ((a % 8 * 262144 + b % 64 * 4096 + c % 64 * 64 + d % 64 : Nat) : Int)) then (a % 8 * 262144 + b % 64 * 4096 + c % 64 * 64 + d % 64, 4) else (65533, 1)
  else (65533, 1)

theorem decode_decN (s : ByteArray) (p : Nat) : Utf8.decode s p = decN (s.get! p).toNat (s.get! (p + 1)).toNat (s.get! (p + 2)).toNat (s.get! (p + 3)).toNat (decide (p + 1 < s.size)) (decide (p + 2 < s.size)) (decide (p + 3 < s.size)) := rfl

theorem valid_iff (n : Nat) : Utf8.valid (n : Int) = decide (n < 55296 ∨ 57344 ≤ n ∧ n ≤ 1114111) := by
  unfold Utf8.valid
  rw [Bool.eq_iff_iff]
  simp only [Bool.or_eq_true, Bool.and_eq_true, decide_eq_true_eq]
  omega

/-- The width of a rune. -/
def rlen (r : Nat) : Nat := if r ≤ 127 then 1 else if r ≤ 2047 then 2 else if r ≤ 65535 then 3 else 4

/-- What a rune is to be where one stands. -/
def Good (r n a b c : Nat) : Prop := n ≠ 0 ∧ rlen r = n ∧ (n = 1 → r = a) ∧ (r = 65533 → n = 3 ∧ a = 239 ∧ b = 191 ∧ c = 189) ∧ r ≤ 1114111 ∧ (r < 55296 ∨ 57344 ≤ r)

theorem dec_low (a b c d : Nat) (x1 x2 x3 : Bool) (h : a < 128) : decN a b c d x1 x2 x3 = (a, 1) := by unfold decN; rw [if_pos h]
theorem dec_two (a b c d : Nat) (x2 x3 : Bool) (h : 194 ≤ a) (h' : a ≤ 223) (h1 : 128 ≤ b) (h1' : b ≤ 191) : decN a b c d true x2 x3 = (a % 32 * 64 + b % 64, 2) := by
  unfold decN
  rw [if_neg (by omega), if_pos, if_pos (by omega)]
  simp only [Bool.and_eq_true, beq_iff_eq, Bool.true_and]; omega
theorem dec_three (a b c d : Nat) (x3 : Bool) (h : 224 ≤ a) (h' : a ≤ 239) (h1 : 128 ≤ b) (h1' : b ≤ 191) (h2 : 128 ≤ c) (h2' : c ≤ 191) (ha : a = 224 → 160 ≤ b) (hb : a = 237 → b ≤ 159) : decN a b c d true true x3 = (a % 16 * 4096 + b % 64 * 64 + c % 64, 3) := by
  unfold decN
  rw [if_neg (by omega), if_neg, if_pos, if_pos]
  · rw [valid_iff]; simp only [Bool.and_eq_true, decide_eq_true_eq, ge_iff_le]; omega
  · simp only [Bool.and_eq_true, beq_iff_eq, Bool.true_and]; omega
  · simp only [Bool.and_eq_true, beq_iff_eq, Bool.true_and]; omega
theorem dec_four (a b c d : Nat) (h : 240 ≤ a) (h' : a ≤ 244) (h1 : 128 ≤ b) (h1' : b ≤ 191) (h2 : 128 ≤ c) (h2' : c ≤ 191) (h3 : 128 ≤ d) (h3' : d ≤ 191) (ha : a = 240 → 144 ≤ b) (hb : a = 244 → b ≤ 143) : decN a b c d true true true = (a % 8 * 262144 + b % 64 * 4096 + c % 64 * 64 + d % 64, 4) := by
  unfold decN
  rw [if_neg (by omega), if_neg, if_neg, if_pos, if_pos]
  · rw [valid_iff]; simp only [Bool.and_eq_true, decide_eq_true_eq, ge_iff_le]; omega
  all_goals simp only [Bool.and_eq_true, beq_iff_eq, Bool.true_and]; omega

/-- Nothing is read as a rune where none stands. -/
theorem dec_none (a b c d : Nat) (x1 x2 x3 : Bool) (h0 : ¬ a < 128)
    (h1 : ¬ (194 ≤ a ∧ a ≤ 223 ∧ x1 = true ∧ 128 ≤ b ∧ b ≤ 191))
    (h2 : ¬ (224 ≤ a ∧ a ≤ 239 ∧ x1 = true ∧ 128 ≤ b ∧ b ≤ 191 ∧ x2 = true ∧ 128 ≤ c ∧ c ≤ 191 ∧ (a = 224 → 160 ≤ b) ∧ (a = 237 → b ≤ 159)))
    (h3 : ¬ (240 ≤ a ∧ a ≤ 244 ∧ x1 = true ∧ 128 ≤ b ∧ b ≤ 191 ∧ x2 = true ∧ 128 ≤ c ∧ c ≤ 191 ∧ x3 = true ∧ 128 ≤ d ∧ d ≤ 191 ∧ (a = 240 → 144 ≤ b) ∧ (a = 244 → b ≤ 143))) :
    decN a b c d x1 x2 x3 = (65533, 1) := by
  unfold decN
  rw [if_neg h0]
  split
  · rename_i k
    simp only [Bool.and_eq_true, beq_iff_eq] at k
    rw [if_neg]
    intro hh; apply h1
    exact ⟨by omega, by omega, k.2.1, by omega, by omega⟩
  · split
    · rename_i k
      simp only [Bool.and_eq_true, beq_iff_eq] at k
      rw [if_neg]
      rw [valid_iff]
      simp only [Bool.and_eq_true, decide_eq_true_eq, ge_iff_le]
      intro hh; apply h2
      exact ⟨by omega, by omega, k.1.2.1, by omega, by omega, k.2.1, by omega, by omega, by omega, by omega⟩
    · split
      · rename_i k
        simp only [Bool.and_eq_true, beq_iff_eq] at k
        rw [if_neg]
        rw [valid_iff]
        simp only [Bool.and_eq_true, decide_eq_true_eq, ge_iff_le]
        intro hh; apply h3
        exact ⟨by omega, by omega, k.1.1.2.1, by omega, by omega, k.1.2.1, by omega, by omega, k.2.1, by omega, by omega, by omega, by omega⟩
      · rfl

/-- When a rune stands, by its bytes. -/
theorem wide_two (a b : UInt8) (t : List UInt8) (h : 194 ≤ a.toNat) (h' : a.toNat ≤ 223) (h1 : 128 ≤ b.toNat) (h1' : b.toNat ≤ 191) : wide (a :: b :: t) = 2 := by
  have e : need a.toNat = (2, 128, 191) := by unfold need; rw [if_pos ⟨h, h'⟩]
  rw [wide_cons, if_neg (by omega), e]; simp [conts, h1, h1']
theorem need_three (a : Nat) (h : 224 ≤ a) (h' : a ≤ 239) : (need a).1 = 3 ∧ (∀ b, ((need a).2.1 ≤ b ∧ b ≤ (need a).2.2) ↔ (128 ≤ b ∧ b ≤ 191 ∧ (a = 224 → 160 ≤ b) ∧ (a = 237 → b ≤ 159))) := by
  unfold need
  rw [if_neg (by omega)]
  split
  · refine ⟨rfl, fun b => ?_⟩; simp only; omega
  · split
    · refine ⟨rfl, fun b => ?_⟩; simp only; omega
    · rw [if_pos ⟨h, h'⟩]; refine ⟨rfl, fun b => ?_⟩; simp only; omega
theorem need_four (a : Nat) (h : 240 ≤ a) (h' : a ≤ 244) : (need a).1 = 4 ∧ (∀ b, ((need a).2.1 ≤ b ∧ b ≤ (need a).2.2) ↔ (128 ≤ b ∧ b ≤ 191 ∧ (a = 240 → 144 ≤ b) ∧ (a = 244 → b ≤ 143))) := by
  unfold need
  rw [if_neg (by omega), if_neg (by omega), if_neg (by omega), if_neg (by omega)]
  split
  · refine ⟨rfl, fun b => ?_⟩; simp only; omega
  · split
    · refine ⟨rfl, fun b => ?_⟩; simp only; omega
    · rw [if_pos ⟨h, h'⟩]; refine ⟨rfl, fun b => ?_⟩; simp only; omega
theorem need_none (a : Nat) (h : ¬ (194 ≤ a ∧ a ≤ 244)) : (need a).1 = 0 := by
  unfold need
  rw [if_neg (by omega), if_neg (by omega), if_neg (by omega), if_neg (by omega), if_neg (by omega), if_neg (by omega), if_neg (by omega)]

/-- What is read where a rune stands, and where none does. -/
theorem decode_rune (s : ByteArray) (p : Nat) (a : UInt8) (t : List UInt8) (h : s.data.toList.drop p = a :: t) :
    (wide (a :: t) = 0 ∧ Utf8.decode s p = (65533, 1) ∧ (a :: t).take 3 ≠ [239, 191, 189]) ∨
    (∃ r, Utf8.decode s p = (r, wide (a :: t)) ∧ wide (a :: t) ≠ 0 ∧ rlen r = wide (a :: t) ∧ (wide (a :: t) = 1 → r = a.toNat) ∧ (r = 65533 → (a :: t).take 3 = [239, 191, 189]) ∧ r ≤ 1114111 ∧ (r < 55296 ∨ 57344 ≤ r)) := by
  obtain ⟨hp, ga, hd⟩ := get_drop h
  rw [decode_decN, ga]
  by_cases ha : a.toNat < 128
  · right
    rw [dec_low _ _ _ _ _ _ _ ha, wide_low ha]
    exact ⟨_, rfl, by omega, by unfold rlen; rw [if_pos (by omega)], fun _ => rfl, fun e => by omega, by omega, by omega⟩
  · cases t with
    | nil =>
      left
      have h1 := drop_end hd
      refine ⟨wide_one a ha, dec_none _ _ _ _ _ _ _ ha ?_ ?_ ?_, by simp⟩
      all_goals simp only [h1, decide_false]; simp
    | cons b t =>
      obtain ⟨hp1, gb, hd1⟩ := get_drop hd
      rw [gb, show decide (p + 1 < s.size) = true from decide_eq_true hp1]
      have ta := a.toNat_lt; have tb := b.toNat_lt
      by_cases h2 : 194 ≤ a.toNat ∧ a.toNat ≤ 223
      · have hn239 : a ≠ 239 := fun e => by rw [e] at h2; simp at h2
        by_cases h2b : 128 ≤ b.toNat ∧ b.toNat ≤ 191
        · right
          rw [wide_two a b t h2.1 h2.2 h2b.1 h2b.2, dec_two _ _ _ _ _ _ h2.1 h2.2 h2b.1 h2b.2]
          exact ⟨_, rfl, by omega, by unfold rlen; rw [if_neg (by omega), if_pos (by omega)], by omega, by omega, by omega, by omega⟩
        · left
          refine ⟨?_, dec_none _ _ _ _ _ _ _ ha (by omega) (by omega) (by omega), fun e => hn239 (by injection e)⟩
          have e : need a.toNat = (2, 128, 191) := by unfold need; rw [if_pos h2]
          rw [wide_cons, if_neg ha, e, if_neg]
          simp [conts]
          omega
      · by_cases h3 : 224 ≤ a.toNat ∧ a.toNat ≤ 239
        · obtain ⟨n3, hlo⟩ := need_three a.toNat h3.1 h3.2
          have hw : ∀ t, wide (a :: b :: t) = if conts 2 (need a.toNat).2.1 (need a.toNat).2.2 (b :: t) = true then 3 else 0 := fun t => by
            rw [wide_cons, if_neg ha, n3]
            by_cases hc : conts 2 (need a.toNat).2.1 (need a.toNat).2.2 (b :: t) = true
            · rw [if_pos ⟨by omega, hc⟩, if_pos hc]
            · rw [if_neg (fun hh => hc hh.2), if_neg hc]
          have hb := hlo b.toNat
          cases t with
          | nil =>
            left
            have h1 := drop_end hd1
            have h1' : decide (p + 2 < s.size) = false := decide_eq_false h1
            refine ⟨?_, dec_none _ _ _ _ _ _ _ ha (by omega) (by rw [h1']; simp) (by omega), by simp⟩
            rw [hw, if_neg]; simp [conts]
          | cons c t =>
            obtain ⟨hp2, gc, hd2⟩ := get_drop hd1
            rw [show p + 2 = p + 1 + 1 from rfl, gc, show decide (p + 1 + 1 < s.size) = true from decide_eq_true hp2]
            have tc := c.toNat_lt
            by_cases hok : (128 ≤ b.toNat ∧ b.toNat ≤ 191 ∧ (a.toNat = 224 → 160 ≤ b.toNat) ∧ (a.toNat = 237 → b.toNat ≤ 159)) ∧ 128 ≤ c.toNat ∧ c.toNat ≤ 191
            · right
              have hbb := hb.2 hok.1
              rw [hw, if_pos (by simp [conts, hbb.1, hbb.2, hok.2.1, hok.2.2]), dec_three _ _ _ _ _ h3.1 h3.2 hok.1.1 hok.1.2.1 hok.2.1 hok.2.2 hok.1.2.2.1 hok.1.2.2.2]
              refine ⟨_, rfl, by omega, by unfold rlen; rw [if_neg (by omega), if_neg (by omega), if_pos (by omega)], by omega, fun e => ?_, by omega, by omega⟩
              have e1 : a.toNat = 239 := by omega
              have e2 : b.toNat = 191 := by omega
              have e3 : c.toNat = 189 := by omega
              have f1 : a = 239 := UInt8.toNat_inj.1 e1
              have f2 : b = 191 := UInt8.toNat_inj.1 e2
              have f3 : c = 189 := UInt8.toNat_inj.1 e3
              rw [f1, f2, f3]; rfl
            · left
              refine ⟨?_, dec_none _ _ _ _ _ _ _ ha (by omega) (by omega) (by omega), fun e => hok ?_⟩
              · rw [hw, if_neg]
                intro hc
                simp only [conts, Bool.and_eq_true, decide_eq_true_eq, and_true] at hc
                exact hok ⟨hb.1 hc.1, hc.2⟩
              · simp at e
                obtain ⟨e1, e2, e3⟩ := e
                subst e1 e2 e3
                simp
        · by_cases h4 : 240 ≤ a.toNat ∧ a.toNat ≤ 244
          · have hn239 : a ≠ 239 := fun e => by rw [e] at h4; simp at h4
            obtain ⟨n4, hlo⟩ := need_four a.toNat h4.1 h4.2
            have hw : ∀ t, wide (a :: b :: t) = if conts 3 (need a.toNat).2.1 (need a.toNat).2.2 (b :: t) = true then 4 else 0 := fun t => by
              rw [wide_cons, if_neg ha, n4]
              by_cases hc : conts 3 (need a.toNat).2.1 (need a.toNat).2.2 (b :: t) = true
              · rw [if_pos ⟨by omega, hc⟩, if_pos hc]
              · rw [if_neg (fun hh => hc hh.2), if_neg hc]
            have hb := hlo b.toNat
            cases t with
            | nil =>
              left
              have h1' : decide (p + 2 < s.size) = false := decide_eq_false (drop_end hd1)
              refine ⟨?_, dec_none _ _ _ _ _ _ _ ha (by omega) (by omega) (by rw [h1']; simp), by simp⟩
              rw [hw, if_neg]; simp [conts]
            | cons c t =>
              obtain ⟨hp2, gc, hd2⟩ := get_drop hd1
              rw [show p + 2 = p + 1 + 1 from rfl, gc, show decide (p + 1 + 1 < s.size) = true from decide_eq_true hp2]
              have tc := c.toNat_lt
              cases t with
              | nil =>
                left
                have h1' : decide (p + 3 < s.size) = false := decide_eq_false (drop_end hd2)
                refine ⟨?_, dec_none _ _ _ _ _ _ _ ha (by omega) (by omega) (by rw [h1']; simp), fun e => hn239 (by injection e)⟩
                rw [hw, if_neg]; simp [conts]
              | cons d t =>
                obtain ⟨hp3, gd, hd3⟩ := get_drop hd2
                rw [show p + 3 = p + 1 + 1 + 1 from rfl, gd, show decide (p + 1 + 1 + 1 < s.size) = true from decide_eq_true hp3]
                have td := d.toNat_lt
                by_cases hok : (128 ≤ b.toNat ∧ b.toNat ≤ 191 ∧ (a.toNat = 240 → 144 ≤ b.toNat) ∧ (a.toNat = 244 → b.toNat ≤ 143)) ∧ (128 ≤ c.toNat ∧ c.toNat ≤ 191) ∧ 128 ≤ d.toNat ∧ d.toNat ≤ 191
                · right
                  have hbb := hb.2 hok.1
                  rw [hw, if_pos (by simp [conts, hbb.1, hbb.2, hok.2.1.1, hok.2.1.2, hok.2.2.1, hok.2.2.2]), dec_four _ _ _ _ h4.1 h4.2 hok.1.1 hok.1.2.1 hok.2.1.1 hok.2.1.2 hok.2.2.1 hok.2.2.2 hok.1.2.2.1 hok.1.2.2.2]
                  exact ⟨_, rfl, by omega, by unfold rlen; rw [if_neg (by omega), if_neg (by omega), if_neg (by omega)], by omega, by omega, by omega, by omega⟩
                · left
                  refine ⟨?_, dec_none _ _ _ _ _ _ _ ha (by omega) (by omega) (by omega), fun e => hn239 (by injection e)⟩
                  rw [hw, if_neg]
                  intro hc
                  simp only [conts, Bool.and_eq_true, decide_eq_true_eq, and_true] at hc
                  exact hok ⟨hb.1 hc.1, hc.2.1, hc.2.2⟩
          · left
            refine ⟨?_, dec_none _ _ _ _ _ _ _ ha (by omega) (by omega) (by omega), fun e => ?_⟩
            · rw [wide_cons, if_neg ha, need_none _ (by omega), if_neg]; simp
            · injection e with e1 _
              rw [e1] at h3; simp at h3

end Go.Proofs.YtmhjoomkeidcaaaDoor.L3
