/-
  Plain facts on how a label comes back of its text: by the runes of the text, and by its bytes two by two; both ways find the same label, or none.
-/
import Derived.Test.YtmhjoomkeidcaaaDoorL2Text
namespace Go.Proofs.YtmhjoomkeidcaaaDoor.L2
open Go.RowKit

theorem mod_succ_yes (c n : Nat) (h : c.testBit n = true) : c % 2 ^ (n + 1) = c % 2 ^ n + 2 ^ n := by
  rw [Nat.testBit_eq_decide_div_mod_eq, decide_eq_true_eq] at h
  rw [Nat.mod_pow_succ, h, Nat.mul_one]
theorem mod_succ_no (c n : Nat) (h : c.testBit n = false) : c % 2 ^ (n + 1) = c % 2 ^ n := by
  rw [Nat.testBit_eq_decide_div_mod_eq, decide_eq_false_iff_not] at h
  rw [Nat.mod_pow_succ, show c / 2 ^ n % 2 = 0 by omega, Nat.mul_zero, Nat.add_zero]
theorem or_pow (a n : Nat) (h : a < 2 ^ n) : a ||| 2 ^ n = a + 2 ^ n := by
  have := Nat.two_pow_add_eq_or_of_lt h 1
  rw [Nat.mul_one] at this
  rw [Nat.or_comm, ← this, Nat.add_comm]

/-- What a rune adds to the categories. -/
def addCat (r acc : Nat) : Nat := if 945 ≤ r ∧ r ≤ 960 then acc ||| 2 ^ (r - 945) else acc

/-- The categories of a text's runes, from a place on. -/
def catsFrom (s : ByteArray) : Nat → Nat → Nat → Nat
  | 0, _, acc => acc
  | f + 1, pos, acc => if pos < s.size then catsFrom s f (pos + (Utf8.decode s pos).2) (if pos = 0 then acc else addCat (Utf8.decode s pos).1 acc) else acc
def guessC (s : ByteArray) : Nat := catsFrom s s.size 0 0
def guessL (s : ByteArray) : Int := if 0 < s.size then (Utf8.decode s 0).1 - 48 else 0

theorem addCat_lt (r acc : Nat) (h : acc < 65536) : addCat r acc < 65536 := by
  unfold addCat
  split
  · have h1 : 2 ^ (r - 945) < 2 ^ 16 := Nat.pow_lt_pow_right (by omega) (by omega)
    exact Nat.or_lt_two_pow (n := 16) h h1
  · exact h

theorem catsFrom_lt (s : ByteArray) : ∀ f pos acc, acc < 65536 → catsFrom s f pos acc < 65536 := by
  intro f
  induction f with
  | zero => intro pos acc h; exact h
  | succ f ih =>
    intro pos acc h
    simp only [catsFrom]
    split
    · apply ih
      split
      · exact h
      · exact addCat_lt _ _ h
    · exact h
theorem guessC_lt (s : ByteArray) : guessC s < 65536 := catsFrom_lt s _ _ _ (by omega)

theorem decode_sign {s : ByteArray} {p n : Nat} {r : List UInt8} (hn : n < 16) (h : s.data.toList.drop p = signOf n ++ r) :
    p < s.size ∧ Utf8.decode s p = (945 + n, 2) ∧ s.data.toList.drop (p + 2) = r := by
  obtain ⟨h1, h2, h3⟩ := get_drop (show s.data.toList.drop p = ((945 + n) / 64 + 192).toUInt8 :: ((945 + n) % 64 + 128).toUInt8 :: r from h)
  obtain ⟨h4, h5, h6⟩ := get_drop h3
  refine ⟨h1, ?_, h6⟩
  have e1 : (s.get! p).toNat = (945 + n) / 64 + 192 := by rw [h2, toUInt8_toNat _ (by omega)]
  have e2 : (s.get! (p + 1)).toNat = (945 + n) % 64 + 128 := by rw [h5, toUInt8_toNat _ (by omega)]
  rw [decode_two h4 (by omega) (by omega) (by omega)]
  simp only [Prod.mk.injEq, and_true]
  omega

theorem catsFrom_signs (s : ByteArray) (c : Nat) : ∀ k n p acc fuel, s.data.toList.drop p = signsFrom c k n ++ [125] → 0 < p → n + k = 16 → acc = c % 2 ^ n → s.size ≤ p + fuel →
    catsFrom s fuel p acc = c % 2 ^ 16 := by
  intro k
  induction k with
  | zero =>
    intro n p acc fuel hd hp hn ha hf
    have e : n = 16 := by omega
    subst e
    obtain ⟨h1, h2, h3⟩ := get_drop (by simpa [signsFrom] using hd)
    obtain ⟨f, rfl⟩ : ∃ f, fuel = f + 1 := ⟨fuel - 1, by omega⟩
    have hdec : Utf8.decode s p = (125, 1) := by rw [decode_one (by rw [h2]; decide), h2]; rfl
    have hz : ¬ p = 0 := by omega
    simp only [catsFrom, if_pos h1, hdec, if_neg hz]
    have hend := drop_end h3
    rw [show addCat 125 acc = acc from rfl]
    cases f with
    | zero => exact ha
    | succ f => simp only [catsFrom, if_neg hend]; exact ha
  | succ k ih =>
    intro n p acc fuel hd hp hn ha hf
    simp only [signsFrom] at hd
    by_cases hb : c.testBit n = true
    · rw [if_pos hb, List.append_assoc] at hd
      obtain ⟨h1, h2, h3⟩ := decode_sign (by omega) hd
      obtain ⟨f, rfl⟩ : ∃ f, fuel = f + 1 := ⟨fuel - 1, by omega⟩
      have hz : ¬ p = 0 := by omega
      simp only [catsFrom, if_pos h1, h2, if_neg hz]
      apply ih (n + 1) (p + 2) _ f h3 (by omega) (by omega) _ (by omega)
      rw [addCat, if_pos (by omega), mod_succ_yes c n hb, ha, show 945 + n - 945 = n by omega]
      exact or_pow _ _ (Nat.mod_lt _ (Nat.two_pow_pos n))
    · have hb' : c.testBit n = false := by simpa using hb
      rw [if_neg hb, List.nil_append] at hd
      exact ih (n + 1) p acc fuel hd hp (by omega) (by rw [mod_succ_no c n hb', ha]) hf

theorem textB_list (l c : Nat) : (textB l c).data.toList = textOf l c := by simp [textB]

/-- A label comes back of its text by the runes. -/
theorem guess_text (l c : Nat) (hl : l ≤ 7) (hc : c < 65536) : guessL (textB l c) = l ∧ guessC (textB l c) = c := by
  have d0 : (textB l c).data.toList.drop 0 = (48 + l).toUInt8 :: 123 :: (signsFrom c 16 0 ++ [125]) := by rw [textB_list]; rfl
  obtain ⟨h1, h2, h3⟩ := get_drop d0
  obtain ⟨h4, h5, h6⟩ := get_drop h3
  have e0 : ((textB l c).get! 0).toNat = 48 + l := by rw [h2, toUInt8_toNat _ (by omega)]
  have hd0 : Utf8.decode (textB l c) 0 = (48 + l, 1) := by rw [decode_one (by omega), e0]
  have hd1 : Utf8.decode (textB l c) 1 = (123, 1) := by rw [decode_one (by rw [h5]; decide), h5]; rfl
  constructor
  · unfold guessL
    rw [if_pos h1, hd0]
    simp only; omega
  · unfold guessC
    obtain ⟨f, hf⟩ : ∃ f, (textB l c).size = f + 2 := ⟨(textB l c).size - 2, by omega⟩
    rw [hf]
    simp only [catsFrom, if_pos h1, hd0, Nat.zero_add, if_pos h4, hd1, if_true]
    rw [if_neg (by omega), show addCat 123 0 = 0 from rfl]
    rw [catsFrom_signs (textB l c) c 16 0 2 0 f h6 (by omega) rfl (by simp [Nat.mod_one]) (by omega)]
    exact Nat.mod_eq_of_lt hc

/-- The categories of signs two bytes by two, each behind the last. -/
def pairs : List UInt8 → Nat → Nat → Option Nat
  | a :: b :: rest, m, cats => if greekB a.toNat b.toNat < m ∨ 15 < greekB a.toNat b.toNat then none else pairs rest ((greekB a.toNat b.toNat).toNat + 1) (cats + 2 ^ (greekB a.toNat b.toNat).toNat)
  | _, _, cats => some cats

theorem signs_skip (c : Nat) : ∀ d k n, (∀ j, n ≤ j → j < n + d → c.testBit j = false) → signsFrom c (k + d) n = signsFrom c k (n + d) := by
  intro d
  induction d with
  | zero => intro k n _; rfl
  | succ d ih =>
    intro k n h
    have h0 := h n (Nat.le_refl _) (by omega)
    rw [show k + (d + 1) = (k + d) + 1 by omega]
    simp only [signsFrom, h0, Bool.false_eq_true, if_false, List.nil_append]
    rw [ih k (n + 1) (fun j h1 h2 => h j (by omega) (by omega)), show n + 1 + d = n + (d + 1) by omega]

theorem signs_none (c k n : Nat) (h : c < 2 ^ n) : signsFrom c k n = [] := by
  have := signs_skip c k 0 n (fun j h1 _ => Nat.testBit_lt_two_pow (Nat.lt_of_lt_of_le h (Nat.pow_le_pow_right (by omega) h1)))
  rw [Nat.zero_add] at this
  rw [this]; rfl

theorem pairs_text : ∀ (xs : List UInt8) (m cats c : Nat), pairs xs m cats = some c → m ≤ 16 → cats < 2 ^ m → xs.length % 2 = 1 → ∃ x, xs = signsFrom c (16 - m) m ++ [x] ∧ c % 2 ^ m = cats ∧ c < 65536
  | [], _, _, _, _, _, _, ho => by simp at ho
  | [x], m, cats, c, h, hm, hc, _ => by
    simp only [pairs, Option.some.injEq] at h
    subst h
    refine ⟨x, by rw [signs_none _ _ _ hc]; rfl, Nat.mod_eq_of_lt hc, ?_⟩
    exact Nat.lt_of_lt_of_le hc (Nat.pow_le_pow_right (n := 2) (by omega) hm)
  | a :: b :: rest, m, cats, c, h, hm, hc, ho => by
    simp only [pairs] at h
    split at h
    · cases h
    · rename_i hg
      obtain ⟨n, hn⟩ : ∃ n : Nat, greekB a.toNat b.toNat = n := ⟨(greekB a.toNat b.toNat).toNat, by omega⟩
      rw [hn] at h hg
      simp only [Int.toNat_natCast] at h
      have h1 : m ≤ n := by omega
      have h2 : n ≤ 15 := by omega
      have hlt : cats < 2 ^ n := Nat.lt_of_lt_of_le hc (Nat.pow_le_pow_right (by omega) h1)
      obtain ⟨x, e1, e2, e3⟩ := pairs_text rest (n + 1) (cats + 2 ^ n) c h (by omega) (by rw [Nat.pow_succ]; omega) (by simp at ho; omega)
      have bits : ∀ j, j < n + 1 → c.testBit j = (cats + 2 ^ n).testBit j := by
        intro j hj
        rw [← e2, Nat.testBit_mod_two_pow]
        simp [hj]
      have hbn : c.testBit n = true := by
        rw [bits n (by omega), Nat.add_comm, Nat.testBit_two_pow_add_eq, Nat.testBit_lt_two_pow hlt]; rfl
      have hbz : ∀ j, m ≤ j → j < n → c.testBit j = false := by
        intro j hj1 hj2
        rw [bits j (by omega), Nat.add_comm, Nat.testBit_two_pow_add_gt hj2]
        exact Nat.testBit_lt_two_pow (Nat.lt_of_lt_of_le hc (Nat.pow_le_pow_right (by omega) hj1))
      refine ⟨x, ?_, ?_, e3⟩
      · have es := signs_skip c (n - m) (16 - (n + 1) + 1) m (fun j h3 h4 => hbz j h3 (by omega))
        rw [show 16 - (n + 1) + 1 + (n - m) = 16 - m by omega, show m + (n - m) = n by omega] at es
        rw [es]
        simp only [signsFrom, hbn, if_true]
        rw [← sign_greek a b n hn (by omega), List.append_assoc, ← e1]
        rfl
      · have hdvd : 2 ^ m ∣ 2 ^ (n + 1) := Nat.pow_dvd_pow 2 (by omega)
        rw [← Nat.mod_mod_of_dvd c hdvd, e2]
        have hd2 : 2 ^ m ∣ 2 ^ n := Nat.pow_dvd_pow 2 h1
        rw [Nat.add_mod, Nat.mod_eq_zero_of_dvd hd2, Nat.add_zero, Nat.mod_mod, Nat.mod_eq_of_lt hc]

theorem text_pairs (c : Nat) : ∀ k n m, n + k = 16 → m ≤ n → pairs (signsFrom c k n ++ [125]) m (c % 2 ^ n) = some (c % 2 ^ 16) := by
  intro k
  induction k with
  | zero =>
    intro n m hn _
    have e : n = 16 := by omega
    subst e
    rfl
  | succ k ih =>
    intro n m hn hm
    by_cases hb : c.testBit n = true
    · have hg := greek_sign n (by omega)
      simp only [signsFrom, hb, if_true, signOf, List.cons_append, List.nil_append, pairs, hg]
      rw [if_neg (by omega)]
      simp only [Int.toNat_natCast]
      rw [← mod_succ_yes c n hb]
      exact ih (n + 1) (n + 1) (by omega) (Nat.le_refl _)
    · have hb' : c.testBit n = false := by simpa using hb
      simp only [signsFrom, hb', Bool.false_eq_true, if_false, List.nil_append]
      rw [← mod_succ_no c n hb']
      exact ih (n + 1) m (by omega) (by omega)

theorem signs_length (c : Nat) : ∀ k n, (signsFrom c k n).length % 2 = 0 ∧ (signsFrom c k n).length ≤ 2 * k := by
  intro k
  induction k with
  | zero => intro n; simp [signsFrom]
  | succ k ih =>
    intro n
    have := ih (n + 1)
    simp only [signsFrom, List.length_append]
    split
    · simp only [signOf, List.length_cons, List.length_nil]; omega
    · simp only [List.length_nil]; omega

/-- May a text be a label's, as far as its ends tell? -/
def refOK (s : ByteArray) : Bool := decide (3 ≤ s.size ∧ s.size ≤ 35 ∧ 48 ≤ (s.get! 0).toNat ∧ (s.get! 0).toNat ≤ 55 ∧ (s.get! 1).toNat = 123 ∧ (s.get! (s.size - 1)).toNat = 125 ∧ s.size % 2 = 1)

def refRead (s : ByteArray) : Option (Nat × Nat) :=
  if refOK s then (pairs (s.data.toList.drop 2) 0 0).map fun c => ((s.get! 0).toNat - 48, c) else none

theorem toNat_inj8 {a b : UInt8} (h : a.toNat = b.toNat) : a = b := UInt8.toNat_inj.1 h

theorem refRead_text (s : ByteArray) (l c : Nat) (h : refRead s = some (l, c)) : l ≤ 7 ∧ c < 65536 ∧ s = textB l c := by
  unfold refRead at h
  split at h
  · rename_i hok
    obtain ⟨h1, h2, h3, h4, h5, h6, h7⟩ := of_decide_eq_true hok
    cases hp : pairs (s.data.toList.drop 2) 0 0 with
    | none => rw [hp] at h; cases h
    | some d =>
      rw [hp] at h
      simp only [Option.map_some, Option.some.injEq, Prod.mk.injEq] at h
      obtain ⟨rfl, rfl⟩ := h
      have hlen : s.data.toList.length = s.size := by rw [Array.length_toList]; rfl
      obtain ⟨x, e1, _, e3⟩ := pairs_text _ 0 0 d hp (by omega) (by omega) (by rw [List.length_drop, hlen]; omega)
      refine ⟨by omega, e3, ?_⟩
      have d0 := drop_cons (s := s) (p := 0) (by omega)
      have d1 := drop_cons (s := s) (p := 0 + 1) (by omega)
      rw [d1] at d0
      have hx : x = 125 := by
        have hl2 : (signsFrom d 16 0).length = s.size - 3 := by
          have := congrArg List.length e1
          rw [List.length_drop, hlen, List.length_append] at this
          simp only [List.length_cons, List.length_nil] at this
          show (signsFrom d (16 - 0) 0).length = _
          omega
        have hd : s.data.toList.drop (2 + (s.size - 3)) = [x] := by
          rw [← List.drop_drop, e1]
          rw [show s.size - 3 = (signsFrom d (16 - 0) 0).length from hl2.symm, List.drop_left]
        obtain ⟨_, g2, _⟩ := get_drop hd
        rw [show 2 + (s.size - 3) = s.size - 1 by omega] at g2
        exact toNat_inj8 (by rw [← g2, h6]; rfl)
      have hs : s.data.toList = textOf ((s.get! 0).toNat - 48) d := by
        rw [List.drop_zero] at d0
        rw [d0]
        unfold textOf
        rw [e1, hx]
        congr 1
        · exact toNat_inj8 (by rw [toUInt8_toNat _ (by omega)]; omega)
        · congr 1
          exact toNat_inj8 h5
      show s = ⟨(textOf ((s.get! 0).toNat - 48) d).toArray⟩
      rw [← hs]
  · cases h

theorem refRead_of (l c : Nat) (hl : l ≤ 7) (hc : c < 65536) : refRead (textB l c) = some (l, c) := by
  have d0 : (textB l c).data.toList.drop 0 = (48 + l).toUInt8 :: 123 :: (signsFrom c 16 0 ++ [125]) := by rw [textB_list]; rfl
  obtain ⟨h1, h2, h3⟩ := get_drop d0
  obtain ⟨h4, h5, h6⟩ := get_drop h3
  have e0 : ((textB l c).get! 0).toNat = 48 + l := by rw [h2, toUInt8_toNat _ (by omega)]
  have hlen : (textB l c).size = (signsFrom c 16 0).length + 3 := by
    have : (textB l c).data.toList.length = (textB l c).size := by rw [Array.length_toList]; rfl
    rw [← this, textB_list]; simp [textOf]
  have hsl := signs_length c 16 0
  have hd : (textB l c).data.toList.drop (2 + (signsFrom c 16 0).length) = [125] := by
    rw [← List.drop_drop, show (2 : Nat) = 0 + 1 + 1 from rfl, h6, List.drop_left]
  obtain ⟨_, g2, _⟩ := get_drop hd
  have hok : refOK (textB l c) = true := by
    refine decide_eq_true ⟨by omega, by omega, by omega, by omega, by rw [show (1 : Nat) = 0 + 1 from rfl, h5]; rfl, ?_, by omega⟩
    rw [show (textB l c).size - 1 = 2 + (signsFrom c 16 0).length by omega, g2]; rfl
  unfold refRead
  rw [if_pos hok, show (2 : Nat) = 0 + 1 + 1 from rfl, h6]
  have := text_pairs c 16 0 0 rfl (Nat.le_refl _)
  rw [show c % 2 ^ 0 = 0 by simp [Nat.mod_one]] at this
  rw [this]
  simp only [Option.map_some, e0, Nat.mod_eq_of_lt hc]
  congr 2; omega

/-- The label of a text, as it is guessed by the runes and then printed. -/
def signRead (s : ByteArray) : Option (Nat × Nat) :=
  if 0 ≤ guessL s ∧ guessL s ≤ 7 ∧ textB (guessL s).toNat (guessC s) = s then some ((guessL s).toNat, guessC s) else none

theorem signRead_text (s : ByteArray) (l c : Nat) (h : signRead s = some (l, c)) : l ≤ 7 ∧ c < 65536 ∧ s = textB l c := by
  unfold signRead at h
  split at h
  · rename_i hg
    simp only [Option.some.injEq, Prod.mk.injEq] at h
    obtain ⟨rfl, rfl⟩ := h
    exact ⟨by omega, guessC_lt s, hg.2.2.symm⟩
  · cases h

theorem signRead_of (l c : Nat) (hl : l ≤ 7) (hc : c < 65536) : signRead (textB l c) = some (l, c) := by
  obtain ⟨h1, h2⟩ := guess_text l c hl hc
  unfold signRead
  rw [h1, h2]
  simp only [Int.toNat_natCast, and_true]
  rw [if_pos (by omega)]

/-- Both ways of reading find the same. -/
theorem signRead_eq (s : ByteArray) : signRead s = refRead s := by
  cases hr : refRead s with
  | some p =>
    obtain ⟨l, c⟩ := p
    obtain ⟨h1, h2, rfl⟩ := refRead_text s l c hr
    exact signRead_of l c h1 h2
  | none =>
    cases hs : signRead s with
    | none => rfl
    | some p =>
      obtain ⟨l, c⟩ := p
      obtain ⟨h1, h2, rfl⟩ := signRead_text s l c hs
      rw [refRead_of l c h1 h2] at hr
      cases hr

theorem textB_inj (l c l' c' : Nat) (hl : l ≤ 7) (hc : c < 65536) (hl' : l' ≤ 7) (hc' : c' < 65536) (h : textB l c = textB l' c') : l = l' ∧ c = c' := by
  have h1 := signRead_of l c hl hc
  have h2 := signRead_of l' c' hl' hc'
  rw [h, h2] at h1
  simp only [Option.some.injEq, Prod.mk.injEq] at h1
  exact ⟨h1.1.symm, h1.2.symm⟩

end Go.Proofs.YtmhjoomkeidcaaaDoor.L2
