/-
  Plain facts on texts: how wide the rune is that a text begins with, the runes of a text one by one, and what the machine reads at a place of it.
-/
import Derived.Lib.RuneBytes
import Derived.Laws.RangeAny
namespace Go.Proofs.YtmhjoomkeidcaaaDoor.L3
open Go.RowKit

/-- How many bytes a rune has whose first byte is a, and what its second byte may be; 0: no rune begins so. -/
def need (a : Nat) : Nat × Nat × Nat :=
  if 194 ≤ a ∧ a ≤ 223 then (2, 128, 191)
  else if a = 224 then (3, 160, 191)
  else if a = 237 then (3, 128, 159)
  else if 224 ≤ a ∧ a ≤ 239 then (3, 128, 191)
  else if a = 240 then (4, 144, 191)
  else if a = 244 then (4, 128, 143)
  else if 240 ≤ a ∧ a ≤ 244 then (4, 128, 191)
  else (0, 128, 191)

/-- Do n bytes stand there, the first of them from lo to hi, the others from 128 to 191? -/
def conts : Nat → Nat → Nat → List UInt8 → Bool
  | 0, _, _, _ => true
  | _ + 1, _, _, [] => false
  | n + 1, lo, hi, b :: t => decide (lo ≤ b.toNat) && decide (b.toNat ≤ hi) && conts n 128 191 t

/-- How many bytes the rune has that a text begins with; 0: it begins with none. -/
def wide : List UInt8 → Nat
  | [] => 0
  | a :: t => if a.toNat < 128 then 1 else if (need a.toNat).1 ≠ 0 ∧ conts ((need a.toNat).1 - 1) (need a.toNat).2.1 (need a.toNat).2.2 t = true then (need a.toNat).1 else 0

theorem conts_append : ∀ (n lo hi : Nat) (t u : List UInt8), conts n lo hi t = true → conts n lo hi (t ++ u) = true
  | 0, _, _, _, _, _ => rfl
  | _ + 1, _, _, [], _, h => by simp [conts] at h
  | n + 1, lo, hi, b :: t, u, h => by
    simp only [conts, List.cons_append, Bool.and_eq_true] at h ⊢
    exact ⟨h.1, conts_append n 128 191 t u h.2⟩
theorem conts_length : ∀ (n lo hi : Nat) (t : List UInt8), conts n lo hi t = true → n ≤ t.length
  | 0, _, _, _, _ => Nat.zero_le _
  | _ + 1, _, _, [], h => by simp [conts] at h
  | n + 1, lo, hi, b :: t, h => by
    simp only [conts, Bool.and_eq_true] at h
    have := conts_length n 128 191 t h.2
    simp; omega
theorem conts_take : ∀ (n lo hi : Nat) (t : List UInt8), conts n lo hi t = true → conts n lo hi (t.take n) = true
  | 0, _, _, _, _ => rfl
  | _ + 1, _, _, [], h => by simp [conts] at h
  | n + 1, lo, hi, b :: t, h => by
    simp only [conts, List.take_succ_cons, Bool.and_eq_true] at h ⊢
    exact ⟨h.1, conts_take n 128 191 t h.2⟩
/-- A byte below 128 goes on with no rune. -/
theorem conts_break : ∀ (n lo hi : Nat) (t : List UInt8) (x : UInt8) (u : List UInt8), x.toNat < 128 → 128 ≤ lo → conts n lo hi t = false → conts n lo hi (t ++ x :: u) = false
  | 0, _, _, _, _, _, _, _, h => by simp [conts] at h
  | n + 1, lo, hi, [], x, u, hx, hl, _ => by
    have : decide (lo ≤ x.toNat) = false := by simp; omega
    simp [conts, this]
  | n + 1, lo, hi, b :: t, x, u, hx, hl, h => by
    simp only [conts, List.cons_append, Bool.and_eq_false_iff] at h ⊢
    rcases h with h | h
    · exact Or.inl h
    · exact Or.inr (conts_break n 128 191 t x u hx (by omega) h)
/-- Bytes that go on with a rune are 128 or more. -/
theorem conts_high : ∀ (n lo hi : Nat) (t : List UInt8), 128 ≤ lo → conts n lo hi t = true → ∀ x ∈ t.take n, 128 ≤ x.toNat
  | 0, _, _, _, _, _ => by simp
  | _ + 1, _, _, [], _, h => by simp
  | n + 1, lo, hi, b :: t, hl, h => by
    simp only [conts, Bool.and_eq_true, decide_eq_true_eq] at h
    simp only [List.take_succ_cons, List.mem_cons, forall_eq_or_imp]
    exact ⟨by omega, conts_high n 128 191 t (by omega) h.2⟩

theorem need_lo (a : Nat) : 128 ≤ (need a).2.1 := by
  unfold need
  repeat' split
  all_goals simp
theorem need_one (a : Nat) : (need a).1 ≠ 0 → 2 ≤ (need a).1 ∧ (need a).1 ≤ 4 := by
  unfold need
  repeat' split
  all_goals simp

theorem wide_cons (a : UInt8) (t : List UInt8) : wide (a :: t) = if a.toNat < 128 then 1 else if (need a.toNat).1 ≠ 0 ∧ conts ((need a.toNat).1 - 1) (need a.toNat).2.1 (need a.toNat).2.2 t = true then (need a.toNat).1 else 0 := rfl
theorem wide_nil : wide [] = 0 := rfl
theorem wide_low {a : UInt8} {t : List UInt8} (h : a.toNat < 128) : wide (a :: t) = 1 := by simp [wide, h]
theorem wide_le4 (l : List UInt8) : wide l ≤ 4 := by
  cases l with
  | nil => simp [wide]
  | cons a t =>
    simp only [wide_cons]
    split
    · omega
    · split
      · rename_i h; have := need_one _ h.1; omega
      · omega
theorem wide_length (l : List UInt8) : wide l ≤ l.length := by
  cases l with
  | nil => simp [wide]
  | cons a t =>
    simp only [wide_cons]
    split
    · simp
    · split
      · rename_i h; have := conts_length _ _ _ _ h.2; simp; omega
      · omega
theorem wide_append (l u : List UInt8) (h : wide l ≠ 0) : wide (l ++ u) = wide l := by
  cases l with
  | nil => simp [wide] at h
  | cons a t =>
    simp only [List.cons_append]
    simp only [wide_cons] at h ⊢
    split
    · rfl
    · rename_i ha
      rw [if_neg ha] at h
      split at h
      · rename_i hc
        rw [if_pos ⟨hc.1, conts_append _ _ _ _ u hc.2⟩, if_pos hc]
      · exact (h rfl).elim
theorem wide_break (l u : List UInt8) (x : UInt8) (hx : x.toNat < 128) (hl : l ≠ []) : wide (l ++ x :: u) = wide l := by
  by_cases h : wide l = 0
  · cases l with
    | nil => exact (hl rfl).elim
    | cons a t =>
      rw [h]
      simp only [List.cons_append]
      simp only [wide_cons] at h ⊢
      split at h
      · omega
      · rename_i ha
        rw [if_neg ha]
        split at h
        · rename_i hc; exact (hc.1 h).elim
        · rename_i hc
          rw [if_neg]
          intro hh
          apply hc
          refine ⟨hh.1, ?_⟩
          cases hcc : conts ((need a.toNat).1 - 1) (need a.toNat).2.1 (need a.toNat).2.2 t
          · rw [conts_break _ _ _ _ _ _ hx (need_lo _) hcc] at hh; exact hh.2
          · rfl
  · exact wide_append l _ h
theorem wide_take (l : List UInt8) (h : wide l ≠ 0) : wide (l.take (wide l)) = wide l := by
  cases l with
  | nil => simp [wide] at h
  | cons a t =>
    by_cases ha : a.toNat < 128
    · rw [wide_low ha]; simp [wide, ha]
    · by_cases hc : (need a.toNat).1 ≠ 0 ∧ conts ((need a.toNat).1 - 1) (need a.toNat).2.1 (need a.toNat).2.2 t = true
      · have e : wide (a :: t) = (need a.toNat).1 := by simp only [wide_cons]; rw [if_neg ha, if_pos hc]
        rw [e]
        obtain ⟨n, hn⟩ : ∃ n, (need a.toNat).1 = n + 1 := ⟨(need a.toNat).1 - 1, by have := hc.1; omega⟩
        rw [hn, List.take_succ_cons]
        simp only [wide_cons]
        rw [if_neg ha, if_pos, hn]
        refine ⟨hc.1, ?_⟩
        have := conts_take _ _ _ _ hc.2
        rw [hn] at this ⊢
        exact this
      · exfalso; apply h; simp only [wide_cons]; rw [if_neg ha, if_neg hc]
theorem wide_one (a : UInt8) (h : ¬ a.toNat < 128) : wide [a] = 0 := by
  simp only [wide_cons]
  rw [if_neg h, if_neg]
  intro hh
  have := need_one _ hh.1
  obtain ⟨n, hn⟩ : ∃ n, (need a.toNat).1 - 1 = n + 1 := ⟨(need a.toNat).1 - 2, by omega⟩
  rw [hn] at hh
  simp [conts] at hh
theorem wide_head (a : UInt8) (t : List UInt8) (h : 1 < wide (a :: t)) : ¬ a.toNat < 128 := by
  intro ha; rw [wide_low ha] at h; omega

/-- How far the first rune of a text goes, or the byte that belongs to none. -/
def far (l : List UInt8) : Nat := max 1 (wide l)
theorem far_pos (l : List UInt8) : 1 ≤ far l := by unfold far; omega
theorem far_le (a : UInt8) (t : List UInt8) : far (a :: t) ≤ t.length + 1 := by
  have := wide_length (a :: t)
  simp at this
  unfold far; omega

/-- A text's runes, one by one, each with its bytes; a byte that belongs to none stands alone. -/
def chopN : Nat → List UInt8 → List (List UInt8)
  | 0, _ => []
  | _ + 1, [] => []
  | n + 1, a :: t => (a :: t).take (far (a :: t)) :: chopN n ((a :: t).drop (far (a :: t)))
def chop (l : List UInt8) : List (List UInt8) := chopN l.length l
theorem chopN_len : ∀ (n m : Nat) (l : List UInt8), l.length ≤ n → l.length ≤ m → chopN n l = chopN m l
  | 0, m, l, h, _ => by
    have : l = [] := List.length_eq_zero_iff.1 (by omega)
    subst this
    cases m <;> rfl
  | n + 1, 0, l, _, h => by
    have : l = [] := List.length_eq_zero_iff.1 (by omega)
    subst this
    rfl
  | n + 1, m + 1, [], _, _ => rfl
  | n + 1, m + 1, a :: t, h1, h2 => by
    have := far_pos (a :: t)
    simp only [chopN]
    rw [chopN_len n m _ (by simp only [List.length_drop, List.length_cons] at h1 ⊢; omega) (by simp only [List.length_drop, List.length_cons] at h2 ⊢; omega)]

theorem chop_nil : chop [] = [] := rfl
theorem chop_cons (l : List UInt8) (h : l ≠ []) : chop l = l.take (far l) :: chop (l.drop (far l)) := by
  cases l with
  | nil => exact (h rfl).elim
  | cons a t =>
    have := far_pos (a :: t)
    show chopN (t.length + 1) (a :: t) = _
    simp only [chopN]
    congr 1
    exact chopN_len _ _ _ (by simp only [List.length_drop, List.length_cons]; omega) (Nat.le_refl _)

theorem far_break (l u : List UInt8) (x : UInt8) (hx : x.toNat < 128) (hl : l ≠ []) : far (l ++ x :: u) = far l := by
  unfold far; rw [wide_break l u x hx hl]

/-- A byte below 128 parts a text. -/
theorem chop_break (x : UInt8) (hx : x.toNat < 128) (u : List UInt8) : ∀ (n : Nat) (l : List UInt8), l.length ≤ n → chop (l ++ x :: u) = chop l ++ [x] :: chop u := by
  intro n
  induction n with
  | zero =>
    intro l hl
    have : l = [] := List.length_eq_zero_iff.1 (by omega)
    subst this
    rw [List.nil_append, chop_nil, List.nil_append, chop_cons _ (by simp)]
    have : far (x :: u) = 1 := by unfold far; rw [wide_low hx]; rfl
    rw [this]; rfl
  | succ n ih =>
    intro l hl
    cases l with
    | nil => exact ih [] (by simp)
    | cons a t =>
      have hf := far_le a t
      have hf1 := far_pos (a :: t)
      rw [chop_cons ((a :: t) ++ x :: u) (by simp), far_break _ _ _ hx (by simp), chop_cons (a :: t) (by simp)]
      rw [List.take_append_of_le_length (by simp; omega), List.drop_append_of_le_length (by simp; omega)]
      rw [ih _ (by simp at hl ⊢; omega)]
      rfl
theorem chop_at (x : UInt8) (hx : x.toNat < 128) (l u : List UInt8) : chop (l ++ x :: u) = chop l ++ [x] :: chop u := chop_break x hx u l.length l (Nat.le_refl _)

/-- Is what stands at one place of a text a rune that may be? -/
def okC (c : List UInt8) : Bool := match c with
  | [] => false
  | a :: _ => decide (wide c ≠ 0) && !(decide (a.toNat < 32) && decide (a.toNat ≠ 10) || decide (a.toNat = 127))

theorem okC_wide {c : List UInt8} (h : okC c = true) : wide c ≠ 0 := by
  cases c with
  | nil => cases h
  | cons a t => simp only [okC, Bool.and_eq_true, decide_eq_true_eq] at h; exact h.1

/-- What stands first is as wide as its own bytes say. -/
theorem take_wide (l : List UInt8) (h : l ≠ []) : wide (l.take (far l)) = wide l := by
  by_cases hw : wide l = 0
  · have hf : far l = 1 := by unfold far; omega
    rw [hf, hw]
    cases l with
    | nil => exact (h rfl).elim
    | cons a t =>
      have ha : ¬ a.toNat < 128 := fun ha => by rw [wide_low ha] at hw; omega
      exact wide_one a ha
  · have hf : far l = wide l := by unfold far; omega
    rw [hf]; exact wide_take l hw

theorem chop_join : ∀ (n : Nat) (l : List UInt8), l.length ≤ n → (chop l).flatten = l := by
  intro n
  induction n with
  | zero =>
    intro l hl
    have : l = [] := List.length_eq_zero_iff.1 (by omega)
    subst this; rw [chop_nil]; rfl
  | succ n ih =>
    intro l hl
    cases l with
    | nil => rw [chop_nil]; rfl
    | cons a t =>
      have hf1 := far_pos (a :: t)
      rw [chop_cons _ (by simp), List.flatten_cons, ih _ (by simp at hl ⊢; omega), List.take_append_drop]

/-- Runes that stand alone stand so side by side. -/
theorem chop_back : ∀ (cs : List (List UInt8)), (∀ c ∈ cs, wide c = c.length ∧ c ≠ []) → chop cs.flatten = cs
  | [], _ => chop_nil
  | c :: cs, h => by
    obtain ⟨hw, hc⟩ := h c (by simp)
    have h0 : c.length ≠ 0 := fun e => hc (List.length_eq_zero_iff.1 e)
    have hne : (c :: cs).flatten ≠ [] := by
      rw [List.flatten_cons]; intro e; exact hc (List.append_eq_nil_iff.1 e).1
    have hw2 : wide (c ++ cs.flatten) = c.length := by rw [wide_append c _ (by omega), hw]
    have hf : far (c ++ cs.flatten) = c.length := by unfold far; omega
    rw [chop_cons _ hne, List.flatten_cons, hf, List.take_left, List.drop_left, chop_back cs (fun c' hc' => h c' (by simp [hc']))]

/-- Each of a text's runes is its own first rune. -/
theorem chop_each : ∀ (n : Nat) (l : List UInt8), l.length ≤ n → ∀ c ∈ chop l, c ≠ [] ∧ far c = c.length ∧ (1 < c.length → ∀ x ∈ c, 128 ≤ x.toNat) := by
  intro n
  induction n with
  | zero =>
    intro l hl c hc
    have : l = [] := List.length_eq_zero_iff.1 (by omega)
    subst this; rw [chop_nil] at hc; cases hc
  | succ n ih =>
    intro l hl c hc
    cases l with
    | nil => rw [chop_nil] at hc; cases hc
    | cons a t =>
      have hf1 := far_pos (a :: t)
      have hf2 := far_le a t
      rw [chop_cons _ (by simp)] at hc
      rcases List.mem_cons.1 hc with rfl | hc
      · have hlen : ((a :: t).take (far (a :: t))).length = far (a :: t) := by simp; omega
        refine ⟨fun e => by rw [e] at hlen; simp at hlen; omega, ?_, fun h1 => ?_⟩
        · unfold far at hlen ⊢
          rw [hlen]
          have := take_wide (a :: t) (by simp)
          unfold far at this
          rw [this]
        · rw [hlen] at h1
          have hw : far (a :: t) = wide (a :: t) := by unfold far at *; omega
          rw [hw] at h1 ⊢
          have ha := wide_head a t h1
          have hc : (need a.toNat).1 ≠ 0 ∧ conts ((need a.toNat).1 - 1) (need a.toNat).2.1 (need a.toNat).2.2 t = true := by
            by_cases hc : (need a.toNat).1 ≠ 0 ∧ conts ((need a.toNat).1 - 1) (need a.toNat).2.1 (need a.toNat).2.2 t = true
            · exact hc
            · exfalso; simp only [wide_cons] at h1; rw [if_neg ha, if_neg hc] at h1; omega
          have e : wide (a :: t) = (need a.toNat).1 := by simp only [wide_cons]; rw [if_neg ha, if_pos hc]
          obtain ⟨m, hm⟩ : ∃ m, (need a.toNat).1 = m + 1 := ⟨(need a.toNat).1 - 1, by have := hc.1; omega⟩
          rw [e, hm, List.take_succ_cons]
          intro x hx
          rcases List.mem_cons.1 hx with rfl | hx
          · omega
          · have := hc.2
            rw [hm, Nat.add_sub_cancel] at this
            exact conts_high m _ _ t (need_lo _) this x hx
      · exact ih _ (by simp at hl ⊢; omega) c hc

end Go.Proofs.YtmhjoomkeidcaaaDoor.L3
