/-
  Plain facts on the places of words: they are in order, none is empty or has a blank, and no two stand together.
-/
import Derived.Test.YtnjhjjbdihbjbaaBlanks
namespace Go.Proofs.Ytnjhjjbdihbjbaa
open Go.RowKit

/-- How many runes a word has. -/
def rn (x : Wd) : Nat := (chop x.text).length
/-- A rune that stands alone and may be. -/
def Fine (c : List UInt8) : Prop := c ≠ [] ∧ far c = c.length ∧ (1 < c.length → ∀ x ∈ c, 128 ≤ x.toNat) ∧ okC c = true
def WordOk (x : Wd) : Prop := x.text ≠ [] ∧ (∀ c ∈ chop x.text, wide c = c.length ∧ c ≠ []) ∧ (32 : UInt8) ∉ x.text ∧ (10 : UInt8) ∉ x.text ∧ (35 : UInt8) ∉ x.text ∧ 1 ≤ x.line ∧ 1 ≤ x.col
/-- Does a word end ahead of a place, with something between? -/
def Before (x : Wd) (line col : Nat) : Prop := x.line < line ∨ (x.line = line ∧ x.col + rn x < col)

theorem Fine.wide {c : List UInt8} (h : Fine c) : wide c = c.length := by
  have h1 := okC_wide h.2.2.2
  have h2 := h.2.1
  unfold far at h2
  omega
theorem Fine.not {c : List UInt8} (h : Fine c) (x : UInt8) (hx : x.toNat < 128) (hc : c ≠ [x]) : x ∉ c := by
  intro hm
  match c, h, hc, hm with
  | [], h, _, _ => exact h.1 rfl
  | [a], _, hc, hm =>
    have := List.mem_singleton.1 hm
    exact hc (by rw [this])
  | a :: b :: t, h, _, hm =>
    have := h.2.2.1 (by simp) x hm
    omega
theorem Fine.chop {c : List UInt8} (h : Fine c) : chop c = [c] := by
  have := chop_back [c] (fun c' hc' => by rw [List.mem_singleton.1 hc']; exact ⟨h.wide, h.1⟩)
  simpa using this
theorem chop_snoc {t c : List UInt8} (ht : ∀ c ∈ Ytnjhjjbdihbjbaa.chop t, Ytnjhjjbdihbjbaa.wide c = c.length ∧ c ≠ []) (h : Fine c) : Ytnjhjjbdihbjbaa.chop (t ++ c) = Ytnjhjjbdihbjbaa.chop t ++ [c] := by
  have e : (Ytnjhjjbdihbjbaa.chop t ++ [c]).flatten = t ++ c := by
    rw [List.flatten_append, chop_join _ t (Nat.le_refl _)]
    simp
  rw [← e]
  refine chop_back _ fun c' hc' => ?_
  rcases List.mem_append.1 hc' with hc' | hc'
  · exact ht c' hc'
  · rw [List.mem_singleton.1 hc']; exact ⟨h.wide, h.1⟩

theorem chop_fine (l : List UInt8) (h : okAll (chop l)) : ∀ c ∈ chop l, Fine c := fun c hc =>
  ⟨(chop_each _ l (Nat.le_refl _) c hc).1, (chop_each _ l (Nat.le_refl _) c hc).2.1, (chop_each _ l (Nat.le_refl _) c hc).2.2, h c hc⟩

/-- What is so of the words of a text as far as it was read. -/
structure PlacesAt (st : St) : Prop where
  words : ∀ x ∈ st.all, WordOk x
  order : st.all.Pairwise fun x y => Before x y.line y.col
  line : 1 ≤ st.line
  col : 1 ≤ st.col
  rest : st.cur = none → ∀ x ∈ st.done, Before x st.line st.col
  goes : ∀ x, st.cur = some x → x.line = st.line ∧ x.col + rn x = st.col

theorem before_next {x : Wd} {line col : Nat} (c : List UInt8) (h : Before x line col) : Before x (nextL line c) (nextC col c) := by
  unfold Before nextL nextC at *
  split <;> omega

theorem PlacesAt.done_before {st : St} (h : PlacesAt st) (x : Wd) (hx : x ∈ st.done) (y : Wd) (hy : st.cur = some y) : Before x y.line y.col := by
  have ho := h.order
  unfold St.all at ho
  rw [hy] at ho
  exact (List.pairwise_append.1 ho).2.2 x hx y (by simp)

theorem PlacesAt.next {st : St} (h : PlacesAt st) (c : List UInt8) (hc : Fine c) : PlacesAt (step st c) := by
  cases hi : inN (remN st.rem c) c
  · rw [step_out hi]
    refine ⟨by rw [all_none]; exact h.words, by rw [all_none]; exact h.order, nextL_pos c h.line, nextC_pos _ c, fun _ x hx => ?_, fun x hx => by cases hx⟩
    rcases List.mem_append.1 hx with hx | hx
    · cases hcu : st.cur with
      | none => exact before_next c (h.rest hcu x hx)
      | some y =>
        have h1 := h.done_before x hx y hcu
        obtain ⟨h2, h3⟩ := h.goes y hcu
        have : Before x st.line st.col := by
          unfold Before at *
          omega
        exact before_next c this
    · have hcu : st.cur = some x := by simpa using hx
      obtain ⟨h2, h3⟩ := h.goes x hcu
      show Before x (nextL st.line c) (nextC st.col c)
      unfold Before nextL nextC
      split <;> omega
  · have hne : c ≠ [32] ∧ c ≠ [10] ∧ c ≠ [35] := by
      unfold inN remN at hi
      simp only [Bool.and_eq_true, Bool.not_eq_true', Bool.or_eq_false_iff, decide_eq_false_iff_not] at hi
      exact ⟨hi.1.2, hi.2, hi.1.1.1⟩
    have n1 := hc.not 32 (by decide) hne.1
    have n2 := hc.not 10 (by decide) hne.2.1
    have n3 := hc.not 35 (by decide) hne.2.2
    have hl : nextL st.line c = st.line := by unfold nextL; rw [if_neg hne.2.1]
    have hcl : nextC st.col c = st.col + 1 := by unfold nextC; rw [if_neg hne.2.1]
    rw [step_in hi, hl, hcl]
    cases hcu : st.cur with
    | none =>
      have hal : st.all = st.done := by simp [St.all, hcu]
      have hr : rn ⟨c, st.line, st.col⟩ = 1 := by unfold rn; rw [hc.chop]; rfl
      refine ⟨fun x hx => ?_, ?_, h.line, by show 1 ≤ st.col + 1; omega, fun e => (by cases e), fun x hx => ?_⟩
      · rcases List.mem_append.1 hx with hx | hx
        · exact h.words x (by rw [hal]; exact hx)
        · obtain rfl : x = ⟨c, st.line, st.col⟩ := by simpa [more] using hx
          refine ⟨hc.1, fun c' hc' => ?_, n1, n2, n3, h.line, h.col⟩
          have hc'' : c' ∈ Ytnjhjjbdihbjbaa.chop c := hc'
          rw [hc.chop] at hc''
          rw [List.mem_singleton.1 hc'']
          exact ⟨hc.wide, hc.1⟩
      · refine List.pairwise_append.2 ⟨by have := h.order; rw [hal] at this; exact this, by simp, fun x hx y hy => ?_⟩
        obtain rfl : y = ⟨c, st.line, st.col⟩ := by simpa [more] using hy
        exact h.rest hcu x hx
      · obtain rfl : ⟨c, st.line, st.col⟩ = x := by injection hx
        exact ⟨rfl, by rw [hr]⟩
    | some z =>
      have hal : st.all = st.done ++ [z] := by simp [St.all, hcu]
      obtain ⟨h2, h3⟩ := h.goes z hcu
      have hz := h.words z (by rw [hal]; simp)
      have hch := chop_snoc hz.2.1 hc
      have hr : rn ⟨z.text ++ c, z.line, z.col⟩ = rn z + 1 := by unfold rn; rw [show (⟨z.text ++ c, z.line, z.col⟩ : Wd).text = z.text ++ c from rfl, hch, List.length_append]; rfl
      refine ⟨fun x hx => ?_, ?_, h.line, by show 1 ≤ st.col + 1; omega, fun e => (by cases e), fun x hx => ?_⟩
      · rcases List.mem_append.1 hx with hx | hx
        · exact h.words x (by rw [hal]; simp [hx])
        · obtain rfl : x = ⟨z.text ++ c, z.line, z.col⟩ := by simpa [more] using hx
          refine ⟨by simp [hz.1], fun c' hc' => ?_, ?_, ?_, ?_, hz.2.2.2.2.2.1, hz.2.2.2.2.2.2⟩
          · have hc'' : c' ∈ Ytnjhjjbdihbjbaa.chop (z.text ++ c) := hc'
            rw [hch] at hc''
            rcases List.mem_append.1 hc'' with hc'' | hc''
            · exact hz.2.1 c' hc''
            · rw [List.mem_singleton.1 hc'']; exact ⟨hc.wide, hc.1⟩
          · simp [hz.2.2.1, n1]
          · simp [hz.2.2.2.1, n2]
          · simp [hz.2.2.2.2.1, n3]
      · refine List.pairwise_append.2 ⟨?_, by simp, fun x hx y hy => ?_⟩
        · have := h.order
          rw [hal] at this
          exact (List.pairwise_append.1 this).1
        · obtain rfl : y = ⟨z.text ++ c, z.line, z.col⟩ := by simpa [more] using hy
          exact h.done_before x hx z hcu
      · obtain rfl : ⟨z.text ++ c, z.line, z.col⟩ = x := by injection hx
        exact ⟨h2, by rw [hr]; show z.col + (rn z + 1) = st.col + 1; omega⟩

theorem run_places : ∀ (cs : List (List UInt8)) (st : St), (∀ c ∈ cs, Fine c) → PlacesAt st → PlacesAt (run st cs)
  | [], _, _, h => h
  | c :: cs, st, hf, h => by
    rw [run_cons]
    exact run_places cs _ (fun c' hc' => hf c' (by simp [hc'])) (h.next c (hf c (by simp)))

theorem words_places (l : List UInt8) (h : okAll (chop l)) : (∀ x ∈ wordsOf l, WordOk x) ∧ (wordsOf l).Pairwise (fun x y => Before x y.line y.col) := by
  have hp : PlacesAt (run start (chop l)) := run_places _ _ (chop_fine l h) ⟨fun x hx => (by cases hx), List.Pairwise.nil, Nat.le_refl _, Nat.le_refl _, fun _ x hx => (by cases hx), fun x hx => (by cases hx)⟩
  exact ⟨hp.words, hp.order⟩

end Go.Proofs.Ytnjhjjbdihbjbaa
