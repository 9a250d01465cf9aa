/-
  What was asked for, in rows of the law's own, and who was served: which row is whose, as plain data.
-/
import Derived.Test.YtgldhlcdnijecaaOrder
namespace Go.Proofs.Ytgldhlcdnijecaa
open Go.RowKit

/-- The last place of a number among the first j of a row. -/
def lastN (who : List Int) (t : Int) : Nat → Int
  | 0 => -1
  | j + 1 => if gz who j = t then (j : Int) else lastN who t j
theorem last_range (who : List Int) (t : Int) : ∀ j, -1 ≤ lastN who t j ∧ lastN who t j < (j : Int)
  | 0 => by show (-1 : Int) ≤ -1 ∧ (-1 : Int) < _; omega
  | j + 1 => by
    have := last_range who t j
    unfold lastN
    split <;> omega
theorem last_app (who : List Int) (y t : Int) : ∀ j, j ≤ who.length → lastN (who ++ [y]) t j = lastN who t j
  | 0, _ => rfl
  | j + 1, h => by
    have g : gz (who ++ [y]) j = gz who j := by
      rw [gz, List.getD_eq_getElem?_getD, List.getElem?_append_left (by omega), ← List.getD_eq_getElem?_getD]
      rfl
    show (if gz (who ++ [y]) j = t then _ else _) = (if gz who j = t then _ else _)
    rw [g, last_app who y t j (by omega)]
theorem gz_app_old (l : List Int) (y : Int) {j : Nat} (h : j < l.length) : gz (l ++ [y]) j = gz l j := by
  rw [gz, List.getD_eq_getElem?_getD, List.getElem?_append_left h, ← List.getD_eq_getElem?_getD]
  rfl
theorem gz_app_new (l : List Int) (y : Int) : gz (l ++ [y]) l.length = y := by
  rw [gz, List.getD_eq_getElem?_getD, List.getElem?_append_right (Nat.le_refl _), Nat.sub_self]
  rfl
theorem last_snoc (who : List Int) (y t : Int) : lastN (who ++ [y]) t (who ++ [y]).length = if y = t then (who.length : Int) else lastN who t who.length := by
  rw [List.length_append, List.length_singleton]
  show (if gz (who ++ [y]) who.length = t then _ else _) = _
  rw [gz_app_new, last_app who y t _ (Nat.le_refl _)]

/-- What the last row of that task says. -/
def Says (who many : List Int) (t u : Int) : Prop := ∃ k : Nat, lastN who t who.length = (k : Int) ∧ k < who.length ∧ gz many k = u
/-- Who waits is in the rows, last with what it waits for. -/
structure Inv (s : Sm) (who many : List Int) : Prop where
  ok : Okw s
  nd : (ts s.q).Nodup
  len : many.length = who.length
  says : ∀ x ∈ s.q, Says who many x.t x.u
/-- Who was served, and with how many. -/
structure Got (s2 : Sm) (who many got gu : List Int) (T0 : Int) : Prop where
  len : gu.length = got.length
  says : ∀ i, i < got.length → Says who many (gz got i) (gz gu i)
  few : ∀ x ∈ gu, 0 ≤ x
  sum : T0 + gu.sum = s2.n - s2.f
  low : 0 ≤ T0
theorem Got.none {s : Sm} {who many : List Int} (h : Okw s) {T0 : Int} (e : T0 = s.n - s.f) : Got s who many [] [] T0 :=
  ⟨rfl, fun i hi => by simp at hi, fun x hx => by simp at hx, by show T0 + 0 = _; omega, by have := h.fn; omega⟩
theorem Inv.sub {s s2 : Sm} {who many : List Int} (h : Inv s who many) (hO : Okw s2) (hs : List.Sublist s2.q s.q) : Inv s2 who many :=
  ⟨hO, List.Sublist.nodup (hs.map Wt.t) h.nd, h.len, fun x hx => h.says x (hs.subset hx)⟩
theorem served {s : Sm} {who many : List Int} (h : Inv s who many) : Inv (serveS s) who many ∧ ∃ gu, Got (serveS s) who many (serveO s) gu (s.n - s.f) := by
  obtain ⟨q1, q2, h1, h2, h3, h4, h5, h6, _⟩ := serve_parts s.q s.n s.f (fun x hx => (h.ok.us x hx).1) h.ok.f0
  have h2' : serveO s = ts q1 := h2
  have h3' : (serveS s).q = q2 := h3
  have h4' : (serveS s).f + (us q1).sum = s.f := h4
  have hsub : List.Sublist (serveS s).q s.q := by rw [h3', h1]; exact List.sublist_append_right _ _
  refine ⟨h.sub (serve_ok h.ok) hsub, us q1, ?_, ?_, ?_, ?_, ?_⟩
  · rw [h2', us_len, ts_len]
  · intro i hi
    rw [h2', ts_len] at hi
    rw [h2', gz_ts q1 hi, gz_us q1 hi]
    exact h.says _ (by rw [h1]; exact List.mem_append_left _ (wt_mem hi))
  · intro x hx
    obtain ⟨y, hy, rfl⟩ := List.mem_map.1 hx
    have := h.ok.us y (by rw [h1]; exact List.mem_append_left _ hy)
    omega
  · rw [serve_n]; omega
  · have := h.ok.fn; omega
theorem keep_rel {s : Sm} {who many : List Int} (h : Inv s who many) (m : Int) : Inv (relS s m) who many ∧ ∃ gu, Got (relS s m) who many (relO s m) gu (if relE s m = 0 then s.n - s.f - m else s.n - s.f) := by
  by_cases e : relE s m = 0
  · rw [if_pos e, show relS s m = serveS ⟨s.n, s.f + m, s.q⟩ from if_pos e, show relO s m = serveO ⟨s.n, s.f + m, s.q⟩ from if_pos e]
    rcases rel_cases s m with ⟨e2, _⟩ | ⟨e2, _⟩ | ⟨_, h1, h2⟩
    · rw [e2] at e; cases e
    · rw [e2] at e; cases e
    · have h3 : Inv ⟨s.n, s.f + m, s.q⟩ who many := ⟨rel_in h.ok h1 h2, h.nd, h.len, h.says⟩
      have := served h3
      rw [show s.n - s.f - m = s.n - (s.f + m) by omega]
      exact this
  · rw [if_neg e, show relS s m = s from if_neg e, show relO s m = [] from if_neg e]
    exact ⟨h, [], Got.none h.ok rfl⟩
theorem keep_drop {s : Sm} {who many : List Int} (h : Inv s who many) (t : Int) : Inv (dropS s t) who many ∧ ∃ gu, Got (dropS s t) who many (dropO s t) gu (s.n - s.f) := by
  cases e : dropB s t
  · rw [show dropS s t = s from if_neg (by rw [e]; simp), show dropO s t = [] from if_neg (by rw [e]; simp)]
    exact ⟨h, [], Got.none h.ok rfl⟩
  · rw [show dropS s t = serveS (lessD s t) from if_pos e, show dropO s t = serveO (lessD s t) from if_pos e]
    exact served (h.sub (less_ok h.ok t) (List.eraseIdx_sublist _ _))
/-- What an Acquire leaves of the law's rows: the tasks, the numbers, and how many are taken. -/
theorem keep_acq {s : Sm} {who many : List Int} (h : Inv s who many) (t m : Int) :
    (acqE s t m = 0 ∧ Inv (acqS s t m) who many ∧ Got (acqS s t m) who many [] [] (s.n - s.f + m)) ∨
    (acqE s t m = 14 ∧ Inv (acqS s t m) (who ++ [t]) (many ++ [m]) ∧ Got (acqS s t m) (who ++ [t]) (many ++ [m]) [] [] (s.n - s.f)) ∨
    ((acqE s t m = 1 ∨ acqE s t m = 11) ∧ Inv (acqS s t m) who many ∧ Got (acqS s t m) who many [] [] (s.n - s.f)) := by
  have same : tryE s t m ≠ 12 → acqE s t m = tryE s t m ∧ acqS s t m = tryS s t m := fun h => ⟨if_neg h, if_neg h⟩
  have stay : tryE s t m ≠ 0 → tryS s t m = s := fun h => if_neg h
  rcases try_cases s t m with ⟨e, _⟩ | ⟨e, _⟩ | ⟨e, h1, h2, h3, _⟩ | ⟨e, h1, h2, h3, h4, h5⟩
  · obtain ⟨e1, e2⟩ := same (by rw [e]; decide)
    rw [e1, e2, stay (by rw [e]; decide), e]
    exact Or.inr (Or.inr ⟨Or.inl rfl, h, Got.none h.ok rfl⟩)
  · obtain ⟨e1, e2⟩ := same (by rw [e]; decide)
    rw [e1, e2, stay (by rw [e]; decide), e]
    exact Or.inr (Or.inr ⟨Or.inr rfl, h, Got.none h.ok rfl⟩)
  · have hok := acq_ok h.ok t m
    rw [show acqE s t m = 14 from if_pos e] 
    have e2 : acqS s t m = ⟨s.n, s.f, s.q ++ [⟨t, m⟩]⟩ := if_pos e
    rw [e2] at hok ⊢
    refine Or.inr (Or.inl ⟨rfl, ⟨hok, ?_, ?_, ?_⟩, Got.none hok rfl⟩)
    · show (ts (s.q ++ [(⟨t, m⟩ : Wt)])).Nodup
      rw [ts_snoc]
      exact nodup_snoc h.nd h3
    · rw [List.length_append, List.length_append, h.len]; rfl
    · intro x hx
      rcases List.mem_append.1 hx with q | q
      · obtain ⟨k, k1, k2, k3⟩ := h.says x q
        have hne : t ≠ x.t := fun e => inZ_false.1 h3 (by rw [e]; exact List.mem_map_of_mem q)
        refine ⟨k, ?_, by rw [List.length_append]; omega, ?_⟩
        · rw [last_snoc, if_neg hne]; exact k1
        · rw [gz_app_old _ _ (by rw [h.len]; exact k2)]; exact k3
      · simp at q
        subst q
        refine ⟨who.length, ?_, by simp, ?_⟩
        · rw [last_snoc, if_pos rfl]
        · rw [← h.len, gz_app_new]
  · obtain ⟨e1, e2⟩ := same (by rw [e]; decide)
    have hok := try_ok h.ok t m
    rw [e1, e2, e]
    have e3 : tryS s t m = ⟨s.n, s.f - m, s.q⟩ := if_pos e
    rw [e3] at hok ⊢
    refine Or.inl ⟨rfl, ⟨hok, h.nd, h.len, h.says⟩, Got.none hok ?_⟩
    show s.n - s.f + m = s.n - (s.f - m)
    omega
theorem Got.part {s2 : Sm} {who many got gu : List Int} {T0 : Int} (h : Got s2 who many got gu T0) (hO : Okw s2) (i : Nat) : 0 ≤ T0 + (gu.take i).sum ∧ T0 + (gu.take i).sum ≤ 16 := by
  have pos : ∀ l : List Int, (∀ x ∈ l, 0 ≤ x) → 0 ≤ l.sum := by
    intro l
    induction l with
    | nil => intro _; simp
    | cons y l ih =>
      intro hl
      have := ih (fun x hx => hl x (List.mem_cons_of_mem _ hx))
      have := hl y List.mem_cons_self
      rw [List.sum_cons]; omega
  have e : gu.sum = (gu.take i).sum + (gu.drop i).sum := by
    rw [← List.sum_append, List.take_append_drop]
  have a := pos (gu.take i) (fun x hx => h.few x (List.mem_of_mem_take hx))
  have b := pos (gu.drop i) (fun x hx => h.few x (List.mem_of_mem_drop hx))
  have := h.sum
  have := h.low
  have := hO.f0
  have := hO.n16
  omega
theorem take_sum {gu : List Int} {i : Nat} (h : i < gu.length) : (gu.take (i + 1)).sum = (gu.take i).sum + gz gu i := by
  rw [List.take_add_one, List.sum_append, gz, List.getD_eq_getElem?_getD, List.getElem?_eq_getElem h]
  simp

end Go.Proofs.Ytgldhlcdnijecaa
