/-
  A policy's text, line by line, as the document has it; how long its lines are at most.
-/
import Derived.Test.YtmhjoomkeidcaaaDoorPRow
import Derived.Test.YtmhjoomkeidcaaaDoorFew
namespace Go.Proofs.YtmhjoomkeidcaaaDoor
open Go.RowKit L2

def kwOf (l : Lk) : ByteArray := if l.kind = 1 then kwCell else kwPump
def domWords (d : Dm) : List (List UInt8) := [kwDomain.data.toList, d.name.data.toList, textOf d.lev.toNat d.cat.toNat] ++ [d.tasks.toNat, d.objs.toNat, d.ring.toNat].map Lib.decDigits
def slotWords (ds : List Dm) (s : Sl) : List (List UInt8) := [kwSlot.data.toList, (dm ds s.dom.toNat).name.data.toList] ++ [s.len.toNat].map Lib.decDigits
def linkWords (ds : List Dm) (l : Lk) : List (List UInt8) := [(kwOf l).data.toList, (dm ds l.src.toNat).name.data.toList, (dm ds l.dst.toNat).name.data.toList] ++ [l.size.toNat].map Lib.decDigits
def domText (d : Dm) : List UInt8 := rowText (domWords d)
def slotText (ds : List Dm) (s : Sl) : List UInt8 := rowText (slotWords ds s)
def linkText (ds : List Dm) (l : Lk) : List UInt8 := rowText (linkWords ds l)
def polText (p : Pol) : List UInt8 := p.ds.flatMap domText ++ (p.ss.flatMap (slotText p.ds) ++ p.ls.flatMap (linkText p.ds))
/-- What Print says: the text, and the error. -/
def printOf (p : Pol) : List UInt8 × Nat := if checkOf p = 0 then (polText p, 0) else ([], checkOf p)

theorem letters_len : ∀ (l : List UInt8) (k : Nat), letters l = some k → l.length ≤ 2 * k
  | [], k, _ => Nat.zero_le _
  | [a], k, h => by
    simp only [letters] at h
    split at h
    · injection h with h; subst h; simp
    · cases h
  | a :: b :: r, k, h => by
    by_cases h1 : 97 ≤ a.toNat ∧ a.toNat ≤ 122
    · rw [letters_latin a _ h1] at h
      cases h2 : letters (b :: r) with
      | none => rw [h2] at h; cases h
      | some j =>
        rw [h2] at h
        have := letters_len (b :: r) j h2
        simp only [Option.map_some, Option.some.injEq] at h
        simp at this ⊢
        omega
    · by_cases hg : 0 ≤ greekB a.toNat b.toNat ∧ greekB a.toNat b.toNat ≤ 24
      · rw [letters_greek a b r h1 hg] at h
        cases h2 : letters r with
        | none => rw [h2] at h; cases h
        | some j =>
          rw [h2] at h
          have := letters_len r j h2
          simp only [Option.map_some, Option.some.injEq] at h
          simp
          omega
      · rw [letters_other a b r h1 hg] at h; cases h
theorem name_short {s : ByteArray} (h : nameB s = true) : s.data.toList.length ≤ 24 := by
  unfold nameB at h
  cases hl : letters s.data.toList with
  | none => rw [hl] at h; cases h
  | some k =>
    rw [hl] at h
    have := of_decide_eq_true h
    have := letters_len _ _ hl
    omega
theorem signs_len (c : Nat) : ∀ (n k : Nat), (signsFrom c n k).length ≤ 2 * n
  | 0, _ => Nat.le_refl _
  | n + 1, k => by
    have := signs_len c n (k + 1)
    rw [signsFrom, List.length_append]
    split
    · simp [signOf]; omega
    · simp; omega
theorem text_len (l c : Nat) : (textOf l c).length ≤ 35 := by
  have := signs_len c 16 0
  simp [textOf]; omega
theorem dec_len {n : Nat} (h : n < 100) : (Lib.decDigits n).length ≤ 2 := by
  rw [Lib.decDigits]
  split
  · simp
  · rw [Lib.decDigits, dif_pos (by omega)]; simp
theorem joinTail_len (r : List (List UInt8)) : (Lib.joinTail [32] r).length = (r.map (·.length + 1)).sum := by
  unfold Lib.joinTail
  induction r with
  | nil => rfl
  | cons x r ih => simp only [List.map_cons, List.flatten_cons, List.length_append, List.sum_cons, ih]; simp; omega
theorem join_len (r : List (List UInt8)) : (Lib.join r [32]).length ≤ (r.map (·.length + 1)).sum := by
  cases r with
  | nil => simp [Lib.join]
  | cons x r =>
    rw [Lib.join_cons, List.length_append, joinTail_len]
    simp

/-- What is asked of each part of a policy that may be. -/
structure OkD (d : Dm) : Prop where
  name : nameB d.name = true
  lab : ∃ l c : Nat, d.lev = l ∧ d.cat = c ∧ l ≤ 7 ∧ c < 65536
  quo : ∃ a b c : Nat, d.tasks = a ∧ d.objs = b ∧ d.ring = c ∧ a < 100 ∧ b < 100 ∧ c < 100
theorem okD_of {ds : List Dm} {i : Nat} (h : domE ds i = 0) : OkD (dm ds i) := by
  obtain ⟨h1, h2, h3⟩ := dom_zero h
  refine ⟨?_, ?_, ?_⟩
  · unfold nameBad at h1
    cases hn : nameB (dm ds i).name
    · rw [hn] at h1; cases h1
    · rfl
  · have := of_decide_eq_true h2
    exact ⟨(dm ds i).lev.toNat, (dm ds i).cat.toNat, by omega, by omega, by omega, by omega⟩
  · have := of_decide_eq_true h3
    exact ⟨(dm ds i).tasks.toNat, (dm ds i).objs.toNat, (dm ds i).ring.toNat, by omega, by omega, by omega, by omega, by omega, by omega⟩
theorem domWords_len {d : Dm} (h : OkD d) : (Lib.join (domWords d) [32]).length ≤ 90 := by
  have h1 := join_len (domWords d)
  have h2 := name_short h.name
  have h3 := text_len d.lev.toNat d.cat.toNat
  obtain ⟨a, b, c, ha, hb, hc, la, lb, lc⟩ := h.quo
  have h4 := dec_len (n := d.tasks.toNat) (by omega)
  have h5 := dec_len (n := d.objs.toNat) (by omega)
  have h6 := dec_len (n := d.ring.toNat) (by omega)
  have h7 : kwDomain.data.toList.length = 6 := rfl
  refine Nat.le_trans h1 ?_
  simp only [domWords, List.map_cons, List.map_nil, List.cons_append, List.nil_append, List.sum_cons, List.sum_nil]
  omega
theorem slotWords_len {ds : List Dm} {s : Sl} (h : OkD (dm ds s.dom.toNat)) (hl : s.len.toNat < 100) : (Lib.join (slotWords ds s) [32]).length ≤ 90 := by
  have h1 := join_len (slotWords ds s)
  have h2 := name_short h.name
  have h4 := dec_len hl
  have h7 : kwSlot.data.toList.length = 4 := rfl
  refine Nat.le_trans h1 ?_
  simp only [slotWords, List.map_cons, List.map_nil, List.cons_append, List.nil_append, List.sum_cons, List.sum_nil]
  omega
theorem kw_len (l : Lk) : (kwOf l).data.toList.length = 4 := by unfold kwOf; split <;> rfl
theorem linkWords_len {ds : List Dm} {l : Lk} (h : OkD (dm ds l.src.toNat)) (h' : OkD (dm ds l.dst.toNat)) (hl : l.size.toNat < 100) : (Lib.join (linkWords ds l) [32]).length ≤ 90 := by
  have h1 := join_len (linkWords ds l)
  have h2 := name_short h.name
  have h3 := name_short h'.name
  have h4 := dec_len hl
  have h7 := kw_len l
  refine Nat.le_trans h1 ?_
  simp only [linkWords, List.map_cons, List.map_nil, List.cons_append, List.nil_append, List.sum_cons, List.sum_nil]
  omega
theorem flat_snoc {α : Type} (f : α → List UInt8) {xs : List α} {k : Nat} {x : α} (h : xs[k]? = some x) : (xs.take (k + 1)).flatMap f = (xs.take k).flatMap f ++ f x := by
  rw [List.take_add_one, h]; simp
theorem strCells_bytes (l : List UInt8) : Lib.strCells ⟨l.toArray⟩ = Lib.byteCells l := by
  simp [Lib.strCells, Lib.byteCells]

theorem builder_below {T e : TypeId} {B b : Nat} {bs : List Value} {W W' : World} (h : Lib.IsBuilderF T e B b bs W) (hb : Below W.heap.size W W') : Lib.IsBuilderF T e B b bs W' := by
  have go : ∀ p, Lib.BuilderAtF T e B b p bs W → Lib.BuilderAtF T e B b p bs W' := fun p h => by
    have hlt := h.lt
    obtain ⟨hB, v, hv, hown, hne⟩ := h
    exact ⟨hB, v, (hb.block b hlt).trans hv, hown.kept (row := none) ⟨hb.os, hb.tape, hb.output, hb.size, fun k hk _ => hb.block k hk⟩ (Classical.em _), hne⟩
  exact h.elim (fun x => .inl (go _ x)) (fun x => .inr (go _ x))

end Go.Proofs.YtmhjoomkeidcaaaDoor
