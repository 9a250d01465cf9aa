/-
  The policy of a text as the document has it, line by line; or what is wrong, and where.
-/
import Derived.Test.YtmhjoomkeidcaaaDoorRRow
import Derived.Test.YtmhjoomkeidcaaaDoorL3Ref
namespace Go.Proofs.YtmhjoomkeidcaaaDoor
open Go.RowKit
open L3 (Wd cellsW ansOf)

def pol0 : Pol := ⟨[], [], []⟩
/-- Line by line: the error, its line, and the policy so far. -/
def rowsN : Nat → Pol → List Wd → Nat × Nat × Pol
  | 0, p, _ => (0, 0, p)
  | n + 1, p, ws => match ws with
    | [] => (0, 0, p)
    | x :: _ => if (lineOf p (txt (ws.take (rowLen ws)))).1 ≠ 0 then ((lineOf p (txt (ws.take (rowLen ws)))).1, x.line, pol0) else rowsN n (lineOf p (txt (ws.take (rowLen ws)))).2 (ws.drop (rowLen ws))
/-- What is said in the end. -/
def finish (R : Nat × Nat × Pol) : Nat × Nat × Pol :=
  if R.1 ≠ 0 then (R.1, R.2.1, pol0) else if checkOf R.2.2 ≠ 0 then (checkOf R.2.2, 0, pol0) else (0, 0, R.2.2)
def parseOf (l : List UInt8) : Nat × Nat × Pol :=
  if (ansOf l).e ≠ 0 then ((ansOf l).e, (ansOf l).line, pol0) else finish (rowsN (ansOf l).list.length pol0 (ansOf l).list)

theorem rowsN_nil (n : Nat) (p : Pol) : rowsN n p [] = (0, 0, p) := by cases n <;> rfl
theorem rowsN_bad {n : Nat} {p : Pol} {ws : List Wd} (h : 0 < ws.length) (hn : ws.length ≤ n) (he : (lineOf p (txt (ws.take (rowLen ws)))).1 ≠ 0) : rowsN n p ws = ((lineOf p (txt (ws.take (rowLen ws)))).1, (wd ws 0).line, pol0) := by
  obtain ⟨m, rfl⟩ : ∃ m, n = m + 1 := ⟨n - 1, by omega⟩
  match ws, h with
  | x :: t, _ => rw [rowsN, if_pos he]; rfl
theorem rowsN_next {n : Nat} {p : Pol} {ws : List Wd} (h : 0 < ws.length) (hn : ws.length ≤ n) (he : (lineOf p (txt (ws.take (rowLen ws)))).1 = 0) : rowsN n p ws = rowsN (n - 1) (lineOf p (txt (ws.take (rowLen ws)))).2 (ws.drop (rowLen ws)) := by
  obtain ⟨m, rfl⟩ : ∃ m, n = m + 1 := ⟨n - 1, by omega⟩
  match ws, h with
  | x :: t, _ => rw [rowsN, if_neg (fun hh => hh he)]; rfl
theorem rowLen_pos {ws : List Wd} (h : 0 < ws.length) : 1 ≤ rowLen ws := by
  match ws, h with
  | x :: t, _ => simp [rowLen]

/-- How many things a policy holds. -/
def Pol.size (p : Pol) : Nat := p.ds.length + p.ss.length + p.ls.length
theorem lineOf_size (p : Pol) (row : List ByteArray) : (lineOf p row).2.size ≤ p.size + 1 := by
  unfold lineOf
  split
  · split
    · unfold domLine
      split
      · exact Nat.le_succ _
      · split
        · exact Nat.le_succ _
        · split
          · simp [Pol.size]; omega
          · exact Nat.le_succ _
    · exact Nat.le_succ _
  · split
    · unfold slotLine
      split
      · exact Nat.le_succ _
      · split
        · simp [Pol.size]; omega
        · exact Nat.le_succ _
    · exact Nat.le_succ _
  · split
    · unfold linkLine
      split
      · exact Nat.le_succ _
      · split
        · simp [Pol.size]; omega
        · exact Nat.le_succ _
    · split
      · unfold linkLine
        split
        · exact Nat.le_succ _
        · split
          · simp [Pol.size]; omega
          · exact Nat.le_succ _
      · exact Nat.le_succ _
  · exact Nat.le_succ _

theorem words_few (l : List UInt8) : (ansOf l).list.length ≤ 4096 := by
  by_cases h : 4096 < l.length
  · rw [L3.ans_over h]; exact Nat.zero_le _
  · by_cases hk : L3.okAll (L3.chop l)
    · rw [L3.ans_ok (by omega) hk]
      have := L3.words_len l
      show (L3.wordsOf l).length ≤ 4096
      omega
    · rw [L3.ans_bad (by omega) hk]; exact Nat.zero_le _

/-- What is read lies where the blocks stay, but for one that it does not lie in. -/
theorem lies_but {B base : Nat} {a b : World} {ad : Option Addr} {xs : List Value} (h : Lies a ad xs) (hb : ∀ q, ad = some q → B < q.block ∧ q.block < base) (k : But B base a b) : Lies b ad xs := by
  rcases h with h | ⟨c, off, h1, h2, h3⟩
  · exact Or.inl h
  · obtain ⟨hb1, hb2⟩ := hb _ h1
    simp only at hb1 hb2
    refine Or.inr ⟨c, off, h1, Nat.lt_of_lt_of_le h2 k.size, fun j u hj => ?_⟩
    have := h3 j u hj
    rw [World.cell?_of_block (w := a) (a := ⟨c, off + j, none⟩) (k.block c hb2 (by omega))]
    exact this

theorem cellsW_take (ws : List Wd) (n : Nat) : cellsW (ws.take n) = (cellsW ws).take (n * 3) := flat_take (fun x : Wd => [Value.string ⟨x.text.toArray⟩, .int .i64 (x.line : Nat), .int .i64 (x.col : Nat)]) 3 (fun _ => rfl) ws n
theorem flat_drop {α : Type} (f : α → List Value) (k : Nat) (hk : ∀ x, (f x).length = k) : ∀ (xs : List α) (n : Nat), (xs.drop n).flatMap f = (xs.flatMap f).drop (n * k)
  | [], n => by simp
  | x :: xs, 0 => by simp
  | x :: xs, n + 1 => by
    rw [List.drop_succ_cons, List.flatMap_cons, flat_drop f k hk xs n, List.drop_append, hk, Nat.add_mul, Nat.one_mul, Nat.add_sub_cancel, List.drop_of_length_le (l := f x) (by rw [hk]; omega), List.nil_append]
theorem cellsW_drop (ws : List Wd) (n : Nat) : cellsW (ws.drop n) = (cellsW ws).drop (n * 3) := flat_drop (fun x : Wd => [Value.string ⟨x.text.toArray⟩, .int .i64 (x.line : Nat), .int .i64 (x.col : Nat)]) 3 (fun _ => rfl) ws n
theorem take_liesW {w : World} {ad : Option Addr} {ws : List Wd} (h : Lies w ad (cellsW ws)) (n : Nat) : Lies w ad (cellsW (ws.take n)) := by
  rw [cellsW_take]; exact Lies.take h _
theorem drop_liesW {w : World} {b off : Nat} {ws : List Wd} (h : Lies w (some ⟨b, off, none⟩) (cellsW ws)) (n : Nat) : Lies w (some ⟨b, off + n * 3, none⟩) (cellsW (ws.drop n)) := by
  rw [cellsW_drop]
  rcases h with h | ⟨c, o, h1, h2, h3⟩
  · rw [h]; exact Or.inl (by simp)
  · injection h1 with h1
    injection h1 with e1 e2
    subst e1 e2
    exact Or.inr ⟨b, off + n * 3, rfl, h2, fun j u hj => by
      rw [List.getElem?_drop] at hj
      rw [Nat.add_assoc]
      exact h3 _ u hj⟩

/-- What Parse and the document's own answer return. -/
def PSaid (w : World) (R : Nat × Nat × Pol) (e : Ending) (w' : World) : Prop :=
  ∃ a1 a2 a3 c1 c2 c3, e = .returned (.tuple #[.agg #[.slice a1 R.2.2.ds.length c1, .slice a2 R.2.2.ss.length c2, .slice a3 R.2.2.ls.length c3], .int .i64 (R.2.1 : Nat), .int .i64 (R.1 : Nat)]) ∧ Held w' a1 a2 a3 c1 c2 c3 R.2.2 ∧ Below w.heap.size w w'
theorem held_none (w : World) : Held w none none none 0 0 0 pol0 := ⟨Or.inl rfl, Or.inl rfl, Or.inl rfl, Nat.le_refl _, Nat.le_refl _, Nat.le_refl _⟩

end Go.Proofs.YtmhjoomkeidcaaaDoor
