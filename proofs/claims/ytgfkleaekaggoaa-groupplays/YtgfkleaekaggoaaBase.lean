/-
  How a count lies in memory, the program's and the document's; and what a call may turn of it.
-/
import Derived.Test.YtgfkleaekaggoaaRows
import Derived.Test.YtgfkleaekaggoaaMath
import Derived.WalkKit
import Derived.WalkSpells
import Derived.WalkLawsBesides
import Derived.Lib.BufferMore
import Derived.BigQuiet
import Derived.Deep.QuietTactic
import Derived.Sort.Row
namespace Go.Proofs.Ytgfkleaekaggoaa
open Go.RowKit

theorem wrapB {n : Int} (h : -9223372036854775808 ≤ n ∧ n ≤ 9223372036854775807) : IntKind.i64.wrap n = n := by rw [IntKind.wrap_i64]; omega
theorem hide {p : Prop} (h : p) : Hid p := h
theorem info3 : (Try.prog.info? 3).map (fun i => (i.zero, i.size, i.bytes)) = some (some (.int .i64 0), 1, 8) := by kernel_rfl
theorem ret_int {a b : Int} (h : a = b) : Ending.returned (Value.int .i64 a) = .returned (.int .i64 b) := by rw [h]

def cZ (l : List Int) : List Value := l.map (Value.int .i64)
theorem cZ_len (l : List Int) : (cZ l).length = l.length := by simp [cZ]
theorem cZ_snoc (l : List Int) (x : Int) : cZ (l ++ [x]) = cZ l ++ [.int .i64 x] := by simp [cZ]
theorem cZ_app (l m : List Int) : cZ (l ++ m) = cZ l ++ cZ m := by simp [cZ]
theorem cZ_get (l : List Int) {j : Nat} (h : j < l.length) : (cZ l)[j]? = some (.int .i64 (gz l j)) := by simp [cZ, gz, h]
theorem cZ_ones (l : List Int) : ∀ u ∈ cZ l, u.oneCell' = true := by
  intro u hu
  simp [cZ] at hu
  obtain ⟨a, _, rfl⟩ := hu
  rfl
theorem add_none (g j k : Nat) : (⟨g, j, none⟩ : Addr).add k = ⟨g, j + k, none⟩ := by unfold Addr.add; split <;> simp_all

/-- All blocks but some are as they were. -/
structure Mov (S : Nat → Prop) (a b : World) : Prop where
  os : b.os = a.os
  tape : b.tape = a.tape
  output : b.output = a.output
  size : a.heap.size ≤ b.heap.size
  block : ∀ k, k < a.heap.size → ¬ S k → b.heap[k]? = a.heap[k]?
theorem Mov.refl (S : Nat → Prop) (a : World) : Mov S a a := ⟨rfl, rfl, rfl, Nat.le_refl _, fun _ _ _ => rfl⟩
theorem Mov.of_below {S : Nat → Prop} {a b : World} (h : Below a.heap.size a b) : Mov S a b := ⟨h.os, h.tape, h.output, h.size, fun k hk _ => h.block k hk⟩
theorem Mov.set {S : Nat → Prop} {a b : World} (h : Mov S a b) {p : Addr} (hp : S p.block) (v : Value) : Mov S a (b.setCell p v) :=
  ⟨h.os, h.tape, h.output, by simpa using h.size, fun k hk hS => (Below.heap_setCell b p v k (fun e => hS (e ▸ hp))).trans (h.block k hk hS)⟩
theorem Mov.below {S : Nat → Prop} {a b : World} {n : Nat} (h : Mov S a b) (hn : n ≤ a.heap.size) (hS : ∀ k, S k → n ≤ k) : Below n a b :=
  ⟨h.os, h.tape, h.output, h.size, fun k hk => h.block k (by omega) (fun e => by have := hS k e; omega)⟩
theorem Mov.trans {S : Nat → Prop} {a b c : World} (h : Mov S a b) (k : Mov S b c) : Mov S a c :=
  ⟨k.os.trans h.os, k.tape.trans h.tape, k.output.trans h.output, Nat.le_trans h.size k.size, fun i hi hS => (k.block i (Nat.lt_of_lt_of_le hi h.size) hS).trans (h.block i hi hS)⟩
/-- What is new may turn, too. -/
theorem Mov.thn {S T : Nat → Prop} {a b c : World} (h : Mov S a b) (k : Mov T b c) (hT : ∀ i, T i → a.heap.size ≤ i ∨ S i) : Mov S a c :=
  ⟨k.os.trans h.os, k.tape.trans h.tape, k.output.trans h.output, Nat.le_trans h.size k.size, fun i hi hS => (k.block i (Nat.lt_of_lt_of_le hi h.size) (fun e => by rcases hT i e with q | q; omega; exact hS q)).trans (h.block i hi hS)⟩
theorem below_next {W a b : World} (h : Below W.heap.size W a) (k : Below a.heap.size a b) : Below W.heap.size W b := h.trans (k.mono h.size)
theorem below1 (w : World) (o1 : Obj) : Below w.heap.size w (w.alloc o1) := (Below.refl _ _).alloc (Nat.le_refl _) _
theorem below_drewN (a : World) {m : Nat} (n : Nat) : Below m a (a.drewN n) := ⟨rfl, rfl, rfl, Nat.le_refl _, fun _ _ => rfl⟩
theorem bcell {W w1 : World} (hb : Below W.heap.size W w1) : (∀ b o, b < W.heap.size → w1.cell? ⟨b, o, none⟩ = W.cell? ⟨b, o, none⟩) ∧ (∀ b o, b < W.heap.size → w1.frozen? ⟨b, o, none⟩ = W.frozen? ⟨b, o, none⟩) :=
  ⟨fun b o h => hb.cell (p := ⟨b, o, none⟩) h, fun b o h => hb.frozen (p := ⟨b, o, none⟩) h⟩

theorem owns_slice {W : World} {base e size : Nat} {v : Value} {n : Nat} {xs : List Value} (h : W.ownsRow base e size v n xs) : ∃ a c, v = .slice a n c := by
  rcases h.2 with ⟨rfl, rfl⟩ | ⟨g, cap, cur, rfl, _⟩
  · exact ⟨none, 0, rfl⟩
  · exact ⟨_, _, rfl⟩
theorem owns_far {w w' : World} {base e size n : Nat} {v : Value} {xs : List Value} (h : w.ownsRow base e size v n xs) (hk : ∀ k, v.ownBlock = some k → w'.heap[k]? = w.heap[k]?) : w'.ownsRow base e size v n xs := by
  refine ⟨h.1, ?_⟩
  rcases h.2 with h3 | ⟨g, cap, cur, rfl, hb, hh, r⟩
  · exact Or.inl h3
  · exact Or.inr ⟨g, cap, cur, rfl, hb, (hk g rfl).trans hh, r⟩
theorem owns_below {w w' : World} {base e size n : Nat} {v : Value} {xs : List Value} (h : w.ownsRow base e size v n xs) (k : Below w.heap.size w w') : w'.ownsRow base e size v n xs := owns_far h fun j hj => k.block j (h.lt j hj).2
theorem owns_base {w : World} {b c e n k : Nat} {v : Value} {xs : List Value} (h : w.ownsRow b e n v k xs) (hc : c ≤ b) : w.ownsRow c e n v k xs := by
  refine ⟨h.1, ?_⟩
  rcases h.2 with h3 | ⟨g, cap, cur, r1, hb, rest⟩
  · exact Or.inl h3
  · exact Or.inr ⟨g, cap, cur, r1, Nat.le_trans hc hb, rest⟩
/-- A row of numbers is no box. -/
theorem row_box {w : World} {base n S : Nat} {v : Value} {xs : List Value} {cs : Array Value} {t : TypeId} {fr : Nat × Nat} (h : w.ownsRow base 3 1 v n xs) (hb : w.heap[S]? = some (.cells cs t fr)) (ht : t ≠ 3) : v.ownBlock ≠ some S := by
  intro e
  rcases h.2 with ⟨rfl, _⟩ | ⟨g, cap, cur, rfl, _, hh, _⟩
  · simp [Value.ownBlock] at e
  · simp [Value.ownBlock] at e
    subst e
    have := hb.symm.trans hh
    simp at this
    exact ht this.2.1
theorem row_open {w : World} {base : Nat} {v : Value} {l : List Int} (h : w.ownsRow base 3 1 v l.length (cZ l)) (h0 : 0 < l.length) :
    ∃ g c, v = .slice (some ⟨g, 0, none⟩) l.length c ∧ base ≤ g ∧ g < w.heap.size ∧ (∀ k, k < l.length → w.cell? ⟨g, k, none⟩ = some (.int .i64 (gz l k)) ∧ w.frozen? ⟨g, k, none⟩ = false) ∧ l.length ≤ c := by
  have h' := h
  rcases h.2 with ⟨_, h1⟩ | ⟨g, c, cur, rfl, hb, hh, hc, _⟩
  · omega
  refine ⟨g, c, rfl, hb, (Array.getElem?_eq_some_iff.1 hh).1, fun k hk => ⟨?_, h'.frozenAt k⟩, hc⟩
  rw [h'.cellAt k (by omega), cZ_get l hk]
theorem row_cap {w : World} {base : Nat} {a : Option Addr} {n c : Nat} {xs : List Value} (h : w.ownsRow base 3 1 (.slice a n c) n xs) : n ≤ c ∧ c ≤ maxLen := by
  rcases h.2 with ⟨e, _⟩ | ⟨g, cap, cur, e, _, _, hc, hm, _⟩
  · injection e with _ e2 e3; subst e2; subst e3; exact ⟨Nat.le_refl _, Nat.zero_le _⟩
  · injection e with _ _ e3; subst e3; exact ⟨hc, hm⟩
theorem newsI {W : World} {b : Nat} {v : Value} (h : W.cell? ⟨b, 0, none⟩ = some v) : ∀ j u, [v][j]? = some u → W.cell? ((⟨b, 0, none⟩ : Addr).add j) = some u := by
  intro j u hj
  match j, hj with
  | 0, hj => simp at hj; subst hj; simpa [Addr.add] using h
theorem onesI (x : Int) : ∀ u ∈ [Value.int .i64 x], u.oneCell' = true := by
  intro u hu
  simp at hu
  subst hu
  rfl

/-- Numbers that lie somewhere in memory. -/
def RowZ (w : World) (a : Option Addr) (l : List Int) : Prop := l ≠ [] → ∃ g off, a = some ⟨g, off, none⟩ ∧ g < w.heap.size ∧ ∀ k, k < l.length → w.cell? ⟨g, off + k, none⟩ = some (.int .i64 (gz l k))
theorem RowZ.below {w w' : World} {a : Option Addr} {l : List Int} (h : RowZ w a l) (k : Below w.heap.size w w') : RowZ w' a l := fun hn => by
  obtain ⟨g, off, h1, h2, h3⟩ := h hn
  exact ⟨g, off, h1, Nat.lt_of_lt_of_le h2 k.size, fun i hi => (k.cell (p := ⟨g, _, none⟩) h2).trans (h3 i hi)⟩
theorem owns_rowZ {w : World} {base : Nat} {a : Option Addr} {c : Nat} {l : List Int} (h : w.ownsRow base 3 1 (.slice a l.length c) l.length (cZ l)) : RowZ w a l := fun hn => by
  obtain ⟨g, c', hv, _, hg, hc, _⟩ := row_open h (List.length_pos_iff.2 hn)
  injection hv with h1
  exact ⟨g, 0, h1, hg, fun k hk => by rw [Nat.zero_add]; exact (hc k hk).1⟩

/-- The program's. -/
structure AtM (w : World) (M base : Nat) (v : Value) (c : Int) (l : List Int) : Prop where
  box : w.heap[M]? = some (.cells #[.int .i64 c, v] 47 (0, 0))
  row : w.ownsRow base 3 1 v l.length (cZ l)
/-- The document's. -/
structure AtR (w : World) (R base : Nat) (u : Value) (o c : Int) (l : List Int) : Prop where
  box : w.heap[R]? = some (.cells #[.int .i64 (o + c), .int .i64 o, u] 28 (0, 0))
  row : w.ownsRow base 3 1 u l.length (cZ l)
def Mine (M : Nat) (v : Value) (k : Nat) : Prop := k = M ∨ v.ownBlock = some k
/-- What there is behind a call that may turn it. -/
def NowM (M base : Nat) (v : Value) (c : Int) (l : List Int) (w w' : World) : Prop := ∃ v', AtM w' M base v' c l ∧ Mov (Mine M v) w w' ∧ ∀ k, v'.ownBlock = some k → w.heap.size ≤ k ∨ v.ownBlock = some k
def NowR (R base : Nat) (u : Value) (o c : Int) (l : List Int) (w w' : World) : Prop := ∃ u', AtR w' R base u' o c l ∧ Mov (Mine R u) w w' ∧ ∀ k, u'.ownBlock = some k → w.heap.size ≤ k ∨ u.ownBlock = some k

variable {w w' : World} {M R base : Nat} {v u : Value} {l : List Int} {o c : Int}
theorem AtM.lt (h : AtM w M base v c l) : M < w.heap.size := (Array.getElem?_eq_some_iff.1 h.box).1
theorem AtR.lt (h : AtR w R base u o c l) : R < w.heap.size := (Array.getElem?_eq_some_iff.1 h.box).1
theorem AtM.far (h : AtM w M base v c l) : v.ownBlock ≠ some M := row_box h.row h.box (by decide)
theorem AtR.far (h : AtR w R base u o c l) : u.ownBlock ≠ some R := row_box h.row h.box (by decide)
theorem AtM.keep (h : AtM w M base v c l) (hk : ∀ k, Mine M v k → w'.heap[k]? = w.heap[k]?) : AtM w' M base v c l := ⟨(hk M (Or.inl rfl)).trans h.box, owns_far h.row fun k e => hk k (Or.inr e)⟩
theorem AtR.keep (h : AtR w R base u o c l) (hk : ∀ k, Mine R u k → w'.heap[k]? = w.heap[k]?) : AtR w' R base u o c l := ⟨(hk R (Or.inl rfl)).trans h.box, owns_far h.row fun k e => hk k (Or.inr e)⟩
theorem AtM.mine_lt (h : AtM w M base v c l) {k : Nat} (hk : Mine M v k) : k < w.heap.size := by
  rcases hk with e | e
  · rw [e]; exact h.lt
  · exact (h.row.lt k e).2
theorem AtR.mine_lt (h : AtR w R base u o c l) {k : Nat} (hk : Mine R u k) : k < w.heap.size := by
  rcases hk with e | e
  · rw [e]; exact h.lt
  · exact (h.row.lt k e).2
theorem AtM.mine_ge (h : AtM w M base v c l) (hM : base ≤ M) {k : Nat} (hk : Mine M v k) : base ≤ k := by
  rcases hk with e | e
  · rw [e]; exact hM
  · exact (h.row.lt k e).1
theorem AtR.mine_ge (h : AtR w R base u o c l) (hR : base ≤ R) {k : Nat} (hk : Mine R u k) : base ≤ k := by
  rcases hk with e | e
  · rw [e]; exact hR
  · exact (h.row.lt k e).1
theorem AtM.below (h : AtM w M base v c l) (k : Below w.heap.size w w') : AtM w' M base v c l := h.keep fun j hj => k.block j (h.mine_lt hj)
theorem AtR.below (h : AtR w R base u o c l) (k : Below w.heap.size w w') : AtR w' R base u o c l := h.keep fun j hj => k.block j (h.mine_lt hj)
theorem AtM.cells (h : AtM w M base v c l) : w.cell? ⟨M, 0, none⟩ = some (.int .i64 c) ∧ w.cell? ⟨M, 1, none⟩ = some v ∧ (∀ j, w.frozen? ⟨M, j, none⟩ = false) :=
  ⟨Lib.cell_of_heap h.box 0, Lib.cell_of_heap h.box 1, fun j => Lib.frozen_of_heap h.box j⟩
theorem AtR.cells (h : AtR w R base u o c l) : w.cell? ⟨R, 0, none⟩ = some (.int .i64 (o + c)) ∧ w.cell? ⟨R, 1, none⟩ = some (.int .i64 o) ∧ w.cell? ⟨R, 2, none⟩ = some u ∧ (∀ j, w.frozen? ⟨R, j, none⟩ = false) :=
  ⟨Lib.cell_of_heap h.box 0, Lib.cell_of_heap h.box 1, Lib.cell_of_heap h.box 2, fun j => Lib.frozen_of_heap h.box j⟩
theorem NowM.same (h : AtM w M base v c l) (k : Below w.heap.size w w') : NowM M base v c l w w' := ⟨v, h.below k, Mov.of_below k, fun _ hk => Or.inr hk⟩
theorem NowR.same (h : AtR w R base u o c l) (k : Below w.heap.size w w') : NowR R base u o c l w w' := ⟨u, h.below k, Mov.of_below k, fun _ hk => Or.inr hk⟩
theorem NowM.next {w1 w2 : World} {v1 : Value} {l2 : List Int} {c2 : Int} (h2 : Mov (Mine M v) w w1) (h3 : ∀ k, v1.ownBlock = some k → w.heap.size ≤ k ∨ v.ownBlock = some k) (k : NowM M base v1 c2 l2 w1 w2) : NowM M base v c2 l2 w w2 := by
  obtain ⟨v2, k1, k2, k3⟩ := k
  have hz := h2.size
  refine ⟨v2, k1, h2.thn k2 ?_, fun j hj => ?_⟩
  · rintro i (e | e)
    · exact Or.inr (Or.inl e)
    · rcases h3 i e with q | q
      · exact Or.inl q
      · exact Or.inr (Or.inr q)
  · rcases k3 j hj with q | q
    · exact Or.inl (by omega)
    · exact h3 j q
/-- Below where it began nothing has turned. -/
theorem NowM.low {n : Nat} {l2 : List Int} {c2 : Int} (h : NowM M base v c2 l2 w w') (ha : AtM w M base v c l) (hM : base ≤ M) (hn : n ≤ base) (hb : n ≤ w.heap.size) : Below n w w' := by
  obtain ⟨_, _, h2, _⟩ := h
  exact h2.below hb fun k hk => Nat.le_trans hn (ha.mine_ge hM hk)
theorem NowR.low {n : Nat} {l2 : List Int} {o2 c2 : Int} (h : NowR R base u o2 c2 l2 w w') (ha : AtR w R base u o c l) (hR : base ≤ R) (hn : n ≤ base) (hb : n ≤ w.heap.size) : Below n w w' := by
  obtain ⟨_, _, h2, _⟩ := h
  exact h2.below hb fun k hk => Nat.le_trans hn (ha.mine_ge hR hk)
theorem NowR.first {w1 : World} {l2 : List Int} {o2 c2 : Int} (hb : Below w.heap.size w w1) (k : NowR R base u o2 c2 l2 w1 w') : NowR R base u o2 c2 l2 w w' := by
  obtain ⟨u', k1, k2, k3⟩ := k
  have hz := hb.size
  refine ⟨u', k1, (Mov.of_below hb).thn k2 (fun i hi => Or.inr hi), fun j hj => ?_⟩
  rcases k3 j hj with q | q
  · exact Or.inl (by omega)
  · exact Or.inr q
/-- The count is another one now. -/
theorem AtM.setCount (h : AtM w M base v c l) (x : Int) : AtM (w.setCell ⟨M, 0, none⟩ (.int .i64 x)) M base v x l :=
  ⟨Lib.heap_setCell_same h.box _, owns_far h.row fun k hk => Below.heap_setCell _ _ _ _ (fun e => h.far (by rw [hk]; exact congrArg some e))⟩
/-- The row is another one now. -/
theorem AtM.setRow {v' : Value} {l2 : List Int} (h : AtM w M base v c l) (ho : w.ownsRow base 3 1 v' l2.length (cZ l2)) : AtM (w.setCell ⟨M, 1, none⟩ v') M base v' c l2 :=
  ⟨Lib.heap_setCell_same h.box v', owns_far ho fun k hk => Below.heap_setCell _ _ _ _ (fun e => row_box ho h.box (by decide) (by rw [hk]; exact congrArg some e))⟩
theorem AtR.setRow {u' : Value} {l2 : List Int} (h : AtR w R base u o c l) (ho : w.ownsRow base 3 1 u' l2.length (cZ l2)) : AtR (w.setCell ⟨R, 2, none⟩ u') R base u' o c l2 :=
  ⟨Lib.heap_setCell_same h.box u', owns_far ho fun k hk => Below.heap_setCell _ _ _ _ (fun e => row_box ho h.box (by decide) (by rw [hk]; exact congrArg some e))⟩
/-- More came in, or went out. -/
theorem AtR.setIn (h : AtR w R base u o c l) {x c2 : Int} (e : x = o + c2) : AtR (w.setCell ⟨R, 0, none⟩ (.int .i64 x)) R base u o c2 l :=
  ⟨by rw [e]; exact Lib.heap_setCell_same h.box _, owns_far h.row fun k hk => Below.heap_setCell _ _ _ _ (fun e => h.far (by rw [hk]; exact congrArg some e))⟩
theorem AtR.setOut (h : AtR w R base u o c l) {x c2 : Int} (e : o + c = x + c2) : AtR (w.setCell ⟨R, 1, none⟩ (.int .i64 x)) R base u x c2 l :=
  ⟨by rw [← e]; exact Lib.heap_setCell_same h.box _, owns_far h.row fun k hk => Below.heap_setCell _ _ _ _ (fun e => h.far (by rw [hk]; exact congrArg some e))⟩

end Go.Proofs.Ytgfkleaekaggoaa
