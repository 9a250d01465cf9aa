/-
  How what many read or one writes lies in the program's memory; and what a call may turn of it.
-/
import Derived.Test.YtggfndokmdpaeaaRows
import Derived.Test.YtggfndokmdpaeaaMath
import Derived.WalkKit
import Derived.WalkSpells
import Derived.WalkLawsBesides
import Derived.Lib.BufferMore
import Derived.BigQuiet
import Derived.Deep.QuietTactic
import Derived.Sort.Row
namespace Go.Proofs.Ytggfndokmdpaeaa
open Go.RowKit

theorem wrapB {n : Int} (h : -9223372036854775808 ≤ n ∧ n ≤ 9223372036854775807) : IntKind.i64.wrap n = n := by rw [IntKind.wrap_i64]; omega
theorem hide {p : Prop} (h : p) : Hid p := h
theorem info3 : (Try.prog.info? 3).map (fun i => (i.zero, i.size, i.bytes)) = some (some (.int .i64 0), 1, 8) := by kernel_rfl
theorem ret_int {a b : Int} (h : a = b) : Ending.returned (Value.int .i64 a) = .returned (.int .i64 b) := by rw [h]

def cZ (l : List Int) : List Value := l.map (Value.int .i64)
theorem cZ_len (l : List Int) : (cZ l).length = l.length := by simp [cZ]
theorem cZ_snoc (l : List Int) (x : Int) : cZ (l ++ [x]) = cZ l ++ [.int .i64 x] := by simp [cZ]
theorem cZ_app (l m : List Int) : cZ (l ++ m) = cZ l ++ cZ m := by simp [cZ]
theorem cZ_get (l : List Int) {j : Nat} (h : j < l.length) : (cZ l)[j]? = some (.int .i64 (gz l j)) := by simp [cZ, gz, h]
theorem cZ_ones (l : List Int) : ∀ u ∈ cZ l, u.oneCell' = true := by
  intro u hu
  simp [cZ] at hu
  obtain ⟨a, _, rfl⟩ := hu
  rfl
theorem add_none (g j k : Nat) : (⟨g, j, none⟩ : Addr).add k = ⟨g, j + k, none⟩ := by unfold Addr.add; split <;> simp_all

/-- All blocks but some are as they were. -/
structure Mov (S : Nat → Prop) (a b : World) : Prop where
  os : b.os = a.os
  tape : b.tape = a.tape
  output : b.output = a.output
  size : a.heap.size ≤ b.heap.size
  block : ∀ k, k < a.heap.size → ¬ S k → b.heap[k]? = a.heap[k]?
theorem Mov.refl (S : Nat → Prop) (a : World) : Mov S a a := ⟨rfl, rfl, rfl, Nat.le_refl _, fun _ _ _ => rfl⟩
theorem Mov.of_below {S : Nat → Prop} {a b : World} (h : Below a.heap.size a b) : Mov S a b := ⟨h.os, h.tape, h.output, h.size, fun k hk _ => h.block k hk⟩
theorem Mov.set {S : Nat → Prop} {a b : World} (h : Mov S a b) {p : Addr} (hp : S p.block) (v : Value) : Mov S a (b.setCell p v) :=
  ⟨h.os, h.tape, h.output, by simpa using h.size, fun k hk hS => (Below.heap_setCell b p v k (fun e => hS (e ▸ hp))).trans (h.block k hk hS)⟩
theorem Mov.below {S : Nat → Prop} {a b : World} {n : Nat} (h : Mov S a b) (hn : n ≤ a.heap.size) (hS : ∀ k, S k → n ≤ k) : Below n a b :=
  ⟨h.os, h.tape, h.output, h.size, fun k hk => h.block k (by omega) (fun e => by have := hS k e; omega)⟩
theorem Mov.trans {S : Nat → Prop} {a b c : World} (h : Mov S a b) (k : Mov S b c) : Mov S a c :=
  ⟨k.os.trans h.os, k.tape.trans h.tape, k.output.trans h.output, Nat.le_trans h.size k.size, fun i hi hS => (k.block i (Nat.lt_of_lt_of_le hi h.size) hS).trans (h.block i hi hS)⟩
/-- What is new may turn, too. -/
theorem Mov.thn {S T : Nat → Prop} {a b c : World} (h : Mov S a b) (k : Mov T b c) (hT : ∀ i, T i → a.heap.size ≤ i ∨ S i) : Mov S a c :=
  ⟨k.os.trans h.os, k.tape.trans h.tape, k.output.trans h.output, Nat.le_trans h.size k.size, fun i hi hS => (k.block i (Nat.lt_of_lt_of_le hi h.size) (fun e => by rcases hT i e with q | q; omega; exact hS q)).trans (h.block i hi hS)⟩
theorem below_next {W a b : World} (h : Below W.heap.size W a) (k : Below a.heap.size a b) : Below W.heap.size W b := h.trans (k.mono h.size)
theorem below1 (w : World) (o1 : Obj) : Below w.heap.size w (w.alloc o1) := (Below.refl _ _).alloc (Nat.le_refl _) _
theorem below_drewN (a : World) {m : Nat} (n : Nat) : Below m a (a.drewN n) := ⟨rfl, rfl, rfl, Nat.le_refl _, fun _ _ => rfl⟩
theorem bcell {W w1 : World} (hb : Below W.heap.size W w1) : (∀ b o, b < W.heap.size → w1.cell? ⟨b, o, none⟩ = W.cell? ⟨b, o, none⟩) ∧ (∀ b o, b < W.heap.size → w1.frozen? ⟨b, o, none⟩ = W.frozen? ⟨b, o, none⟩) :=
  ⟨fun b o h => hb.cell (p := ⟨b, o, none⟩) h, fun b o h => hb.frozen (p := ⟨b, o, none⟩) h⟩

theorem owns_slice {W : World} {base e size : Nat} {v : Value} {n : Nat} {xs : List Value} (h : W.ownsRow base e size v n xs) : ∃ a c, v = .slice a n c := by
  rcases h.2 with ⟨rfl, rfl⟩ | ⟨g, cap, cur, rfl, _⟩
  · exact ⟨none, 0, rfl⟩
  · exact ⟨_, _, rfl⟩
theorem owns_far {w w' : World} {base e size n : Nat} {v : Value} {xs : List Value} (h : w.ownsRow base e size v n xs) (hk : ∀ k, v.ownBlock = some k → w'.heap[k]? = w.heap[k]?) : w'.ownsRow base e size v n xs := by
  refine ⟨h.1, ?_⟩
  rcases h.2 with h3 | ⟨g, cap, cur, rfl, hb, hh, r⟩
  · exact Or.inl h3
  · exact Or.inr ⟨g, cap, cur, rfl, hb, (hk g rfl).trans hh, r⟩
theorem owns_below {w w' : World} {base e size n : Nat} {v : Value} {xs : List Value} (h : w.ownsRow base e size v n xs) (k : Below w.heap.size w w') : w'.ownsRow base e size v n xs := owns_far h fun j hj => k.block j (h.lt j hj).2
theorem owns_base {w : World} {b c e n k : Nat} {v : Value} {xs : List Value} (h : w.ownsRow b e n v k xs) (hc : c ≤ b) : w.ownsRow c e n v k xs := by
  refine ⟨h.1, ?_⟩
  rcases h.2 with h3 | ⟨g, cap, cur, r1, hb, rest⟩
  · exact Or.inl h3
  · exact Or.inr ⟨g, cap, cur, r1, Nat.le_trans hc hb, rest⟩
/-- A row of numbers is no box. -/
theorem row_box {w : World} {base n S : Nat} {v : Value} {xs : List Value} {cs : Array Value} {t : TypeId} {fr : Nat × Nat} (h : w.ownsRow base 3 1 v n xs) (hb : w.heap[S]? = some (.cells cs t fr)) (ht : t ≠ 3) : v.ownBlock ≠ some S := by
  intro e
  rcases h.2 with ⟨rfl, _⟩ | ⟨g, cap, cur, rfl, _, hh, _⟩
  · simp [Value.ownBlock] at e
  · simp [Value.ownBlock] at e
    subst e
    have := hb.symm.trans hh
    simp at this
    exact ht this.2.1
theorem row_open {w : World} {base : Nat} {v : Value} {l : List Int} (h : w.ownsRow base 3 1 v l.length (cZ l)) (h0 : 0 < l.length) :
    ∃ g c, v = .slice (some ⟨g, 0, none⟩) l.length c ∧ base ≤ g ∧ g < w.heap.size ∧ (∀ k, k < l.length → w.cell? ⟨g, k, none⟩ = some (.int .i64 (gz l k)) ∧ w.frozen? ⟨g, k, none⟩ = false) ∧ l.length ≤ c := by
  have h' := h
  rcases h.2 with ⟨_, h1⟩ | ⟨g, c, cur, rfl, hb, hh, hc, _⟩
  · omega
  refine ⟨g, c, rfl, hb, (Array.getElem?_eq_some_iff.1 hh).1, fun k hk => ⟨?_, h'.frozenAt k⟩, hc⟩
  rw [h'.cellAt k (by omega), cZ_get l hk]
theorem row_cap {w : World} {base : Nat} {a : Option Addr} {n c : Nat} {xs : List Value} (h : w.ownsRow base 3 1 (.slice a n c) n xs) : n ≤ c ∧ c ≤ maxLen := by
  rcases h.2 with ⟨e, _⟩ | ⟨g, cap, cur, e, _, _, hc, hm, _⟩
  · injection e with _ e2 e3; subst e2; subst e3; exact ⟨Nat.le_refl _, Nat.zero_le _⟩
  · injection e with _ _ e3; subst e3; exact ⟨hc, hm⟩
theorem newsI {W : World} {b : Nat} {v : Value} (h : W.cell? ⟨b, 0, none⟩ = some v) : ∀ j u, [v][j]? = some u → W.cell? ((⟨b, 0, none⟩ : Addr).add j) = some u := by
  intro j u hj
  match j, hj with
  | 0, hj => simp at hj; subst hj; simpa [Addr.add] using h
theorem onesI (x : Int) : ∀ u ∈ [Value.int .i64 x], u.oneCell' = true := by
  intro u hu
  simp at hu
  subst hu
  rfl

/-- Numbers that lie somewhere in memory. -/
def RowZ (w : World) (a : Option Addr) (l : List Int) : Prop := l ≠ [] → ∃ g off, a = some ⟨g, off, none⟩ ∧ g < w.heap.size ∧ ∀ k, k < l.length → w.cell? ⟨g, off + k, none⟩ = some (.int .i64 (gz l k))
theorem RowZ.below {w w' : World} {a : Option Addr} {l : List Int} (h : RowZ w a l) (k : Below w.heap.size w w') : RowZ w' a l := fun hn => by
  obtain ⟨g, off, h1, h2, h3⟩ := h hn
  exact ⟨g, off, h1, Nat.lt_of_lt_of_le h2 k.size, fun i hi => (k.cell (p := ⟨g, _, none⟩) h2).trans (h3 i hi)⟩
theorem owns_rowZ {w : World} {base : Nat} {a : Option Addr} {c : Nat} {l : List Int} (h : w.ownsRow base 3 1 (.slice a l.length c) l.length (cZ l)) : RowZ w a l := fun hn => by
  obtain ⟨g, c', hv, _, hg, hc, _⟩ := row_open h (List.length_pos_iff.2 hn)
  injection hv with h1
  exact ⟨g, 0, h1, hg, fun k hk => by rw [Nat.zero_add]; exact (hc k hk).1⟩

/-- The three rows' values: who reads, who waits to write, who waits to read. -/
structure Vs where
  a : Value
  b : Value
  c : Value
structure AtX (w : World) (M base : Nat) (v : Vs) (s : St) : Prop where
  box : w.heap[M]? = some (.cells #[.int .i64 s.w, v.a, v.b, v.c] 51 (0, 0))
  ra : w.ownsRow base 3 1 v.a s.rs.length (cZ s.rs)
  rb : w.ownsRow base 3 1 v.b s.tw.length (cZ s.tw)
  rc : w.ownsRow base 3 1 v.c s.tr.length (cZ s.tr)
  ab : ∀ k, v.a.ownBlock = some k → v.b.ownBlock ≠ some k
  ac : ∀ k, v.a.ownBlock = some k → v.c.ownBlock ≠ some k
  bc : ∀ k, v.b.ownBlock = some k → v.c.ownBlock ≠ some k
def Mine (M : Nat) (v : Vs) (k : Nat) : Prop := k = M ∨ v.a.ownBlock = some k ∨ v.b.ownBlock = some k ∨ v.c.ownBlock = some k
/-- What there is behind a call that may turn it. -/
def NowX (M base : Nat) (v : Vs) (s : St) (w w' : World) : Prop := ∃ v', AtX w' M base v' s ∧ Mov (Mine M v) w w' ∧ ∀ k, Mine M v' k → w.heap.size ≤ k ∨ Mine M v k

variable {w w' w3 : World} {M base : Nat} {v : Vs} {s : St}
theorem AtX.lt (h : AtX w M base v s) : M < w.heap.size := (Array.getElem?_eq_some_iff.1 h.box).1
theorem AtX.far (h : AtX w M base v s) : v.a.ownBlock ≠ some M ∧ v.b.ownBlock ≠ some M ∧ v.c.ownBlock ≠ some M := ⟨row_box h.ra h.box (by decide), row_box h.rb h.box (by decide), row_box h.rc h.box (by decide)⟩
theorem AtX.keep (h : AtX w M base v s) (hk : ∀ k, Mine M v k → w'.heap[k]? = w.heap[k]?) : AtX w' M base v s :=
  ⟨(hk M (Or.inl rfl)).trans h.box, owns_far h.ra fun k e => hk k (Or.inr (Or.inl e)), owns_far h.rb fun k e => hk k (Or.inr (Or.inr (Or.inl e))), owns_far h.rc fun k e => hk k (Or.inr (Or.inr (Or.inr e))), h.ab, h.ac, h.bc⟩
theorem AtX.mine_lt (h : AtX w M base v s) {k : Nat} (hk : Mine M v k) : k < w.heap.size := by
  rcases hk with e | e | e | e
  · rw [e]; exact h.lt
  · exact (h.ra.lt k e).2
  · exact (h.rb.lt k e).2
  · exact (h.rc.lt k e).2
theorem AtX.mine_ge (h : AtX w M base v s) (hM : base ≤ M) {k : Nat} (hk : Mine M v k) : base ≤ k := by
  rcases hk with e | e | e | e
  · rw [e]; exact hM
  · exact (h.ra.lt k e).1
  · exact (h.rb.lt k e).1
  · exact (h.rc.lt k e).1
theorem AtX.below (h : AtX w M base v s) (k : Below w.heap.size w w') : AtX w' M base v s := h.keep fun j hj => k.block j (h.mine_lt hj)
theorem AtX.cells (h : AtX w M base v s) : w.cell? ⟨M, 0, none⟩ = some (.int .i64 s.w) ∧ w.cell? ⟨M, 1, none⟩ = some v.a ∧ w.cell? ⟨M, 2, none⟩ = some v.b ∧ w.cell? ⟨M, 3, none⟩ = some v.c ∧ (∀ j, w.frozen? ⟨M, j, none⟩ = false) :=
  ⟨Lib.cell_of_heap h.box 0, Lib.cell_of_heap h.box 1, Lib.cell_of_heap h.box 2, Lib.cell_of_heap h.box 3, fun j => Lib.frozen_of_heap h.box j⟩
theorem AtX.forms (h : AtX w M base v s) : ∃ a1 c1 a2 c2 a3 c3, v = ⟨.slice a1 s.rs.length c1, .slice a2 s.tw.length c2, .slice a3 s.tr.length c3⟩ := by
  obtain ⟨a1, c1, h1⟩ := owns_slice h.ra
  obtain ⟨a2, c2, h2⟩ := owns_slice h.rb
  obtain ⟨a3, c3, h3⟩ := owns_slice h.rc
  exact ⟨a1, c1, a2, c2, a3, c3, by cases v; simp only at h1 h2 h3; rw [h1, h2, h3]⟩
theorem NowX.same (h : AtX w M base v s) (k : Below w.heap.size w w') : NowX M base v s w w' := ⟨v, h.below k, Mov.of_below k, fun _ hk => Or.inr hk⟩
theorem NowX.next {w1 w2 : World} {s2 : St} {v1 : Vs} (h2 : Mov (Mine M v) w w1) (h3 : ∀ k, Mine M v1 k → w.heap.size ≤ k ∨ Mine M v k) (k : NowX M base v1 s2 w1 w2) : NowX M base v s2 w w2 := by
  obtain ⟨v2, k1, k2, k3⟩ := k
  have hz := h2.size
  refine ⟨v2, k1, h2.thn k2 fun i hi => h3 i hi, fun j hj => ?_⟩
  rcases k3 j hj with q | q
  · exact Or.inl (by omega)
  · exact h3 j q
/-- Below where it began nothing has turned. -/
theorem NowX.low {n : Nat} {s2 : St} (h : NowX M base v s2 w w') (ha : AtX w M base v s) (hM : base ≤ M) (hn : n ≤ base) (hb : n ≤ w.heap.size) : Below n w w' := by
  obtain ⟨_, _, h2, _⟩ := h
  exact h2.below hb fun k hk => Nat.le_trans hn (ha.mine_ge hM hk)

/-- What a store into one cell of the box leaves, behind a turn of one row. -/
theorem box_set {cs : Array Value} {t : TypeId} {fr : Nat × Nat} {i : Nat} {x : Value} (h : w.heap[M]? = some (.cells cs t fr)) : (w.setCell ⟨M, i, none⟩ x).heap[M]? = some (.cells (cs.setIfInBounds i x) t fr) := Lib.heap_setCell_same h x
theorem row_set {b0 n i : Nat} {x u : Value} {xs : List Value} (ho : w.ownsRow b0 3 1 u n xs) (hf : u.ownBlock ≠ some M) : (w.setCell ⟨M, i, none⟩ x).ownsRow b0 3 1 u n xs :=
  owns_far ho fun k hk => Below.heap_setCell _ _ _ _ (fun e => hf (by rw [hk]; exact congrArg some e))

/-- Another one writes now. -/
theorem NowX.setW (h : AtX w M base v s) (x : Int) : NowX M base v { s with w := x } w (w.setCell ⟨M, 0, none⟩ (.int .i64 x)) :=
  ⟨v, ⟨box_set h.box, row_set h.ra h.far.1, row_set h.rb h.far.2.1, row_set h.rc h.far.2.2, h.ab, h.ac, h.bc⟩, (Mov.refl _ _).set (p := ⟨M, 0, none⟩) (Or.inl rfl) _, fun _ hk => Or.inr hk⟩
theorem fresh_ne {S : Nat → Prop} {x y : Value} {n : Nat} (h : ∀ k, x.ownBlock = some k → n ≤ k ∨ S k) (hy : ∀ k, y.ownBlock = some k → k < n ∧ ¬ S k) : ∀ k, x.ownBlock = some k → y.ownBlock ≠ some k := fun k hk e => by
  have := hy k e
  rcases h k hk with q | q
  · omega
  · exact this.2 q
/-- Other rows are now the first, the second, the third. -/
theorem NowX.setA {x : Value} {l : List Int} (h : AtX w M base v s) (m : Mov (fun j => v.a.ownBlock = some j) w w3) (ho : w3.ownsRow base 3 1 x l.length (cZ l)) (hat : ∀ k, x.ownBlock = some k → w.heap.size ≤ k ∨ v.a.ownBlock = some k) : NowX M base v { s with rs := l } w (w3.setCell ⟨M, 1, none⟩ x) := by
  have hb3 : w3.heap[M]? = some (.cells #[.int .i64 s.w, v.a, v.b, v.c] 51 (0, 0)) := (m.block M h.lt h.far.1).trans h.box
  have fx : x.ownBlock ≠ some M := row_box ho hb3 (by decide)
  have qb : w3.ownsRow base 3 1 v.b s.tw.length (cZ s.tw) := owns_far h.rb fun k hk => m.block k (h.rb.lt k hk).2 (fun e => h.ab k e hk)
  have qc : w3.ownsRow base 3 1 v.c s.tr.length (cZ s.tr) := owns_far h.rc fun k hk => m.block k (h.rc.lt k hk).2 (fun e => h.ac k e hk)
  refine ⟨⟨x, v.b, v.c⟩, ⟨box_set hb3, row_set ho fx, row_set qb h.far.2.1, row_set qc h.far.2.2, ?_, ?_, h.bc⟩, ?_, ?_⟩
  · exact fresh_ne hat fun k e => ⟨(h.rb.lt k e).2, fun q => h.ab k q e⟩
  · exact fresh_ne hat fun k e => ⟨(h.rc.lt k e).2, fun q => h.ac k q e⟩
  · exact ((Mov.refl (Mine M v) w).thn m (fun i hi => Or.inr (Or.inr (Or.inl hi)))).set (p := ⟨M, 1, none⟩) (Or.inl rfl) _
  · rintro k (e | e | e | e)
    · exact Or.inr (Or.inl e)
    · exact (hat k e).imp id fun q => Or.inr (Or.inl q)
    · exact Or.inr (Or.inr (Or.inr (Or.inl e)))
    · exact Or.inr (Or.inr (Or.inr (Or.inr e)))
theorem NowX.setB {x : Value} {l : List Int} (h : AtX w M base v s) (m : Mov (fun j => v.b.ownBlock = some j) w w3) (ho : w3.ownsRow base 3 1 x l.length (cZ l)) (hat : ∀ k, x.ownBlock = some k → w.heap.size ≤ k ∨ v.b.ownBlock = some k) : NowX M base v { s with tw := l } w (w3.setCell ⟨M, 2, none⟩ x) := by
  have hb3 : w3.heap[M]? = some (.cells #[.int .i64 s.w, v.a, v.b, v.c] 51 (0, 0)) := (m.block M h.lt h.far.2.1).trans h.box
  have fx : x.ownBlock ≠ some M := row_box ho hb3 (by decide)
  have qa : w3.ownsRow base 3 1 v.a s.rs.length (cZ s.rs) := owns_far h.ra fun k hk => m.block k (h.ra.lt k hk).2 (fun e => h.ab k hk e)
  have qc : w3.ownsRow base 3 1 v.c s.tr.length (cZ s.tr) := owns_far h.rc fun k hk => m.block k (h.rc.lt k hk).2 (fun e => h.bc k e hk)
  refine ⟨⟨v.a, x, v.c⟩, ⟨box_set hb3, row_set qa h.far.1, row_set ho fx, row_set qc h.far.2.2, ?_, h.ac, ?_⟩, ?_, ?_⟩
  · exact fun k e1 e2 => fresh_ne hat (fun k e => ⟨(h.ra.lt k e).2, fun q => h.ab k e q⟩) k e2 e1
  · exact fresh_ne hat fun k e => ⟨(h.rc.lt k e).2, fun q => h.bc k q e⟩
  · exact ((Mov.refl (Mine M v) w).thn m (fun i hi => Or.inr (Or.inr (Or.inr (Or.inl hi))))).set (p := ⟨M, 2, none⟩) (Or.inl rfl) _
  · rintro k (e | e | e | e)
    · exact Or.inr (Or.inl e)
    · exact Or.inr (Or.inr (Or.inl e))
    · exact (hat k e).imp id fun q => Or.inr (Or.inr (Or.inl q))
    · exact Or.inr (Or.inr (Or.inr (Or.inr e)))
theorem NowX.setC {x : Value} {l : List Int} (h : AtX w M base v s) (m : Mov (fun j => v.c.ownBlock = some j) w w3) (ho : w3.ownsRow base 3 1 x l.length (cZ l)) (hat : ∀ k, x.ownBlock = some k → w.heap.size ≤ k ∨ v.c.ownBlock = some k) : NowX M base v { s with tr := l } w (w3.setCell ⟨M, 3, none⟩ x) := by
  have hb3 : w3.heap[M]? = some (.cells #[.int .i64 s.w, v.a, v.b, v.c] 51 (0, 0)) := (m.block M h.lt h.far.2.2).trans h.box
  have fx : x.ownBlock ≠ some M := row_box ho hb3 (by decide)
  have qa : w3.ownsRow base 3 1 v.a s.rs.length (cZ s.rs) := owns_far h.ra fun k hk => m.block k (h.ra.lt k hk).2 (fun e => h.ac k hk e)
  have qb : w3.ownsRow base 3 1 v.b s.tw.length (cZ s.tw) := owns_far h.rb fun k hk => m.block k (h.rb.lt k hk).2 (fun e => h.bc k hk e)
  refine ⟨⟨v.a, v.b, x⟩, ⟨box_set hb3, row_set qa h.far.1, row_set qb h.far.2.1, row_set ho fx, h.ab, ?_, ?_⟩, ?_, ?_⟩
  · exact fun k e1 e2 => fresh_ne hat (fun k e => ⟨(h.ra.lt k e).2, fun q => h.ac k e q⟩) k e2 e1
  · exact fun k e1 e2 => fresh_ne hat (fun k e => ⟨(h.rb.lt k e).2, fun q => h.bc k e q⟩) k e2 e1
  · exact ((Mov.refl (Mine M v) w).thn m (fun i hi => Or.inr (Or.inr (Or.inr (Or.inr hi))))).set (p := ⟨M, 3, none⟩) (Or.inl rfl) _
  · rintro k (e | e | e | e)
    · exact Or.inr (Or.inl e)
    · exact Or.inr (Or.inr (Or.inl e))
    · exact Or.inr (Or.inr (Or.inr (Or.inl e)))
    · exact (hat k e).imp id fun q => Or.inr (Or.inr (Or.inr q))

end Go.Proofs.Ytggfndokmdpaeaa
