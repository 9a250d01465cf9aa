/-
  How values that were sent lie in memory, the program's (one box, round and round) and the document's (a box and a row); and what a call may turn of them.
-/
import Derived.Test.YtkjiompjfolipaaRows
import Derived.Test.YtkjiompjfolipaaMath
import Derived.WalkKit
import Derived.WalkSpells
import Derived.WalkLawsBesides
import Derived.Lib.BufferMore
import Derived.BigQuiet
import Derived.Deep.QuietTactic
import Derived.Sort.Row
namespace Go.Proofs.Ytkjiompjfolipaa
open Go.RowKit

theorem wrapB {n : Int} (h : -9223372036854775808 ≤ n ∧ n ≤ 9223372036854775807) : IntKind.i64.wrap n = n := by rw [IntKind.wrap_i64]; omega
theorem hide {p : Prop} (h : p) : Hid p := h
theorem info3 : (Try.prog.info? 3).map (fun i => (i.zero, i.size, i.bytes)) = some (some (.int .i64 0), 1, 8) := by kernel_rfl
theorem ret_int {a b : Int} (h : a = b) : Ending.returned (Value.int .i64 a) = .returned (.int .i64 b) := by rw [h]

def cZ (l : List Int) : List Value := l.map (Value.int .i64)
theorem cZ_len (l : List Int) : (cZ l).length = l.length := by simp [cZ]
theorem cZ_snoc (l : List Int) (x : Int) : cZ (l ++ [x]) = cZ l ++ [.int .i64 x] := by simp [cZ]
theorem cZ_app (l m : List Int) : cZ (l ++ m) = cZ l ++ cZ m := by simp [cZ]
theorem cZ_get (l : List Int) {j : Nat} (h : j < l.length) : (cZ l)[j]? = some (.int .i64 (gz l j)) := by simp [cZ, gz, h]
theorem cZ_ones (l : List Int) : ∀ u ∈ cZ l, u.oneCell' = true := by
  intro u hu
  simp [cZ] at hu
  obtain ⟨a, _, rfl⟩ := hu
  rfl
theorem add_none (g j k : Nat) : (⟨g, j, none⟩ : Addr).add k = ⟨g, j + k, none⟩ := by unfold Addr.add; split <;> simp_all

/-- All blocks but some are as they were. -/
structure Mov (S : Nat → Prop) (a b : World) : Prop where
  os : b.os = a.os
  tape : b.tape = a.tape
  output : b.output = a.output
  size : a.heap.size ≤ b.heap.size
  block : ∀ k, k < a.heap.size → ¬ S k → b.heap[k]? = a.heap[k]?
theorem Mov.refl (S : Nat → Prop) (a : World) : Mov S a a := ⟨rfl, rfl, rfl, Nat.le_refl _, fun _ _ _ => rfl⟩
theorem Mov.of_below {S : Nat → Prop} {a b : World} (h : Below a.heap.size a b) : Mov S a b := ⟨h.os, h.tape, h.output, h.size, fun k hk _ => h.block k hk⟩
theorem Mov.set {S : Nat → Prop} {a b : World} (h : Mov S a b) {p : Addr} (hp : S p.block) (v : Value) : Mov S a (b.setCell p v) :=
  ⟨h.os, h.tape, h.output, by simpa using h.size, fun k hk hS => (Below.heap_setCell b p v k (fun e => hS (e ▸ hp))).trans (h.block k hk hS)⟩
theorem Mov.below {S : Nat → Prop} {a b : World} {n : Nat} (h : Mov S a b) (hn : n ≤ a.heap.size) (hS : ∀ k, S k → n ≤ k) : Below n a b :=
  ⟨h.os, h.tape, h.output, h.size, fun k hk => h.block k (by omega) (fun e => by have := hS k e; omega)⟩
theorem Mov.trans {S : Nat → Prop} {a b c : World} (h : Mov S a b) (k : Mov S b c) : Mov S a c :=
  ⟨k.os.trans h.os, k.tape.trans h.tape, k.output.trans h.output, Nat.le_trans h.size k.size, fun i hi hS => (k.block i (Nat.lt_of_lt_of_le hi h.size) hS).trans (h.block i hi hS)⟩
/-- What is new may turn, too. -/
theorem Mov.thn {S T : Nat → Prop} {a b c : World} (h : Mov S a b) (k : Mov T b c) (hT : ∀ i, T i → a.heap.size ≤ i ∨ S i) : Mov S a c :=
  ⟨k.os.trans h.os, k.tape.trans h.tape, k.output.trans h.output, Nat.le_trans h.size k.size, fun i hi hS => (k.block i (Nat.lt_of_lt_of_le hi h.size) (fun e => by rcases hT i e with q | q; omega; exact hS q)).trans (h.block i hi hS)⟩
theorem below_next {W a b : World} (h : Below W.heap.size W a) (k : Below a.heap.size a b) : Below W.heap.size W b := h.trans (k.mono h.size)
theorem below1 (w : World) (o1 : Obj) : Below w.heap.size w (w.alloc o1) := (Below.refl _ _).alloc (Nat.le_refl _) _
theorem below_drewN (a : World) {m : Nat} (n : Nat) : Below m a (a.drewN n) := ⟨rfl, rfl, rfl, Nat.le_refl _, fun _ _ => rfl⟩
theorem bcell {W w1 : World} (hb : Below W.heap.size W w1) : (∀ b o, b < W.heap.size → w1.cell? ⟨b, o, none⟩ = W.cell? ⟨b, o, none⟩) ∧ (∀ b o, b < W.heap.size → w1.frozen? ⟨b, o, none⟩ = W.frozen? ⟨b, o, none⟩) :=
  ⟨fun b o h => hb.cell (p := ⟨b, o, none⟩) h, fun b o h => hb.frozen (p := ⟨b, o, none⟩) h⟩

theorem owns_slice {W : World} {base e size : Nat} {v : Value} {n : Nat} {xs : List Value} (h : W.ownsRow base e size v n xs) : ∃ a c, v = .slice a n c := by
  rcases h.2 with ⟨rfl, rfl⟩ | ⟨g, cap, cur, rfl, _⟩
  · exact ⟨none, 0, rfl⟩
  · exact ⟨_, _, rfl⟩
theorem owns_far {w w' : World} {base e size n : Nat} {v : Value} {xs : List Value} (h : w.ownsRow base e size v n xs) (hk : ∀ k, v.ownBlock = some k → w'.heap[k]? = w.heap[k]?) : w'.ownsRow base e size v n xs := by
  refine ⟨h.1, ?_⟩
  rcases h.2 with h3 | ⟨g, cap, cur, rfl, hb, hh, r⟩
  · exact Or.inl h3
  · exact Or.inr ⟨g, cap, cur, rfl, hb, (hk g rfl).trans hh, r⟩
theorem owns_below {w w' : World} {base e size n : Nat} {v : Value} {xs : List Value} (h : w.ownsRow base e size v n xs) (k : Below w.heap.size w w') : w'.ownsRow base e size v n xs := owns_far h fun j hj => k.block j (h.lt j hj).2
theorem owns_base {w : World} {b c e n k : Nat} {v : Value} {xs : List Value} (h : w.ownsRow b e n v k xs) (hc : c ≤ b) : w.ownsRow c e n v k xs := by
  refine ⟨h.1, ?_⟩
  rcases h.2 with h3 | ⟨g, cap, cur, r1, hb, rest⟩
  · exact Or.inl h3
  · exact Or.inr ⟨g, cap, cur, r1, Nat.le_trans hc hb, rest⟩
/-- A row of numbers is no box. -/
theorem row_box {w : World} {base n S : Nat} {v : Value} {xs : List Value} {cs : Array Value} {t : TypeId} {fr : Nat × Nat} (h : w.ownsRow base 3 1 v n xs) (hb : w.heap[S]? = some (.cells cs t fr)) (ht : t ≠ 3) : v.ownBlock ≠ some S := by
  intro e
  rcases h.2 with ⟨rfl, _⟩ | ⟨g, cap, cur, rfl, _, hh, _⟩
  · simp [Value.ownBlock] at e
  · simp [Value.ownBlock] at e
    subst e
    have := hb.symm.trans hh
    simp at this
    exact ht this.2.1
theorem row_open {w : World} {base : Nat} {v : Value} {l : List Int} (h : w.ownsRow base 3 1 v l.length (cZ l)) (h0 : 0 < l.length) :
    ∃ g c, v = .slice (some ⟨g, 0, none⟩) l.length c ∧ base ≤ g ∧ g < w.heap.size ∧ (∀ k, k < l.length → w.cell? ⟨g, k, none⟩ = some (.int .i64 (gz l k)) ∧ w.frozen? ⟨g, k, none⟩ = false) ∧ l.length ≤ c := by
  have h' := h
  rcases h.2 with ⟨_, h1⟩ | ⟨g, c, cur, rfl, hb, hh, hc, _⟩
  · omega
  refine ⟨g, c, rfl, hb, (Array.getElem?_eq_some_iff.1 hh).1, fun k hk => ⟨?_, h'.frozenAt k⟩, hc⟩
  rw [h'.cellAt k (by omega), cZ_get l hk]
theorem row_cap {w : World} {base : Nat} {a : Option Addr} {n c : Nat} {xs : List Value} (h : w.ownsRow base 3 1 (.slice a n c) n xs) : n ≤ c ∧ c ≤ maxLen := by
  rcases h.2 with ⟨e, _⟩ | ⟨g, cap, cur, e, _, _, hc, hm, _⟩
  · injection e with _ e2 e3; subst e2; subst e3; exact ⟨Nat.le_refl _, Nat.zero_le _⟩
  · injection e with _ _ e3; subst e3; exact ⟨hc, hm⟩
theorem newsI {W : World} {b : Nat} {v : Value} (h : W.cell? ⟨b, 0, none⟩ = some v) : ∀ j u, [v][j]? = some u → W.cell? ((⟨b, 0, none⟩ : Addr).add j) = some u := by
  intro j u hj
  match j, hj with
  | 0, hj => simp at hj; subst hj; simpa [Addr.add] using h
theorem onesI (x : Int) : ∀ u ∈ [Value.int .i64 x], u.oneCell' = true := by
  intro u hu
  simp at hu
  subst hu
  rfl

/-- Numbers that lie somewhere in memory. -/
def RowZ (w : World) (a : Option Addr) (l : List Int) : Prop := l ≠ [] → ∃ g off, a = some ⟨g, off, none⟩ ∧ g < w.heap.size ∧ ∀ k, k < l.length → w.cell? ⟨g, off + k, none⟩ = some (.int .i64 (gz l k))
theorem RowZ.below {w w' : World} {a : Option Addr} {l : List Int} (h : RowZ w a l) (k : Below w.heap.size w w') : RowZ w' a l := fun hn => by
  obtain ⟨g, off, h1, h2, h3⟩ := h hn
  exact ⟨g, off, h1, Nat.lt_of_lt_of_le h2 k.size, fun i hi => (k.cell (p := ⟨g, _, none⟩) h2).trans (h3 i hi)⟩
theorem owns_rowZ {w : World} {base : Nat} {a : Option Addr} {c : Nat} {l : List Int} (h : w.ownsRow base 3 1 (.slice a l.length c) l.length (cZ l)) : RowZ w a l := fun hn => by
  obtain ⟨g, c', hv, _, hg, hc, _⟩ := row_open h (List.length_pos_iff.2 hn)
  injection hv with h1
  exact ⟨g, 0, h1, hg, fun k hk => by rw [Nat.zero_add]; exact (hc k hk).1⟩

/-- The program's. -/
def AtM (w : World) (M : Nat) (s : Ps) : Prop := ∃ vs, Fit vs s.l s.k ∧ w.heap[M]? = some (.cells #[.int .i64 (gz vs 0), .int .i64 (gz vs 1), .int .i64 (gz vs 2), .int .i64 (gz vs 3), .int .i64 (gz vs 4), .int .i64 (gz vs 5), .int .i64 (gz vs 6), .int .i64 (gz vs 7), .int .i64 ((s.k : Int) - 1), .int .i64 (s.l.length : Int)] 47 (0, 0))
/-- The document's. -/
structure AtR (w : World) (R base : Nat) (u : Value) (s : Ps) : Prop where
  box : w.heap[R]? = some (.cells #[u, .int .i64 (s.k : Int)] 39 (0, 0))
  row : w.ownsRow base 3 1 u s.l.length (cZ s.l)
def Mine (R : Nat) (u : Value) (k : Nat) : Prop := k = R ∨ u.ownBlock = some k
/-- What there is behind a call that may turn it. -/
def NowM (M : Nat) (s : Ps) (w w' : World) : Prop := AtM w' M s ∧ Mov (fun k => k = M) w w'
def NowR (R base : Nat) (u : Value) (s : Ps) (w w' : World) : Prop := ∃ u', AtR w' R base u' s ∧ Mov (Mine R u) w w' ∧ ∀ k, u'.ownBlock = some k → w.heap.size ≤ k ∨ u.ownBlock = some k

variable {w w' : World} {M R base : Nat} {u : Value} {s : Ps}
theorem AtM.lt (h : AtM w M s) : M < w.heap.size := by obtain ⟨_, _, h⟩ := h; exact (Array.getElem?_eq_some_iff.1 h).1
theorem AtR.lt (h : AtR w R base u s) : R < w.heap.size := (Array.getElem?_eq_some_iff.1 h.box).1
theorem AtR.far (h : AtR w R base u s) : u.ownBlock ≠ some R := row_box h.row h.box (by decide)
theorem AtM.keep (h : AtM w M s) (hk : w'.heap[M]? = w.heap[M]?) : AtM w' M s := by obtain ⟨vs, h1, h2⟩ := h; exact ⟨vs, h1, Eq.trans hk h2⟩
theorem AtR.keep (h : AtR w R base u s) (hk : ∀ k, Mine R u k → w'.heap[k]? = w.heap[k]?) : AtR w' R base u s := ⟨(hk R (Or.inl rfl)).trans h.box, owns_far h.row fun k e => hk k (Or.inr e)⟩
theorem AtR.mine_lt (h : AtR w R base u s) {k : Nat} (hk : Mine R u k) : k < w.heap.size := by
  rcases hk with e | e
  · rw [e]; exact h.lt
  · exact (h.row.lt k e).2
theorem AtR.mine_ge (h : AtR w R base u s) (hR : base ≤ R) {k : Nat} (hk : Mine R u k) : base ≤ k := by
  rcases hk with e | e
  · rw [e]; exact hR
  · exact (h.row.lt k e).1
/-- The program's box is none of the document's. -/
theorem AtR.other (h : AtR w R base u s) {q : Ps} (hM : AtM w M q) : ¬ Mine R u M := by
  obtain ⟨vs, _, hM'⟩ := hM
  rintro (e | e)
  · subst e
    have := hM'.symm.trans h.box
    simp at this
  · exact row_box h.row hM' (by decide) e
theorem AtM.below (h : AtM w M s) (k : Below w.heap.size w w') : AtM w' M s := h.keep (k.block _ h.lt)
theorem AtR.below (h : AtR w R base u s) (k : Below w.heap.size w w') : AtR w' R base u s := h.keep fun j hj => k.block j (h.mine_lt hj)
theorem AtM.cells (h : AtM w M s) : w.cell? ⟨M, 8, none⟩ = some (.int .i64 ((s.k : Int) - 1)) ∧ w.cell? ⟨M, 9, none⟩ = some (.int .i64 (s.l.length : Int)) ∧ (∀ j, w.frozen? ⟨M, j, none⟩ = false) := by
  obtain ⟨vs, _, h⟩ := h
  exact ⟨Lib.cell_of_heap h 8, Lib.cell_of_heap h 9, fun j => Lib.frozen_of_heap h j⟩
theorem AtM.place (h : AtM w M s) {j : Nat} (hj : j < 8) : ∃ x : Int, w.cell? ⟨M, j, none⟩ = some (.int .i64 x) := by
  obtain ⟨vs, _, h⟩ := h
  match j, hj with
  | 0, _ => exact ⟨_, Lib.cell_of_heap h 0⟩
  | 1, _ => exact ⟨_, Lib.cell_of_heap h 1⟩
  | 2, _ => exact ⟨_, Lib.cell_of_heap h 2⟩
  | 3, _ => exact ⟨_, Lib.cell_of_heap h 3⟩
  | 4, _ => exact ⟨_, Lib.cell_of_heap h 4⟩
  | 5, _ => exact ⟨_, Lib.cell_of_heap h 5⟩
  | 6, _ => exact ⟨_, Lib.cell_of_heap h 6⟩
  | 7, _ => exact ⟨_, Lib.cell_of_heap h 7⟩
/-- One that is kept. -/
theorem AtM.value (h : AtM w M s) (hO : Okp s) {i : Nat} (hi : i < s.l.length) (hk : s.l.length ≤ i + s.k) : w.cell? ⟨M, i % s.k, none⟩ = some (.int .i64 (gz s.l i)) := by
  obtain ⟨vs, hf, h⟩ := h
  rw [← hf.2 i hi hk]
  have hlt : i % s.k < 8 := Nat.lt_of_lt_of_le (Nat.mod_lt _ (by have := hO.1; omega)) hO.2
  generalize i % s.k = j at *
  match j, hlt with
  | 0, _ => exact Lib.cell_of_heap h 0
  | 1, _ => exact Lib.cell_of_heap h 1
  | 2, _ => exact Lib.cell_of_heap h 2
  | 3, _ => exact Lib.cell_of_heap h 3
  | 4, _ => exact Lib.cell_of_heap h 4
  | 5, _ => exact Lib.cell_of_heap h 5
  | 6, _ => exact Lib.cell_of_heap h 6
  | 7, _ => exact Lib.cell_of_heap h 7
theorem AtR.cells (h : AtR w R base u s) : w.cell? ⟨R, 0, none⟩ = some u ∧ w.cell? ⟨R, 1, none⟩ = some (.int .i64 (s.k : Int)) ∧ (∀ j, w.frozen? ⟨R, j, none⟩ = false) :=
  ⟨Lib.cell_of_heap h.box 0, Lib.cell_of_heap h.box 1, fun j => Lib.frozen_of_heap h.box j⟩
theorem NowM.same (h : AtM w M s) (k : Below w.heap.size w w') : NowM M s w w' := ⟨h.below k, Mov.of_below k⟩
theorem NowR.same (h : AtR w R base u s) (k : Below w.heap.size w w') : NowR R base u s w w' := ⟨u, h.below k, Mov.of_below k, fun _ hk => Or.inr hk⟩
/-- Below where it began nothing has turned. -/
theorem NowM.low {n : Nat} {s2 : Ps} (h : NowM M s2 w w') (hn : n ≤ M) (hb : n ≤ w.heap.size) : Below n w w' := h.2.below hb fun k hk => by rw [hk]; exact hn
theorem NowR.low {n : Nat} {s2 : Ps} (h : NowR R base u s2 w w') (ha : AtR w R base u s) (hR : base ≤ R) (hn : n ≤ base) (hb : n ≤ w.heap.size) : Below n w w' := by
  obtain ⟨_, _, h2, _⟩ := h
  exact h2.below hb fun k hk => Nat.le_trans hn (ha.mine_ge hR hk)
theorem NowR.first {w1 : World} {s2 : Ps} (hb : Below w.heap.size w w1) (k : NowR R base u s2 w1 w') : NowR R base u s2 w w' := by
  obtain ⟨u', k1, k2, k3⟩ := k
  have hz := hb.size
  refine ⟨u', k1, (Mov.of_below hb).thn k2 (fun i hi => Or.inr hi), fun j hj => ?_⟩
  rcases k3 j hj with q | q
  · exact Or.inl (by omega)
  · exact Or.inr q
/-- One more is sent. -/
theorem AtM.snd (h : AtM w M s) (hO : Okp s) (v : Int) {x : Int} (hx : x = (s.l.length : Int) + 1) : AtM ((w.setCell ⟨M, s.l.length % s.k, none⟩ (.int .i64 v)).setCell ⟨M, 9, none⟩ (.int .i64 x)) M (s.snd v) := by
  obtain ⟨vs, hf, h⟩ := h
  have hlt : s.l.length % s.k < 8 := Nat.lt_of_lt_of_le (Nat.mod_lt _ (by have := hO.1; omega)) hO.2
  have hlv : s.l.length % s.k < vs.length := by rw [hf.1]; exact hlt
  refine ⟨_, hf.snd hO.1 hO.2 v, ?_⟩
  have e : ((s.snd v).l.length : Int) = x := by rw [snd_len, hx]; simp
  have e2 : (s.snd v).k = s.k := rfl
  have := Lib.heap_setCell_same (i := 9) (Lib.heap_setCell_same (i := s.l.length % s.k) h (.int .i64 v)) (.int .i64 x)
  rw [e, e2]
  simp only [gz_set hlv]
  generalize s.l.length % s.k = j at *
  match j, hlt with
  | 0, _ => exact this
  | 1, _ => exact this
  | 2, _ => exact this
  | 3, _ => exact this
  | 4, _ => exact this
  | 5, _ => exact this
  | 6, _ => exact this
  | 7, _ => exact this
/-- The row is another one now. -/
theorem AtR.setRow {u' : Value} {l2 : List Int} (h : AtR w R base u s) (ho : w.ownsRow base 3 1 u' l2.length (cZ l2)) : AtR (w.setCell ⟨R, 0, none⟩ u') R base u' ⟨l2, s.k⟩ :=
  ⟨Lib.heap_setCell_same h.box u', owns_far ho fun k hk => Below.heap_setCell _ _ _ _ (fun e => row_box ho h.box (by decide) (by rw [hk]; exact congrArg some e))⟩

end Go.Proofs.Ytkjiompjfolipaa
