/-
  Queues and the document's queues side by side, with an act in a box.
-/
import Derived.Test.YtonahaembfbgbaaRefPop
import Derived.Test.YtonahaembfbgbaaRefPush
import Derived.Test.YtonahaembfbgbaaActs
namespace Go.Proofs.Ytonahaembfbgbaa
open Go.RowKit

/-- Both as they lie in memory; the program's have come to s1, the document's to s2. -/
structure PS (w : World) (B P R T : Nat) (wr : World) (s1 s2 : Qs) (vs : Nat → Value) : Prop where
  a : AtQ wr B P s1
  r : AtR wr R T s2 vs
  b : Below w.heap.size w wr

theorem PS.below {w : World} {B P R T : Nat} {wr w3 : World} {s1 s2 : Qs} {vs : Nat → Value} (h : PS w B P R T wr s1 s2 vs) (k : Below wr.heap.size wr w3) : PS w B P R T w3 s1 s2 vs := ⟨h.a.below k, h.r.below k, below_next h.b k⟩
theorem PS.stepQ {w : World} {B P R T : Nat} {wr w3 : World} {s1 s2 s3 : Qs} {vs : Nat → Value} (h : PS w B P R T wr s1 s2 vs) (k : Now B P s3 wr w3) (hB : w.heap.size ≤ B) (hP : w.heap.size ≤ P) : PS w B P R T w3 s3 s2 vs := ⟨k.1, h.r.turn h.a k.2, turn_next h.b k.2 hB hP⟩
theorem PS.stepR {w : World} {B P R T : Nat} {wr w3 : World} {s1 s2 s3 : Qs} {vs : Nat → Value} (h : PS w B P R T wr s1 s2 vs) (k : NowR R T s3 wr w3) (hR : w.heap.size ≤ R) (hT : w.heap.size ≤ T) : ∃ vs', PS w B P R T w3 s1 s3 vs' := by
  obtain ⟨vs', k1, k2⟩ := k
  exact ⟨vs', h.a.turnR h.r k2, k1, turn_next h.b k2 hR hT⟩
theorem PS.drew {w : World} {B P R T : Nat} {wr : World} {s1 s2 : Qs} {vs : Nat → Value} (h : PS w B P R T wr s1 s2 vs) : PS w B P R T wr.drew s1 s2 vs := h.below (Below.refl _ _).drew

/-- The act of a round, in a box of its own. -/
def Box (W : World) (bx : Nat) (d x y : Int) : Prop := W.heap[bx]? = some (.cells #[.int .u8 d, .int .i64 x, .int .i64 y] 28 (0, 0))
theorem Box.new (W : World) (d x y : Int) : Box (W.alloc (.cells #[.int .u8 d, .int .i64 x, .int .i64 y] 28)) W.heap.size d x y := heap_alloc_new _ _
theorem Box.cells {W : World} {bx : Nat} {d x y : Int} (h : Box W bx d x y) : W.cell? ⟨bx, 0, none⟩ = some (.int .u8 d) ∧ W.cell? ⟨bx, 1, none⟩ = some (.int .i64 x) ∧ W.cell? ⟨bx, 2, none⟩ = some (.int .i64 y) :=
  ⟨Lib.cell_of_heap h 0, Lib.cell_of_heap h 1, Lib.cell_of_heap h 2⟩
theorem Box.lt {W : World} {bx : Nat} {d x y : Int} (h : Box W bx d x y) : bx < W.heap.size := (Array.getElem?_eq_some_iff.1 h).1
theorem Box.below {W W' : World} {bx : Nat} {d x y : Int} (h : Box W bx d x y) (k : Below W.heap.size W W') : Box W' bx d x y := (k.block _ h.lt).trans h
theorem Box.now {W W' : World} {bx B P : Nat} {d x y : Int} {s s' : Qs} (h : Box W bx d x y) (hA : AtQ W B P s) (k : Now B P s' W W') : Box W' bx d x y := by
  obtain ⟨f, _, hF⟩ := hA
  obtain ⟨ds, d1, _⟩ := hF.row
  refine (k.2.block bx h.lt (fun e => ?_) (fun e => ?_)).trans h
  · subst e; have := hF.box.symm.trans h; simp at this
  · subst e; have := d1.symm.trans h; simp at this
theorem Box.nowR {W W' : World} {bx R T : Nat} {d x y : Int} {s s' : Qs} {vs : Nat → Value} (h : Box W bx d x y) (hR : AtR W R T s vs) (k : NowR R T s' W W') : Box W' bx d x y := by
  obtain ⟨vs', _, k2⟩ := k
  obtain ⟨ds, d1, _⟩ := hR.tab
  refine (k2.block bx h.lt (fun e => ?_) (fun e => ?_)).trans h
  · subst e; have := hR.box.symm.trans h; simp at this
  · subst e; have := d1.symm.trans h; simp at this

/-- The state of a round: both, and the act. -/
structure PB (w : World) (B P R T bx : Nat) (d x y : Int) (W : World) (s1 s2 : Qs) (vs : Nat → Value) : Prop where
  p : PS w B P R T W s1 s2 vs
  x : Box W bx d x y
theorem PB.drew {w : World} {B P R T bx : Nat} {d x y : Int} {W : World} {s1 s2 : Qs} {vs : Nat → Value} (h : PB w B P R T bx d x y W s1 s2 vs) : PB w B P R T bx d x y W.drew s1 s2 vs := ⟨h.p.drew, h.x⟩
theorem PB.below {w : World} {B P R T bx : Nat} {d x y : Int} {W W' : World} {s1 s2 : Qs} {vs : Nat → Value} (h : PB w B P R T bx d x y W s1 s2 vs) (k : Below W.heap.size W W') : PB w B P R T bx d x y W' s1 s2 vs := ⟨h.p.below k, h.x.below k⟩
theorem PB.stepQ {w : World} {B P R T bx : Nat} {d x y : Int} {W W' : World} {s1 s2 s3 : Qs} {vs : Nat → Value} (h : PB w B P R T bx d x y W s1 s2 vs) (k : Now B P s3 W W') (hB : w.heap.size ≤ B) (hP : w.heap.size ≤ P) : PB w B P R T bx d x y W' s3 s2 vs := ⟨h.p.stepQ k hB hP, h.x.now h.p.a k⟩
theorem PB.stepR {w : World} {B P R T bx : Nat} {d x y : Int} {W W' : World} {s1 s2 s3 : Qs} {vs : Nat → Value} (h : PB w B P R T bx d x y W s1 s2 vs) (k : NowR R T s3 W W') (hR : w.heap.size ≤ R) (hT : w.heap.size ≤ T) : ∃ vs', PB w B P R T bx d x y W' s1 s3 vs' := by
  obtain ⟨vs', h'⟩ := h.p.stepR k hR hT
  exact ⟨vs', h', h.x.nowR h.p.r k⟩

section
variable {w : World} {B P R T bx : Nat} {d x y : Int} {s s3 : Qs} {vs : Nat → Value}
theorem pop_both (hok : Ok s) (hB : w.heap.size ≤ B) (hP : w.heap.size ≤ P) (W : World) (h : PB w B P R T bx d x y W s s vs) :
    Calls Try.prog 10 #[.pointer (some ⟨B, 0, none⟩), .int .i64 x] W fun e w' => e = .returned (.tuple #[.int .i64 (popX s x : Int), .bool (popB s x)]) ∧ PB w B P R T bx d x y w' (popOf s x) s vs :=
  (pop_any B P s x W hok h.p.a).mono fun _ _ q => ⟨q.1, h.stepQ q.2 hB hP⟩
theorem pop_both2 (hok : Ok s) (hR : w.heap.size ≤ R) (hT : w.heap.size ≤ T) (W : World) (h : PB w B P R T bx d x y W s3 s vs) :
    Calls Try.prog 11 #[.pointer (some ⟨R, 0, none⟩), .int .i64 x] W fun e w' => e = .returned (.tuple #[.int .i64 (popX s x : Int), .bool (popB s x)]) ∧ ∃ vs', PB w B P R T bx d x y w' s3 (popOf s x) vs' :=
  (refPop_any R T s vs x W hok h.p.r).mono fun _ _ q => ⟨q.1, h.stepR q.2 hR hT⟩
theorem rm_both (hok : Ok s) (hB : w.heap.size ≤ B) (hP : w.heap.size ≤ P) (W : World) (h : PB w B P R T bx d x y W s s vs) :
    Calls Try.prog 12 #[.pointer (some ⟨B, 0, none⟩), .int .i64 y] W fun e w' => e = .returned (.bool (rmB s y)) ∧ PB w B P R T bx d x y w' (rmOf s y) s vs :=
  (remove_any B P s y W hok h.p.a).mono fun _ _ q => ⟨q.1, h.stepQ q.2 hB hP⟩
theorem rm_both2 (hok : Ok s) (hR : w.heap.size ≤ R) (hT : w.heap.size ≤ T) (W : World) (h : PB w B P R T bx d x y W s3 s vs) :
    Calls Try.prog 13 #[.pointer (some ⟨R, 0, none⟩), .int .i64 y] W fun e w' => e = .returned (.bool (rmB s y)) ∧ ∃ vs', PB w B P R T bx d x y w' s3 (rmOf s y) vs' :=
  (refRemove_any R T s vs y W hok h.p.r).mono fun _ _ q => ⟨q.1, h.stepR q.2 hR hT⟩
theorem push_both (hok : Ok s) (hB : w.heap.size ≤ B) (hP : w.heap.size ≤ P) (W : World) (h : PB w B P R T bx d x y W s s vs) :
    Calls Try.prog 14 #[.pointer (some ⟨B, 0, none⟩), .int .i64 x, .int .i64 y] W fun e w' => e = .returned (.bool (pushB s x y)) ∧ PB w B P R T bx d x y w' (pushOf s x y) s vs :=
  (push_any B P s x y W hok h.p.a).mono fun _ _ q => ⟨q.1, h.stepQ q.2 hB hP⟩
theorem push_both2 (hok : Ok s) (hR : w.heap.size ≤ R) (hT : w.heap.size ≤ T) (W : World) (h : PB w B P R T bx d x y W s3 s vs) :
    Calls Try.prog 15 #[.pointer (some ⟨R, 0, none⟩), .int .i64 x, .int .i64 y] W fun e w' => e = .returned (.bool (pushB s x y)) ∧ ∃ vs', PB w B P R T bx d x y w' s3 (pushOf s x y) vs' :=
  (refPush_any R T s vs x y W hok h.p.r).mono fun _ _ q => ⟨q.1, h.stepR q.2 hR hT⟩
theorem where_both (W : World) (h : PB w B P R T bx d x y W s s vs) : Calls Try.prog 19 #[.pointer (some ⟨B, 0, none⟩), .int .i64 y] W fun e w' => e = .returned (.int .i64 (whereOf s y)) ∧ w' = W := where_any B P s y W h.p.a
theorem where_both2 (hok : Ok s) (W : World) (h : PB w B P R T bx d x y W s s vs) : Calls Try.prog 20 #[.pointer (some ⟨R, 0, none⟩), .int .i64 y] W fun e w' => e = .returned (.int .i64 (whereOf s y)) ∧ w' = W := refWhere_any R T s vs y W hok h.p.r
/-- A row with these numbers. -/
def Row (W : World) (l : List Nat) (a : Option Addr) (m c : Nat) : Prop := ∃ base, W.ownsRow base 3 1 (.slice a m c) m (cI l) ∧ l.length = m
theorem Row.below {W W' : World} {l : List Nat} {a : Option Addr} {m c : Nat} (h : Row W l a m c) (k : Below W.heap.size W W') : Row W' l a m c := by
  obtain ⟨base, h1, h2⟩ := h
  exact ⟨base, owns_below h1 k, h2⟩
theorem all_both (hok : Ok s) {n : Nat} (hn : n < s.nq) {m : Nat} (hm : (s.l n).length = m) (W : World) (h : PB w B P R T bx d x y W s s vs) :
    Calls Try.prog 17 #[.pointer (some ⟨B, 0, none⟩), .int .i64 (n : Int)] W fun e w' => ∃ a c, e = .returned (.slice a m c) ∧ Row w' (s.l n) a m c ∧ PB w B P R T bx d x y w' s s vs := by
  have hal := all_any B P s (n : Int) W hok h.p.a (by have := all_few hok (n : Int); omega)
  rw [all_nat hn] at hal
  refine hal.mono ?_
  rintro e w' ⟨v, rfl, ho, hb⟩
  rw [hm] at ho
  obtain ⟨a, c, rfl⟩ := owns_slice ho
  exact ⟨a, c, rfl, ⟨_, ho, hm⟩, h.below hb⟩
theorem len_both (hok : Ok s) {n : Nat} (hn : n < s.nq) {m : Nat} (hm : (s.l n).length = m) (W : World) (h : PB w B P R T bx d x y W s s vs) :
    Calls Try.prog 18 #[.pointer (some ⟨B, 0, none⟩), .int .i64 (n : Int)] W fun e w' => e = .returned (.int .i64 (m : Int)) ∧ PB w B P R T bx d x y w' s s vs := by
  have hal := len_any B P s (n : Int) W hok h.p.a (by have := all_few hok (n : Int); omega)
  rw [all_nat hn, hm] at hal
  exact hal.mono fun _ _ q => ⟨q.1, h.below q.2⟩
theorem ints_both {l : List Nat} {a1 a2 : Option Addr} {m c1 c2 : Nat} (hl : m ≤ 100) (W : World) (h1 : Row W l a1 m c1) (h2 : Row W l a2 m c2) (h : PB w B P R T bx d x y W s s vs) :
    Calls Try.prog 16 #[.slice a1 m c1, .slice a2 m c2] W fun e w' => e = .returned (.bool true) ∧ PB w B P R T bx d x y w' s s vs := by
  obtain ⟨b1, h1, e1⟩ := h1
  obtain ⟨b2, h2, _⟩ := h2
  subst e1
  exact (ints_same a1 a2 c1 c2 _ _ l W hl h1 h2).mono fun _ _ q => ⟨q.1, h.below q.2⟩
theorem row_both {n : Nat} (hn : n < s.nq) {m : Nat} (hm : (s.l n).length = m) {W : World} (h : PB w B P R T bx d x y W s s vs) : ∃ a c, vs n = .slice a m c ∧ ∀ W', PB w B P R T bx d x y W' s s vs → Row W' (s.l n) a m c ∧ W'.cell? ⟨R, 0, none⟩ = some (.slice (some ⟨T, 0, none⟩) s.nq s.nq) ∧ W'.cell? ⟨T, n, none⟩ = some (.slice a m c) ∧ R < W'.heap.size ∧ T < W'.heap.size := by
  have hr := h.p.r.row n hn
  rw [hm] at hr
  obtain ⟨a, c, hv⟩ := owns_slice hr
  refine ⟨a, c, hv, fun W' h' => ?_⟩
  have hr' := h'.p.r.row n hn
  rw [hm, hv] at hr'
  exact ⟨⟨0, hr', hm⟩, h'.p.r.cells.1, by rw [← hv]; exact (h'.p.r.at hn).1, h'.p.r.ltR, h'.p.r.ltT⟩
end

end Go.Proofs.Ytonahaembfbgbaa
