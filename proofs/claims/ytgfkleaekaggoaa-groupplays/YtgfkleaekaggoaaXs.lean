/-
  Two lists of numbers that are alike; and the program's calls said of one thing that lies behind a world in which it was not, with blocks beside it that stay.
-/
import Derived.Test.YtgfkleaekaggoaaRefDrop
import Derived.Test.YtgfkleaekaggoaaWait
import Derived.Test.YtgfkleaekaggoaaAdd
import Derived.Lib.QuietBelow
namespace Go.Proofs.Ytgfkleaekaggoaa
open Go.RowKit

set_option maxHeartbeats 1000000 in
/-- Two lists that hold the same. -/
theorem same_ints (a1 a2 : Option Addr) (c1 c2 : Nat) (l : List Int) (w : World) (hl : l.length ≤ 1000) (h1 : RowZ w a1 l) (h2 : RowZ w a2 l) :
    Calls Try.prog 15 #[.slice a1 l.length c1, .slice a2 l.length c2] w fun e w' => e = .returned (.bool true) ∧ Below w.heap.size w w' := by
  have H1 := hide h1
  have H2 := hide h2
  clear h1 h2
  go_enter Try.func15, Try.ntmps15
  go_wp2
  go_loopw [5] (fun i wr => ∃ k : Nat, k ≤ l.length ∧ i = .int .i64 k ∧ Below w.heap.size w wr) (fun i _ => l.length - (intOf i).toNat)
  case atStart => exact ⟨0, Nat.zero_le _, rfl, Below.refl _ _⟩
  case round =>
    obtain ⟨k, hk, rfl, hnx⟩ := hrel
    by_cases hlt : k < l.length
    · have hn : l ≠ [] := fun e => by rw [e] at hlt; simp at hlt
      obtain ⟨g1, o1, rfl, _, e1⟩ := (H1.out.below hnx) hn
      obtain ⟨g2, o2, rfl, _, e2⟩ := (H2.out.below hnx) hn
      have q1 := e1 k hlt
      have q2 := e2 k hlt
      have b1 : (k : Int) < (l.length : Int) := by omega
      have b0 : (0 : Int) ≤ (k : Int) := by omega
      clear e1 e2 hn
      generalize gz l k = X at *
      go_wp2_with fail
      go_quiet (fail)
      go_wp2
      go_roundw
      case rel => exact ⟨k + 1, by omega, by go_num, hnx.trans (below_drewN _ _)⟩
      case measure => simp [intOf]; omega
    · go_wp2
      go_ret
      exact ⟨rfl, hnx⟩


/-- The blocks of an answer. -/
def adr (l : List Int) (a : Option Addr) (k : Nat) : Prop := l ≠ [] ∧ ∃ off, a = some ⟨k, off, none⟩
def Kept (F : Nat → Prop) (w w' : World) : Prop := (∀ k, F k → w'.heap[k]? = w.heap[k]?) ∧ w.heap.size ≤ w'.heap.size
theorem Kept.refl (F : Nat → Prop) (w : World) : Kept F w w := ⟨fun _ _ => rfl, Nat.le_refl _⟩
theorem Kept.trans {F : Nat → Prop} {a b c : World} (h : Kept F a b) (k : Kept F b c) : Kept F a c := ⟨fun i hi => (k.1 i hi).trans (h.1 i hi), Nat.le_trans h.2 k.2⟩
theorem Kept.mono {F G : Nat → Prop} {a b : World} (h : Kept F a b) (k : ∀ i, G i → F i) : Kept G a b := ⟨fun i hi => h.1 i (k i hi), h.2⟩
/-- Numbers that lie in blocks of the frame. -/
def RowF (F : Nat → Prop) (w : World) (a : Option Addr) (l : List Int) : Prop := l ≠ [] → ∃ g off, a = some ⟨g, off, none⟩ ∧ F g ∧ g < w.heap.size ∧ ∀ k, k < l.length → w.cell? ⟨g, off + k, none⟩ = some (.int .i64 (gz l k))
theorem RowF.row {F : Nat → Prop} {w : World} {a : Option Addr} {l : List Int} (h : RowF F w a l) : RowZ w a l := fun hn => by
  obtain ⟨g, off, h1, _, h3, h4⟩ := h hn
  exact ⟨g, off, h1, h3, h4⟩
theorem RowF.kept {F : Nat → Prop} {w w' : World} {a : Option Addr} {l : List Int} (h : RowF F w a l) (k : Kept F w w') : RowF F w' a l := fun hn => by
  obtain ⟨g, off, h1, h2, h3, h4⟩ := h hn
  exact ⟨g, off, h1, h2, Nat.lt_of_lt_of_le h3 k.2, fun j hj => (World.cell?_of_block (k.1 g h2)).trans (h4 j hj)⟩
theorem RowF.mono {F G : Nat → Prop} {w : World} {a : Option Addr} {l : List Int} (h : RowF F w a l) (k : ∀ i, F i → G i) : RowF G w a l := fun hn => by
  obtain ⟨g, off, h1, h2, h3, h4⟩ := h hn
  exact ⟨g, off, h1, k g h2, h3, h4⟩

/-- The program's, behind a world in which there was none of it; F: blocks that are not its own. -/
def Xs (W0 : World) (M : Nat) (F : Nat → Prop) (c : Int) (l : List Int) (w : World) : Prop :=
  W0.heap.size ≤ M ∧ (∃ v, AtM w M W0.heap.size v c l ∧ ∀ k, F k → k < w.heap.size ∧ ¬ Mine M v k) ∧ Below W0.heap.size W0 w
def none0 (_ : Nat) : Prop := False
/-- An answer that is a row of its own. -/
theorem owned_row {w : World} {base : Nat} {a : Option Addr} {c : Nat} {l : List Int} (h : w.ownsRow base 3 1 (.slice a l.length c) l.length (cZ l)) {F : Nat → Prop} : RowF (fun k => F k ∨ adr l a k) w a l := fun hn => by
  obtain ⟨g, c', hv, _, hg, hc, _⟩ := row_open h (List.length_pos_iff.2 hn)
  injection hv with h1
  exact ⟨g, 0, h1, Or.inr ⟨hn, 0, h1⟩, hg, fun k hk => by rw [Nat.zero_add]; exact (hc k hk).1⟩
theorem owned_adr {a : Option Addr} {c : Nat} {l : List Int} {k : Nat} (hk : adr l a k) : (Value.slice a l.length c).ownBlock = some k := by
  obtain ⟨_, off, ha⟩ := hk
  rw [ha]
  rfl

theorem own_F {w : World} {base : Nat} {a : Option Addr} {c : Nat} {l : List Int} {F : Nat → Prop} (h : w.ownsRow base 3 1 (.slice a l.length c) l.length (cZ l)) (hF : ∀ k, F k → k < w.heap.size) : ∀ k, F k ∨ adr l a k → k < w.heap.size := fun k hk => by
  rcases hk with q | q
  · exact hF k q
  · exact (h.lt k (owned_adr (c := c) q)).2

section
variable {W0 w w' : World} {M : Nat} {F G : Nat → Prop} {l l2 : List Int} {c c2 : Int} {v r : Value}
theorem Xs.below (h : Xs W0 M F c l w) (k : Below w.heap.size w w') : Xs W0 M F c l w' := by
  obtain ⟨h1, ⟨v, h2, h3⟩, h4⟩ := h
  exact ⟨h1, ⟨v, h2.below k, fun j hj => ⟨Nat.lt_of_lt_of_le (h3 j hj).1 k.size, (h3 j hj).2⟩⟩, below_next h4 k⟩
theorem Xs.size (h : Xs W0 M F c l w) : W0.heap.size ≤ w.heap.size := h.2.2.size
theorem Xs.mono (h : Xs W0 M F c l w) (k : ∀ i, G i → F i) : Xs W0 M G c l w := by
  obtain ⟨h1, ⟨v, h2, h3⟩, h4⟩ := h
  exact ⟨h1, ⟨v, h2, fun j hj => h3 j (k j hj)⟩, h4⟩
theorem Xs.frame (h : Xs W0 M F c l w) (k : Below w.heap.size w w') : Kept F w w' := by
  obtain ⟨_, ⟨v, _, h3⟩, _⟩ := h
  exact ⟨fun j hj => k.block j (h3 j hj).1, k.size⟩
theorem Xs.now (h1 : W0.heap.size ≤ M) (h2 : AtM w M W0.heap.size v c l) (h3 : ∀ k, F k → k < w.heap.size ∧ ¬ Mine M v k) (h4 : Below W0.heap.size W0 w) (k : NowM M W0.heap.size v c2 l2 w w') : Xs W0 M F c2 l2 w' ∧ Kept F w w' := by
  have hlow := k.low h2 h1 (Nat.le_refl _) h4.size
  obtain ⟨v', k1, k2, k3⟩ := k
  have hz := k2.size
  refine ⟨⟨h1, ⟨v', k1, fun j hj => ⟨Nat.lt_of_lt_of_le (h3 j hj).1 hz, fun q => ?_⟩⟩, h4.trans hlow⟩, fun j hj => k2.block j (h3 j hj).1 (h3 j hj).2, hz⟩
  rcases q with q | q
  · exact (h3 j hj).2 (Or.inl q)
  rcases k3 j q with q2 | q2
  · have := (h3 j hj).1; omega
  · exact (h3 j hj).2 (Or.inr q2)
/-- What is answered joins the frame. -/
theorem Xs.join (h : Xs W0 M F c l w) {base : Nat} {a : Option Addr} {d : Nat} {q : List Int} (hg : w.heap.size ≤ base) (ho : w'.ownsRow base 3 1 (.slice a q.length d) q.length (cZ q)) (k : Below w.heap.size w w') : Xs W0 M (fun k => F k ∨ adr q a k) c l w' := by
  obtain ⟨h1, ⟨v, h2, h3⟩, h4⟩ := h
  refine ⟨h1, ⟨v, h2.below k, fun j hj => ?_⟩, below_next h4 k⟩
  rcases hj with hj | hj
  · exact ⟨Nat.lt_of_lt_of_le (h3 j hj).1 k.size, (h3 j hj).2⟩
  · have e := ho.lt j (owned_adr (c := d) hj)
    exact ⟨e.2, fun m => by have := h2.mine_lt m; omega⟩

theorem x_new : Calls Try.prog 8 #[] w fun e w' => e = .returned (.pointer (some ⟨w.heap.size, 0, none⟩)) ∧ Xs w w.heap.size none0 0 [] w' :=
  (new_any w).mono fun _ _ k => ⟨k.1, Nat.le_refl _, ⟨_, k.2.1, fun _ h => h.elim⟩, k.2.2⟩
theorem x_count (h : Xs W0 M F c l w) : Calls Try.prog 16 #[.pointer (some ⟨M, 0, none⟩)] w fun e w' => e = .returned (.int .i64 c) ∧ w' = w := by
  obtain ⟨h1, ⟨v, h2, h3⟩, h4⟩ := h
  exact count_any M _ v c l w h2
theorem x_waits (hl : l.length ≤ 1000) (h : Xs W0 M F c l w) : Calls Try.prog 17 #[.pointer (some ⟨M, 0, none⟩)] w fun e w' => ∃ a k, e = .returned (.slice a l.length k) ∧ RowZ w' a l ∧ Below w.heap.size w w' := by
  obtain ⟨h1, ⟨v, h2, h3⟩, h4⟩ := h
  refine (waits_any M _ v c l hl w h2).mono fun e w' k => ?_
  obtain ⟨r, rfl, k2, k3⟩ := k
  obtain ⟨a, d, rfl⟩ := owns_slice k2
  exact ⟨a, d, rfl, owns_rowZ k2, k3⟩
theorem x_drop (hO : Okz l) (hl : l.length ≤ 1000) (t : Int) (h : Xs W0 M F c l w) : Calls Try.prog 9 #[.pointer (some ⟨M, 0, none⟩), .int .i64 t] w fun e w' => e = .returned (.bool (inZ l t)) ∧ Xs W0 M F c (rmZ l t) w' ∧ Kept F w w' := by
  obtain ⟨h1, ⟨v, h2, h3⟩, h4⟩ := h
  exact (drop_any M _ v c l hl hO.nd t w h2).mono fun e w' k => ⟨k.1, Xs.now h1 h2 h3 h4 k.2⟩
theorem x_wait (hl : l.length ≤ 1000) (t : Int) (h : Xs W0 M F c l w) : Calls Try.prog 11 #[.pointer (some ⟨M, 0, none⟩), .int .i64 t] w fun e w' => e = .returned (.int .i64 (waitE c l t)) ∧ Xs W0 M F c (waitL c l t) w' ∧ Kept F w w' := by
  obtain ⟨h1, ⟨v, h2, h3⟩, h4⟩ := h
  exact (wait_any M _ v c l hl t w h2 h4.size).mono fun e w' k => ⟨k.1, Xs.now h1 h2 h3 h4 k.2⟩
/-- All that waited are told in the row that was theirs. -/
theorem x_add (hc : 0 ≤ c ∧ c ≤ 1048576) (n : Int) (h : Xs W0 M F c l w) : Calls Try.prog 13 #[.pointer (some ⟨M, 0, none⟩), .int .i64 n] w fun e w' => ∃ a d, e = .returned (.tuple #[.slice a (addW c n l).length d, .int .i64 (addE c n)]) ∧ RowF (fun k => F k ∨ adr (addW c n l) a k) w' a (addW c n l) ∧ Xs W0 M (fun k => F k ∨ adr (addW c n l) a k) (addC c n) (addL c n l) w' ∧ Kept F w w' := by
  obtain ⟨h1, ⟨v, h2, h3⟩, h4⟩ := h
  refine (add_any M _ v c l hc n w h2).mono fun e w' k => ?_
  obtain ⟨r, rfl, q2, qr, v', q1, q3, q4⟩ := k
  have hf := h2.far
  have hm : ∀ k, F k → ¬ k = M := fun k hk e => (h3 k hk).2 (Or.inl e)
  obtain ⟨a, d, rfl⟩ := owns_slice q2
  refine ⟨a, d, rfl, owned_row q2, ⟨h1, ⟨v', q1, fun j hj => ⟨own_F q2 (fun k hk => Nat.lt_of_lt_of_le (h3 k hk).1 q3.size) j hj, fun m => ?_⟩⟩, h4.trans (q3.below h4.size fun k e => by rw [e]; exact h1)⟩, fun j hj => q3.block j (h3 j hj).1 (hm j hj), q3.size⟩
  rcases hj with hj | hj
  · rcases m with m | m
    · exact hm j hj m
    · exact (h3 j hj).2 (Or.inr (q4 j m).1)
  · have ho := owned_adr (c := d) hj
    rcases m with m | m
    · exact hf (by rw [qr j ho, m])
    · exact (q4 j m).2 ho
/-- What is told is not asked for. -/
theorem x_add0 (hc : 0 ≤ c ∧ c ≤ 1048576) (n : Int) (h : Xs W0 M F c l w) : Calls Try.prog 13 #[.pointer (some ⟨M, 0, none⟩), .int .i64 n] w fun e w' => ∃ r, e = .returned (.tuple #[r, .int .i64 (addE c n)]) ∧ Xs W0 M F (addC c n) (addL c n l) w' ∧ Kept F w w' :=
  (x_add hc n h).mono fun _ _ ⟨_, _, k1, _, k3, k4⟩ => ⟨_, k1, k3.mono fun _ hi => Or.inl hi, k4⟩
end

end Go.Proofs.Ytgfkleaekaggoaa
