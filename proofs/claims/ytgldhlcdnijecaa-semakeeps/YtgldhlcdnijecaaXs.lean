/-
  Two lists of numbers that are alike; and the program's calls said of one thing that lies behind a world in which it was not, with blocks beside it that stay.
-/
import Derived.Test.YtgldhlcdnijecaaWant2
import Derived.Lib.QuietBelow
namespace Go.Proofs.Ytgldhlcdnijecaa
open Go.RowKit

set_option maxHeartbeats 1000000 in
/-- Two lists that hold the same. -/
theorem same_ints (a1 a2 : Option Addr) (c1 c2 : Nat) (l : List Int) (w : World) (hl : l.length ≤ 1000) (h1 : RowZ w a1 l) (h2 : RowZ w a2 l) :
    Calls Try.prog 13 #[.slice a1 l.length c1, .slice a2 l.length c2] w fun e w' => e = .returned (.bool true) ∧ Below w.heap.size w w' := by
  have H1 := hide h1
  have H2 := hide h2
  clear h1 h2
  go_enter Try.func13, Try.ntmps13
  go_wp2
  go_loopw [5] (fun i wr => ∃ k : Nat, k ≤ l.length ∧ i = .int .i64 k ∧ Below w.heap.size w wr) (fun i _ => l.length - (intOf i).toNat)
  case atStart => exact ⟨0, Nat.zero_le _, rfl, Below.refl _ _⟩
  case round =>
    obtain ⟨k, hk, rfl, hnx⟩ := hrel
    by_cases hlt : k < l.length
    · have hn : l ≠ [] := fun e => by rw [e] at hlt; simp at hlt
      obtain ⟨g1, o1, rfl, _, e1⟩ := (H1.out.below hnx) hn
      obtain ⟨g2, o2, rfl, _, e2⟩ := (H2.out.below hnx) hn
      have q1 := e1 k hlt
      have q2 := e2 k hlt
      have b1 : (k : Int) < (l.length : Int) := by omega
      have b0 : (0 : Int) ≤ (k : Int) := by omega
      clear e1 e2 hn
      generalize gz l k = X at *
      go_wp2_with fail
      go_quiet (fail)
      go_wp2
      go_roundw
      case rel => exact ⟨k + 1, by omega, by go_num, hnx.trans (below_drewN _ _)⟩
      case measure => simp [intOf]; omega
    · go_wp2
      go_ret
      exact ⟨rfl, hnx⟩


/-- The blocks of an answer. -/
def adr (l : List Int) (a : Option Addr) (k : Nat) : Prop := l ≠ [] ∧ ∃ off, a = some ⟨k, off, none⟩
def Kept (F : Nat → Prop) (w w' : World) : Prop := (∀ k, F k → w'.heap[k]? = w.heap[k]?) ∧ w.heap.size ≤ w'.heap.size
theorem Kept.refl (F : Nat → Prop) (w : World) : Kept F w w := ⟨fun _ _ => rfl, Nat.le_refl _⟩
theorem Kept.trans {F : Nat → Prop} {a b c : World} (h : Kept F a b) (k : Kept F b c) : Kept F a c := ⟨fun i hi => (k.1 i hi).trans (h.1 i hi), Nat.le_trans h.2 k.2⟩
theorem Kept.mono {F G : Nat → Prop} {a b : World} (h : Kept F a b) (k : ∀ i, G i → F i) : Kept G a b := ⟨fun i hi => h.1 i (k i hi), h.2⟩
/-- Numbers that lie in blocks of the frame. -/
def RowF (F : Nat → Prop) (w : World) (a : Option Addr) (l : List Int) : Prop := l ≠ [] → ∃ g off, a = some ⟨g, off, none⟩ ∧ F g ∧ g < w.heap.size ∧ ∀ k, k < l.length → w.cell? ⟨g, off + k, none⟩ = some (.int .i64 (gz l k))
theorem RowF.row {F : Nat → Prop} {w : World} {a : Option Addr} {l : List Int} (h : RowF F w a l) : RowZ w a l := fun hn => by
  obtain ⟨g, off, h1, _, h3, h4⟩ := h hn
  exact ⟨g, off, h1, h3, h4⟩
theorem RowF.kept {F : Nat → Prop} {w w' : World} {a : Option Addr} {l : List Int} (h : RowF F w a l) (k : Kept F w w') : RowF F w' a l := fun hn => by
  obtain ⟨g, off, h1, h2, h3, h4⟩ := h hn
  exact ⟨g, off, h1, h2, Nat.lt_of_lt_of_le h3 k.2, fun j hj => (World.cell?_of_block (k.1 g h2)).trans (h4 j hj)⟩
theorem RowF.mono {F G : Nat → Prop} {w : World} {a : Option Addr} {l : List Int} (h : RowF F w a l) (k : ∀ i, F i → G i) : RowF G w a l := fun hn => by
  obtain ⟨g, off, h1, h2, h3, h4⟩ := h hn
  exact ⟨g, off, h1, k g h2, h3, h4⟩

/-- The program's, behind a world in which there was none of it; F: blocks that are not its own. -/
def Xs (W0 : World) (M : Nat) (F : Nat → Prop) (s : Sm) (w : World) : Prop :=
  W0.heap.size ≤ M ∧ (∃ v, AtS w M W0.heap.size v s ∧ ∀ k, F k → k < w.heap.size ∧ ¬ Mine M v k) ∧ Below W0.heap.size W0 w
def none0 (_ : Nat) : Prop := False
/-- An answer that is a row of its own. -/
theorem owned_row {w : World} {base : Nat} {a : Option Addr} {c : Nat} {l : List Int} (h : w.ownsRow base 3 1 (.slice a l.length c) l.length (cZ l)) {F : Nat → Prop} : RowF (fun k => F k ∨ adr l a k) w a l := fun hn => by
  obtain ⟨g, c', hv, _, hg, hc, _⟩ := row_open h (List.length_pos_iff.2 hn)
  injection hv with h1
  exact ⟨g, 0, h1, Or.inr ⟨hn, 0, h1⟩, hg, fun k hk => by rw [Nat.zero_add]; exact (hc k hk).1⟩
theorem owned_adr {a : Option Addr} {c : Nat} {l : List Int} {k : Nat} (hk : adr l a k) : (Value.slice a l.length c).ownBlock = some k := by
  obtain ⟨_, off, ha⟩ := hk
  rw [ha]
  rfl

section
variable {W0 w w' : World} {M : Nat} {F G : Nat → Prop} {s s2 : Sm} {l : List Int} {v r : Value}
theorem Xs.below (h : Xs W0 M F s w) (k : Below w.heap.size w w') : Xs W0 M F s w' := by
  obtain ⟨h1, ⟨v, h2, h3⟩, h4⟩ := h
  exact ⟨h1, ⟨v, h2.below k, fun j hj => ⟨Nat.lt_of_lt_of_le (h3 j hj).1 k.size, (h3 j hj).2⟩⟩, below_next h4 k⟩
theorem Xs.size (h : Xs W0 M F s w) : W0.heap.size ≤ w.heap.size := h.2.2.size
theorem Xs.mono (h : Xs W0 M F s w) (k : ∀ i, G i → F i) : Xs W0 M G s w := by
  obtain ⟨h1, ⟨v, h2, h3⟩, h4⟩ := h
  exact ⟨h1, ⟨v, h2, fun j hj => h3 j (k j hj)⟩, h4⟩
theorem Xs.frame (h : Xs W0 M F s w) (k : Below w.heap.size w w') : Kept F w w' := by
  obtain ⟨_, ⟨v, _, h3⟩, _⟩ := h
  exact ⟨fun j hj => k.block j (h3 j hj).1, k.size⟩
theorem Xs.now (h1 : W0.heap.size ≤ M) (h2 : AtS w M W0.heap.size v s) (h3 : ∀ k, F k → k < w.heap.size ∧ ¬ Mine M v k) (h4 : Below W0.heap.size W0 w) (k : NowS M W0.heap.size v s2 w w') : Xs W0 M F s2 w' ∧ Kept F w w' := by
  have hlow := k.low h2 h1 (Nat.le_refl _) h4.size
  obtain ⟨v', k1, k2, k3⟩ := k
  have hz := k2.size
  refine ⟨⟨h1, ⟨v', k1, fun j hj => ⟨Nat.lt_of_lt_of_le (h3 j hj).1 hz, fun q => ?_⟩⟩, h4.trans hlow⟩, fun j hj => k2.block j (h3 j hj).1 (h3 j hj).2, hz⟩
  rcases k3 j q with q2 | q2
  · have := (h3 j hj).1; omega
  · exact (h3 j hj).2 q2
/-- What is answered joins the frame. -/
theorem Xs.join (h : Xs W0 M F s w) {base : Nat} {a : Option Addr} {c : Nat} (ho : w.ownsRow base 3 1 (.slice a l.length c) l.length (cZ l)) : Xs W0 M (fun k => F k ∨ adr l a k) s w := by
  obtain ⟨h1, ⟨v, h2, h3⟩, h4⟩ := h
  refine ⟨h1, ⟨v, h2, fun j hj => ?_⟩, h4⟩
  rcases hj with hj | hj
  · exact h3 j hj
  · have e := owned_adr (c := c) hj
    refine ⟨(ho.lt j e).2, fun m => ?_⟩
    rcases m with m | m
    · rw [m] at e; exact row_box ho h2.box (by decide) e
    · exact rows_apart h2.row ho j m e
theorem Xs.nowA (h1 : W0.heap.size ≤ M) (h2 : AtS w M W0.heap.size v s) (h3 : ∀ k, F k → k < w.heap.size ∧ ¬ Mine M v k) (h4 : Below W0.heap.size W0 w) (k : NowA M W0.heap.size v s2 l w r w') :
    ∃ a c, r = .slice a l.length c ∧ RowF (fun k => F k ∨ adr l a k) w' a l ∧ Xs W0 M (fun k => F k ∨ adr l a k) s2 w' ∧ Kept F w w' := by
  obtain ⟨k1, k2⟩ := k
  obtain ⟨q1, q2⟩ := Xs.now h1 h2 h3 h4 k1
  obtain ⟨a, c, rfl⟩ := owns_slice k2
  exact ⟨a, c, rfl, owned_row k2, q1.join k2, q2⟩

theorem x_new (n : Int) : Calls Try.prog 8 #[.int .i64 n] w fun e w' => e = .returned (.pointer (some ⟨w.heap.size, 0, none⟩)) ∧ Xs w w.heap.size none0 (newS n) w' :=
  (new_any n w).mono fun _ _ k => ⟨k.1, Nat.le_refl _, ⟨_, k.2.1, fun _ h => h.elim⟩, k.2.2⟩
theorem x_free (h : Xs W0 M F s w) : Calls Try.prog 11 #[.pointer (some ⟨M, 0, none⟩)] w fun e w' => e = .returned (.int .i64 s.f) ∧ w' = w := by
  obtain ⟨h1, ⟨v, h2, h3⟩, h4⟩ := h
  exact free_any M _ v s w h2
theorem x_size (h : Xs W0 M F s w) : Calls Try.prog 12 #[.pointer (some ⟨M, 0, none⟩)] w fun e w' => e = .returned (.int .i64 s.n) ∧ w' = w := by
  obtain ⟨h1, ⟨v, h2, h3⟩, h4⟩ := h
  exact size_any M _ v s w h2
theorem x_waits (hl : s.q.length ≤ 1000) (h : Xs W0 M F s w) : Calls Try.prog 14 #[.pointer (some ⟨M, 0, none⟩)] w fun e w' => ∃ a c, e = .returned (.slice a (ts s.q).length c) ∧ RowF (fun k => F k ∨ adr (ts s.q) a k) w' a (ts s.q) ∧ Xs W0 M (fun k => F k ∨ adr (ts s.q) a k) s w' ∧ Kept F w w' := by
  have h' := h
  obtain ⟨h1, ⟨v, h2, h3⟩, h4⟩ := h
  refine (waits_any M _ v s hl w h2).mono fun e w' k => ?_
  obtain ⟨r, rfl, k2, k3⟩ := k
  obtain ⟨a, c, rfl⟩ := owns_slice k2
  exact ⟨a, c, rfl, owned_row k2, (h'.below k3).join k2, h'.frame k3⟩
theorem x_try (hO : Okw s) (hl : s.q.length ≤ 1000) (t m : Int) (h : Xs W0 M F s w) : Calls Try.prog 19 #[.pointer (some ⟨M, 0, none⟩), .int .i64 t, .int .i64 m] w fun e w' => e = .returned (.int .i64 (tryE s t m)) ∧ Xs W0 M F (tryS s t m) w' ∧ Kept F w w' := by
  obtain ⟨h1, ⟨v, h2, h3⟩, h4⟩ := h
  exact (try_any M _ v s hO hl t m w h2).mono fun e w' k => ⟨k.1, Xs.now h1 h2 h3 h4 k.2⟩
theorem x_acq (hO : Okw s) (hl : s.q.length ≤ 1000) (t m : Int) (h : Xs W0 M F s w) : Calls Try.prog 18 #[.pointer (some ⟨M, 0, none⟩), .int .i64 t, .int .i64 m] w fun e w' => e = .returned (.int .i64 (acqE s t m)) ∧ Xs W0 M F (acqS s t m) w' ∧ Kept F w w' := by
  obtain ⟨h1, ⟨v, h2, h3⟩, h4⟩ := h
  exact (acq_any M _ v s hO hl t m w h2 h4.size).mono fun e w' k => ⟨k.1, Xs.now h1 h2 h3 h4 k.2⟩
theorem x_rel (hO : Okw s) (hl : s.q.length ≤ 1000) (m : Int) (h : Xs W0 M F s w) : Calls Try.prog 17 #[.pointer (some ⟨M, 0, none⟩), .int .i64 m] w fun e w' => ∃ a c, e = .returned (.tuple #[.slice a (relO s m).length c, .int .i64 (relE s m)]) ∧ RowF (fun k => F k ∨ adr (relO s m) a k) w' a (relO s m) ∧ Xs W0 M (fun k => F k ∨ adr (relO s m) a k) (relS s m) w' ∧ Kept F w w' := by
  obtain ⟨h1, ⟨v, h2, h3⟩, h4⟩ := h
  refine (rel_any M _ v s hO hl m w h2).mono fun e w' k => ?_
  obtain ⟨r, rfl, k2⟩ := k
  obtain ⟨a, c, rfl, q⟩ := Xs.nowA h1 h2 h3 h4 k2
  exact ⟨a, c, rfl, q⟩
theorem x_drop (hO : Okw s) (hl : s.q.length ≤ 1000) (t : Int) (h : Xs W0 M F s w) : Calls Try.prog 16 #[.pointer (some ⟨M, 0, none⟩), .int .i64 t] w fun e w' => ∃ a c, e = .returned (.tuple #[.slice a (dropO s t).length c, .bool (dropB s t)]) ∧ RowF (fun k => F k ∨ adr (dropO s t) a k) w' a (dropO s t) ∧ Xs W0 M (fun k => F k ∨ adr (dropO s t) a k) (dropS s t) w' ∧ Kept F w w' := by
  obtain ⟨h1, ⟨v, h2, h3⟩, h4⟩ := h
  refine (drop_any M _ v s hO hl t w h2).mono fun e w' k => ?_
  obtain ⟨r, rfl, k2⟩ := k
  obtain ⟨a, c, rfl, q⟩ := Xs.nowA h1 h2 h3 h4 k2
  exact ⟨a, c, rfl, q⟩
end

end Go.Proofs.Ytgldhlcdnijecaa
