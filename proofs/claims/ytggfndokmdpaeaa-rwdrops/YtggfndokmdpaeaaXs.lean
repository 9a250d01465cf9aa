/-
  Two lists of numbers that are alike; and the program's calls said of one thing that lies behind a world in which it was not, with blocks beside it that stay.
-/
import Derived.Test.YtggfndokmdpaeaaGive
import Derived.Lib.QuietBelow
namespace Go.Proofs.Ytggfndokmdpaeaa
open Go.RowKit

set_option maxHeartbeats 1000000 in
/-- Two lists that hold the same. -/
theorem same_ints (a1 a2 : Option Addr) (c1 c2 : Nat) (l : List Int) (w : World) (hl : l.length ≤ 1000) (h1 : RowZ w a1 l) (h2 : RowZ w a2 l) :
    Calls Try.prog 20 #[.slice a1 l.length c1, .slice a2 l.length c2] w fun e w' => e = .returned (.bool true) ∧ Below w.heap.size w w' := by
  have H1 := hide h1
  have H2 := hide h2
  clear h1 h2
  go_enter Try.func20, Try.ntmps20
  go_wp2
  go_loopw [5] (fun i wr => ∃ k : Nat, k ≤ l.length ∧ i = .int .i64 k ∧ Below w.heap.size w wr) (fun i _ => l.length - (intOf i).toNat)
  case atStart => exact ⟨0, Nat.zero_le _, rfl, Below.refl _ _⟩
  case round =>
    obtain ⟨k, hk, rfl, hnx⟩ := hrel
    by_cases hlt : k < l.length
    · have hn : l ≠ [] := fun e => by rw [e] at hlt; simp at hlt
      obtain ⟨g1, o1, rfl, _, e1⟩ := (H1.out.below hnx) hn
      obtain ⟨g2, o2, rfl, _, e2⟩ := (H2.out.below hnx) hn
      have q1 := e1 k hlt
      have q2 := e2 k hlt
      have b1 : (k : Int) < (l.length : Int) := by omega
      have b0 : (0 : Int) ≤ (k : Int) := by omega
      clear e1 e2 hn
      generalize gz l k = X at *
      go_wp2_with fail
      go_quiet (fail)
      go_wp2
      go_roundw
      case rel => exact ⟨k + 1, by omega, by go_num, hnx.trans (below_drewN _ _)⟩
      case measure => simp [intOf]; omega
    · go_wp2
      go_ret
      exact ⟨rfl, hnx⟩


/-- The blocks of an answer. -/
def adr (l : List Int) (a : Option Addr) (k : Nat) : Prop := l ≠ [] ∧ ∃ off, a = some ⟨k, off, none⟩
def Kept (F : Nat → Prop) (w w' : World) : Prop := (∀ k, F k → w'.heap[k]? = w.heap[k]?) ∧ w.heap.size ≤ w'.heap.size
theorem Kept.refl (F : Nat → Prop) (w : World) : Kept F w w := ⟨fun _ _ => rfl, Nat.le_refl _⟩
theorem Kept.trans {F : Nat → Prop} {a b c : World} (h : Kept F a b) (k : Kept F b c) : Kept F a c := ⟨fun i hi => (k.1 i hi).trans (h.1 i hi), Nat.le_trans h.2 k.2⟩
theorem Kept.mono {F G : Nat → Prop} {a b : World} (h : Kept F a b) (k : ∀ i, G i → F i) : Kept G a b := ⟨fun i hi => h.1 i (k i hi), h.2⟩
/-- Numbers that lie in blocks of the frame. -/
def RowF (F : Nat → Prop) (w : World) (a : Option Addr) (l : List Int) : Prop := l ≠ [] → ∃ g off, a = some ⟨g, off, none⟩ ∧ F g ∧ g < w.heap.size ∧ ∀ k, k < l.length → w.cell? ⟨g, off + k, none⟩ = some (.int .i64 (gz l k))
theorem RowF.row {F : Nat → Prop} {w : World} {a : Option Addr} {l : List Int} (h : RowF F w a l) : RowZ w a l := fun hn => by
  obtain ⟨g, off, h1, _, h3, h4⟩ := h hn
  exact ⟨g, off, h1, h3, h4⟩
theorem RowF.kept {F : Nat → Prop} {w w' : World} {a : Option Addr} {l : List Int} (h : RowF F w a l) (k : Kept F w w') : RowF F w' a l := fun hn => by
  obtain ⟨g, off, h1, h2, h3, h4⟩ := h hn
  exact ⟨g, off, h1, h2, Nat.lt_of_lt_of_le h3 k.2, fun j hj => (World.cell?_of_block (k.1 g h2)).trans (h4 j hj)⟩
theorem RowF.mono {F G : Nat → Prop} {w : World} {a : Option Addr} {l : List Int} (h : RowF F w a l) (k : ∀ i, F i → G i) : RowF G w a l := fun hn => by
  obtain ⟨g, off, h1, h2, h3, h4⟩ := h hn
  exact ⟨g, off, h1, k g h2, h3, h4⟩

/-- The program's, behind a world in which there was none of it; F: blocks that are not its own. -/
def Xs (W0 : World) (M : Nat) (F : Nat → Prop) (s : St) (w : World) : Prop :=
  W0.heap.size ≤ M ∧ (∃ v, AtX w M W0.heap.size v s ∧ ∀ k, F k → k < w.heap.size ∧ ¬ Mine M v k) ∧ Below W0.heap.size W0 w

section
variable {W0 w w' : World} {M : Nat} {F G : Nat → Prop} {s s2 : St} {l : List Int} {v : Vs} {r : Value}
theorem Xs.below (h : Xs W0 M F s w) (k : Below w.heap.size w w') : Xs W0 M F s w' := by
  obtain ⟨h1, ⟨v, h2, h3⟩, h4⟩ := h
  exact ⟨h1, ⟨v, h2.below k, fun j hj => ⟨Nat.lt_of_lt_of_le (h3 j hj).1 k.size, (h3 j hj).2⟩⟩, below_next h4 k⟩
theorem Xs.size (h : Xs W0 M F s w) : W0.heap.size ≤ w.heap.size := h.2.2.size
theorem Xs.mono (h : Xs W0 M F s w) (k : ∀ i, G i → F i) : Xs W0 M G s w := by
  obtain ⟨h1, ⟨v, h2, h3⟩, h4⟩ := h
  exact ⟨h1, ⟨v, h2, fun j hj => h3 j (k j hj)⟩, h4⟩
theorem Xs.frame (h : Xs W0 M F s w) (k : Below w.heap.size w w') : Kept F w w' := by
  obtain ⟨_, ⟨v, _, h3⟩, _⟩ := h
  exact ⟨fun j hj => k.block j (h3 j hj).1, k.size⟩
theorem Xs.now (h1 : W0.heap.size ≤ M) (h2 : AtX w M W0.heap.size v s) (h3 : ∀ k, F k → k < w.heap.size ∧ ¬ Mine M v k) (h4 : Below W0.heap.size W0 w) (k : NowX M W0.heap.size v s2 w w') : Xs W0 M F s2 w' ∧ Kept F w w' := by
  have hlow := k.low h2 h1 (Nat.le_refl _) h4.size
  obtain ⟨v', k1, k2, k3⟩ := k
  have hz := k2.size
  refine ⟨⟨h1, ⟨v', k1, fun j hj => ⟨Nat.lt_of_lt_of_le (h3 j hj).1 hz, fun q => ?_⟩⟩, h4.trans hlow⟩, fun j hj => k2.block j (h3 j hj).1 (h3 j hj).2, hz⟩
  rcases k3 j q with q2 | q2
  · have := (h3 j hj).1; omega
  · exact (h3 j hj).2 q2
theorem Xs.nowA (h1 : W0.heap.size ≤ M) (h2 : AtX w M W0.heap.size v s) (h3 : ∀ k, F k → k < w.heap.size ∧ ¬ Mine M v k) (h4 : Below W0.heap.size W0 w) (k : NowA M W0.heap.size v s2 l w r w') :
    ∃ a c, r = .slice a l.length c ∧ RowF (fun k => F k ∨ adr l a k) w' a l ∧ Xs W0 M (fun k => F k ∨ adr l a k) s2 w' ∧ Kept F w w' := by
  obtain ⟨v', a, c, k0, k1, k2, k3, k4⟩ := k
  have hlow := NowX.low ⟨v', k1, k2, k3⟩ h2 h1 (Nat.le_refl _) h4.size
  have hz := k2.size
  refine ⟨a, c, k0, fun hn => ?_, ⟨h1, ⟨v', k1, fun j hj => ?_⟩, h4.trans hlow⟩, fun j hj => k2.block j (h3 j hj).1 (h3 j hj).2, hz⟩
  · obtain ⟨g, off, q1, q2, q3, q4, q5⟩ := k4 hn
    exact ⟨g, off, q1, Or.inr ⟨hn, off, q1⟩, q3, q5⟩
  · rcases hj with hj | ⟨hn, off, ha⟩
    · refine ⟨Nat.lt_of_lt_of_le (h3 j hj).1 hz, fun q => ?_⟩
      rcases k3 j q with q2 | q2
      · have := (h3 j hj).1; omega
      · exact (h3 j hj).2 q2
    · obtain ⟨g, off2, q1, q2, q3, q4, q5⟩ := k4 hn
      rw [ha] at q1
      cases q1
      exact ⟨q3, q4⟩
theorem Xs.start {w1 : World} (hm : AtX w1 W0.heap.size W0.heap.size ⟨.slice none 0 0, .slice none 0 0, .slice none 0 0⟩ St.nil) (hb : Below W0.heap.size W0 w1) : Xs W0 W0.heap.size (fun _ => False) St.nil w1 :=
  ⟨Nat.le_refl _, ⟨_, hm, fun _ h => h.elim⟩, hb⟩

theorem x_new : Calls Try.prog 8 #[] w fun e w' => e = .returned (.pointer (some ⟨w.heap.size, 0, none⟩)) ∧ Xs w w.heap.size (fun _ => False) St.nil w' :=
  (new_any w).mono fun _ _ k => ⟨k.1, Xs.start k.2.1 k.2.2⟩
theorem x_writer (h : Xs W0 M F s w) : Calls Try.prog 14 #[.pointer (some ⟨M, 0, none⟩)] w fun e w' => e = .returned (.int .i64 s.w) ∧ w' = w := by
  obtain ⟨h1, ⟨v, h2, h3⟩, h4⟩ := h
  exact writer_any M _ v s w h2
theorem x_readers (hl : s.len ≤ 1000) (h : Xs W0 M F s w) : Calls Try.prog 13 #[.pointer (some ⟨M, 0, none⟩)] w fun e w' => ∃ a c, e = .returned (.slice a s.rs.length c) ∧ RowZ w' a s.rs ∧ Xs W0 M F s w' ∧ Kept F w w' := by
  have h' := h
  obtain ⟨h1, ⟨v, h2, h3⟩, h4⟩ := h
  refine (readers_any M _ v s hl w h2).mono fun e w' k => ?_
  obtain ⟨r, rfl, k2, k3⟩ := k
  obtain ⟨a, c, rfl, hz⟩ := owned_form k2
  exact ⟨a, c, rfl, hz, h'.below k3, h'.frame k3⟩
theorem x_waits (hl : s.len ≤ 1000) (h : Xs W0 M F s w) : Calls Try.prog 12 #[.pointer (some ⟨M, 0, none⟩)] w fun e w' => ∃ a1 c1 a2 c2, e = .returned (.tuple #[.slice a1 s.tw.length c1, .slice a2 s.tr.length c2]) ∧ RowZ w' a1 s.tw ∧ RowZ w' a2 s.tr ∧ Xs W0 M F s w' ∧ Kept F w w' := by
  have h' := h
  obtain ⟨h1, ⟨v, h2, h3⟩, h4⟩ := h
  refine (waits_any M _ v s hl w h2).mono fun e w' k => ?_
  obtain ⟨a1, c1, a2, c2, rfl, k2, k3, k4⟩ := k
  exact ⟨a1, c1, a2, c2, rfl, k2, k3, h'.below k4, h'.frame k4⟩
theorem x_tryR (hl : s.len ≤ 1000) (t : Int) (h : Xs W0 M F s w) : Calls Try.prog 17 #[.pointer (some ⟨M, 0, none⟩), .int .i64 t] w fun e w' => e = .returned (.int .i64 (readE 12 s t)) ∧ Xs W0 M F (tryRS s t) w' ∧ Kept F w w' := by
  obtain ⟨h1, ⟨v, h2, h3⟩, h4⟩ := h
  exact (tryR_any M _ v s hl t w h2 h4.size).mono fun e w' k => ⟨k.1, Xs.now h1 h2 h3 h4 k.2⟩
theorem x_rlock (hl : s.len ≤ 1000) (t : Int) (h : Xs W0 M F s w) : Calls Try.prog 16 #[.pointer (some ⟨M, 0, none⟩), .int .i64 t] w fun e w' => e = .returned (.int .i64 (readE 14 s t)) ∧ Xs W0 M F (rlockS s t) w' ∧ Kept F w w' := by
  obtain ⟨h1, ⟨v, h2, h3⟩, h4⟩ := h
  exact (rlock_any M _ v s hl t w h2 h4.size).mono fun e w' k => ⟨k.1, Xs.now h1 h2 h3 h4 k.2⟩
theorem x_try (hl : s.len ≤ 1000) (t : Int) (h : Xs W0 M F s w) : Calls Try.prog 22 #[.pointer (some ⟨M, 0, none⟩), .int .i64 t] w fun e w' => e = .returned (.int .i64 (writeE 12 s t)) ∧ Xs W0 M F (tryS s t) w' ∧ Kept F w w' := by
  obtain ⟨h1, ⟨v, h2, h3⟩, h4⟩ := h
  exact (try_any M _ v s hl t w h2 h4.size).mono fun e w' k => ⟨k.1, Xs.now h1 h2 h3 h4 k.2⟩
theorem x_lock (hl : s.len ≤ 1000) (t : Int) (h : Xs W0 M F s w) : Calls Try.prog 15 #[.pointer (some ⟨M, 0, none⟩), .int .i64 t] w fun e w' => e = .returned (.int .i64 (writeE 14 s t)) ∧ Xs W0 M F (lockS s t) w' ∧ Kept F w w' := by
  obtain ⟨h1, ⟨v, h2, h3⟩, h4⟩ := h
  exact (lock_any M _ v s hl t w h2 h4.size).mono fun e w' k => ⟨k.1, Xs.now h1 h2 h3 h4 k.2⟩
theorem x_runlock (hl : s.len ≤ 1000) (hnd : Nds s) (t : Int) (h : Xs W0 M F s w) : Calls Try.prog 18 #[.pointer (some ⟨M, 0, none⟩), .int .i64 t] w fun e w' => ∃ a c, e = .returned (.tuple #[.slice a (runO s t).length c, .int .i64 (runE s t)]) ∧ RowF (fun k => F k ∨ adr (runO s t) a k) w' a (runO s t) ∧ Xs W0 M (fun k => F k ∨ adr (runO s t) a k) (runS s t) w' ∧ Kept F w w' := by
  obtain ⟨h1, ⟨v, h2, h3⟩, h4⟩ := h
  refine (runlock_any M _ v s hl hnd t w h2 h4.size).mono fun e w' k => ?_
  obtain ⟨r, rfl, k2⟩ := k
  obtain ⟨a, c, rfl, q⟩ := Xs.nowA h1 h2 h3 h4 k2
  exact ⟨a, c, rfl, q⟩
theorem x_unlock (hl : s.len ≤ 1000) (hnd : Nds s) (t : Int) (h : Xs W0 M F s w) : Calls Try.prog 19 #[.pointer (some ⟨M, 0, none⟩), .int .i64 t] w fun e w' => ∃ a c, e = .returned (.tuple #[.slice a (unO s t).length c, .int .i64 (unE s t)]) ∧ RowF (fun k => F k ∨ adr (unO s t) a k) w' a (unO s t) ∧ Xs W0 M (fun k => F k ∨ adr (unO s t) a k) (unS s t) w' ∧ Kept F w w' := by
  obtain ⟨h1, ⟨v, h2, h3⟩, h4⟩ := h
  refine (unlock_any M _ v s hl hnd t w h2 h4.size).mono fun e w' k => ?_
  obtain ⟨r, rfl, k2⟩ := k
  obtain ⟨a, c, rfl, q⟩ := Xs.nowA h1 h2 h3 h4 k2
  exact ⟨a, c, rfl, q⟩
theorem x_drop (hl : s.len ≤ 1000) (hnd : Nds s) (t : Int) (h : Xs W0 M F s w) : Calls Try.prog 21 #[.pointer (some ⟨M, 0, none⟩), .int .i64 t] w fun e w' => ∃ a c, e = .returned (.tuple #[.slice a (dropO s t).length c, .bool (dropB s t)]) ∧ RowF (fun k => F k ∨ adr (dropO s t) a k) w' a (dropO s t) ∧ Xs W0 M (fun k => F k ∨ adr (dropO s t) a k) (dropS s t) w' ∧ Kept F w w' := by
  obtain ⟨h1, ⟨v, h2, h3⟩, h4⟩ := h
  refine (drop_any M _ v s hl hnd t w h2 h4.size).mono fun e w' k => ?_
  obtain ⟨r, rfl, k2⟩ := k
  obtain ⟨a, c, rfl, q⟩ := Xs.nowA h1 h2 h3 h4 k2
  exact ⟨a, c, rfl, q⟩
end

end Go.Proofs.Ytggfndokmdpaeaa
