/-
  The document's timers as they lie in memory; what its New, At and Stop come to.
-/
import Derived.Test.YtnciefdhgokffaaOrdLaw
namespace Go.Proofs.Ytnciefdhgokffaa
open Go.RowKit

theorem info41 : (Try.prog.info? 41).map (fun i => (i.zero, i.size, i.bytes)) = some (some (.agg #[.int .i64 0, .int .i64 0]), 2, 16) := by kernel_rfl

def cO (l : List (Nat × Nat)) : List Value := l.flatMap fun p => [.int .i64 (p.1 : Int), .int .i64 (p.2 : Int)]
def gp (l : List (Nat × Nat)) (k : Nat) : Nat × Nat := l.getD k (0, 0)
theorem cO_append (l m : List (Nat × Nat)) : cO (l ++ m) = cO l ++ cO m := by simp [cO]
theorem cO_snoc (l : List (Nat × Nat)) (p : Nat × Nat) : cO (l ++ [p]) = cO l ++ [.int .i64 (p.1 : Int), .int .i64 (p.2 : Int)] := by simp [cO]
theorem cO_len (l : List (Nat × Nat)) : (cO l).length = l.length * 2 := by
  induction l with
  | nil => rfl
  | cons p l ih => rw [show cO (p :: l) = [.int .i64 (p.1 : Int), .int .i64 (p.2 : Int)] ++ cO l from rfl, List.length_append, ih]; simp; omega
theorem cO_at (l : List (Nat × Nat)) : ∀ k, k < l.length → (cO l)[k * 2]? = some (.int .i64 ((gp l k).1 : Int)) ∧ (cO l)[k * 2 + 1]? = some (.int .i64 ((gp l k).2 : Int)) := by
  induction l with
  | nil => intro k hk; simp at hk
  | cons p l ih =>
    intro k hk
    rw [show cO (p :: l) = .int .i64 (p.1 : Int) :: .int .i64 (p.2 : Int) :: cO l from rfl]
    cases k with
    | zero => exact ⟨rfl, rfl⟩
    | succ k =>
      have := ih k (by simpa using hk)
      rw [show (k + 1) * 2 = k * 2 + 1 + 1 by omega]
      simpa [gp] using this
theorem cO_one (l : List (Nat × Nat)) : ∀ u ∈ cO l, u.oneCell' = true := by
  intro u hu
  simp only [cO, List.mem_flatMap] at hu
  obtain ⟨p, _, hp⟩ := hu
  simp at hp
  rcases hp with rfl | rfl <;> rfl

structure AtR (w : World) (R : Nat) (M : Int) (v : Value) (l : List (Nat × Nat)) : Prop where
  box : w.heap[R]? = some (.cells #[.int .i64 M, v] 39 (0, 0))
  row : w.ownsRow 0 41 2 v l.length (cO l)
theorem AtR.lt {w : World} {R : Nat} {M : Int} {v : Value} {l : List (Nat × Nat)} (h : AtR w R M v l) : R < w.heap.size := (Array.getElem?_eq_some_iff.1 h.box).1
theorem AtR.cells {w : World} {R : Nat} {M : Int} {v : Value} {l : List (Nat × Nat)} (h : AtR w R M v l) : w.cell? ⟨R, 0, none⟩ = some (.int .i64 M) ∧ w.cell? ⟨R, 1, none⟩ = some v ∧ w.frozen? ⟨R, 1, none⟩ = false :=
  ⟨Lib.cell_of_heap h.box 0, Lib.cell_of_heap h.box 1, Lib.frozen_of_heap h.box 1⟩
theorem AtR.ne {w : World} {R : Nat} {M : Int} {v : Value} {l : List (Nat × Nat)} (h : AtR w R M v l) : ∀ k, v.ownBlock = some k → k ≠ R := by
  intro k hk e
  subst e
  rcases h.row.2 with ⟨rfl, _⟩ | ⟨g, cap, cur, rfl, _, hh, _⟩
  · simp [Value.ownBlock] at hk
  · simp [Value.ownBlock] at hk
    subst hk
    rw [h.box] at hh
    simp at hh
theorem AtR.same {w w' : World} {R : Nat} {M : Int} {v : Value} {l : List (Nat × Nat)} (h : AtR w R M v l) (k : ∀ j, j < w.heap.size → w'.heap[j]? = w.heap[j]?) : AtR w' R M v l := by
  refine ⟨(k _ h.lt).trans h.box, h.row.1, ?_⟩
  rcases h.row.2 with h3 | ⟨g, cap, cur, rfl, hb, hh, r⟩
  · exact Or.inl h3
  · exact Or.inr ⟨g, cap, cur, rfl, hb, (k _ (Array.getElem?_eq_some_iff.1 hh).1).trans hh, r⟩
theorem AtR.below {w w' : World} {R : Nat} {M : Int} {v : Value} {l : List (Nat × Nat)} (h : AtR w R M v l) (k : Below w.heap.size w w') : AtR w' R M v l := h.same fun j hj => k.block j hj
theorem AtR.open {w : World} {R : Nat} {M : Int} {v : Value} {l : List (Nat × Nat)} (h : AtR w R M v l) (h0 : 0 < l.length) :
    ∃ g c, v = .slice (some ⟨g, 0, none⟩) l.length c ∧ g < w.heap.size ∧ l.length ≤ c ∧ ∀ k, k < l.length → w.cell? ⟨g, k * 2, none⟩ = some (.int .i64 ((gp l k).1 : Int)) ∧ w.cell? ⟨g, k * 2 + 1, none⟩ = some (.int .i64 ((gp l k).2 : Int)) := by
  have h' := h.row
  rcases h.row.2 with ⟨_, h1⟩ | ⟨g, c, cur, rfl, _, hh, hc, _⟩
  · omega
  refine ⟨g, c, rfl, (Array.getElem?_eq_some_iff.1 hh).1, hc, fun k hk => ?_⟩
  have e := cO_at l k hk
  refine ⟨?_, ?_⟩
  · rw [h'.cellAt (k * 2) (by omega)]; exact e.1
  · rw [h'.cellAt (k * 2 + 1) (by omega)]; exact e.2
theorem AtR.slice {w : World} {R : Nat} {M : Int} {v : Value} {l : List (Nat × Nat)} (h : AtR w R M v l) : ∃ a c, v = .slice a l.length c := owns_slice h.row
/-- Another row is stored. -/
theorem AtR.store {w w5 : World} {R : Nat} {M : Int} {v v' : Value} {l l' : List (Nat × Nat)} (h : AtR w R M v l) (hb : Below w.heap.size w w5) (hr : w5.ownsRow 0 41 2 v' l'.length (cO l')) : AtR (w5.setCell ⟨R, 1, none⟩ v') R M v' l' := by
  have h5 := h.below hb
  refine ⟨Lib.heap_setCell_same h5.box v', hr.1, ?_⟩
  rcases hr.2 with h3 | ⟨g, cap, cur, rfl, hb', hh, r⟩
  · exact Or.inl h3
  · refine Or.inr ⟨g, cap, cur, rfl, hb', (Below.heap_setCell _ ⟨R, 1, none⟩ _ _ (fun e => ?_)).trans hh, r⟩
    have e' : g = R := e
    subst e'
    rw [h5.box] at hh
    simp at hh

def NowR (R : Nat) (M : Int) (l : List (Nat × Nat)) (w w' : World) : Prop := ∃ v, AtR w' R M v l ∧ Turn R w w' ∧ v ≠ .slice none 0 0
theorem NowR.of_store {w w5 : World} {R : Nat} {M : Int} {v v' : Value} {l l' : List (Nat × Nat)} (h : AtR w R M v l) (hb : Below w.heap.size w w5) (hr : w5.ownsRow 0 41 2 v' l'.length (cO l')) (hn : v' ≠ .slice none 0 0) : NowR R M l' w (w5.setCell ⟨R, 1, none⟩ v') :=
  ⟨v', h.store hb hr, (Turn.of_below hb).set _ _, hn⟩
theorem AtR.solid {w : World} {R : Nat} {M : Int} {v : Value} {l : List (Nat × Nat)} (h : AtR w R M v l) (hn : v ≠ .slice none 0 0) : ∃ g c, v = .slice (some ⟨g, 0, none⟩) l.length c ∧ g < w.heap.size ∧ l.length ≤ c := by
  rcases h.row.2 with ⟨h1, _⟩ | ⟨g, c, cur, rfl, _, hh, hc, _⟩
  · exact absurd h1 hn
  · exact ⟨g, c, rfl, (Array.getElem?_eq_some_iff.1 hh).1, hc⟩

def mostOf (n : Int) : Int := if 16 < n then 16 else n
set_option maxHeartbeats 400000 in
theorem refNew_any (n : Int) (w : World) : Calls Try.prog 9 #[.int .i64 n] w fun e w' => e = .returned (.pointer (some ⟨w.heap.size, 0, none⟩)) ∧ AtR w' w.heap.size (mostOf n) (.slice none 0 0) [] ∧ Below w.heap.size w w' := by
  unfold mostOf
  by_cases h : 16 < n
  · rw [if_pos h]
    go_enter Try.func9, Try.ntmps9
    go_wp2
    go_ret
    exact ⟨rfl, ⟨heap_alloc_new _ _, World.ownsRow_nil _ _ _ _⟩, (Below.refl _ _).alloc (Nat.le_refl _) _⟩
  · rw [if_neg h]
    go_enter Try.func9, Try.ntmps9
    go_wp2
    go_ret
    exact ⟨rfl, ⟨heap_alloc_new _ _, World.ownsRow_nil _ _ _ _⟩, (Below.refl _ _).alloc (Nat.le_refl _) _⟩

/-- What At answers. -/
def AtSays (l : List (Nat × Nat)) (id : Int) (e : Ending) : Prop :=
  (∃ k, k < l.length ∧ ((gp l k).1 : Int) = id ∧ e = .returned (.tuple #[.int .i64 ((gp l k).2 : Int), .bool true])) ∨ ((∀ k, k < l.length → ((gp l k).1 : Int) ≠ id) ∧ e = .returned (.tuple #[.int .i64 0, .bool false]))
set_option maxHeartbeats 1000000 in
theorem refAt_any (R : Nat) (M : Int) (v : Value) (l : List (Nat × Nat)) (id : Int) (hl : l.length ≤ 100) (w : World) (hR : AtR w R M v l) :
    Calls Try.prog 18 #[.pointer (some ⟨R, 0, none⟩), .int .i64 id] w fun e w' => AtSays l id e ∧ w' = w := by
  obtain ⟨c0, c1, _⟩ := hR.cells
  obtain ⟨a, c, rfl⟩ := hR.slice
  have HR := hide hR
  clear hR c0
  go_enter Try.func18, Try.ntmps18
  go_wp2
  go_loopw [6] (fun u wr => ∃ k : Nat, u = .int .i64 (k : Int) ∧ k ≤ l.length ∧ (∀ j, j < k → ((gp l j).1 : Int) ≠ id) ∧ wr = w) (fun u _ => l.length - (intOf u).toNat)
  case atStart => exact ⟨0, rfl, Nat.zero_le _, fun j h => by omega, rfl⟩
  case round =>
    obtain ⟨k, rfl, hk, hno, hwr⟩ := hrel
    subst hwr
    have HNO := hide hno
    clear hno
    by_cases hlt : k < l.length
    · obtain ⟨g, c', hv, _, _, hc⟩ := HR.out.open (by omega)
      simp only [Value.slice.injEq, true_and] at hv
      obtain ⟨rfl, rfl⟩ := hv
      obtain ⟨q1, q2⟩ := hc k hlt
      have b1 : (k : Int) < (l.length : Int) := by omega
      clear hc
      by_cases e : ((gp l k).1 : Int) = id
      · have HG : Hid (AtSays l id (.returned (.tuple #[.int .i64 ((gp l k).2 : Int), .bool true]))) := hide (Or.inl ⟨k, hlt, e, rfl⟩)
        have e1 : (((gp l k).1 : Int) == id) = true := by simp [e]
        clear e
        generalize ((gp l k).1 : Int) = X at *
        generalize ((gp l k).2 : Int) = Y at *
        go_wp2
        go_ret2
        exact ⟨HG.out, rfl⟩
      · have e1 : (((gp l k).1 : Int) == id) = false := by simp [e]
        have HN2 : Hid (∀ j, j < k + 1 → ((gp l j).1 : Int) ≠ id) := hide (fun j hj => by
          by_cases z : j = k
          · subst z; exact e
          · exact HNO.out j (by omega))
        clear e
        generalize ((gp l k).1 : Int) = X at *
        generalize ((gp l k).2 : Int) = Y at *
        go_wp2
        go_roundw
        case rel => exact ⟨k + 1, by go_num, by omega, HN2.out, by simp⟩
        case measure => simp [intOf]; omega
    · have HG : Hid (AtSays l id (.returned (.tuple #[.int .i64 0, .bool false]))) := hide (Or.inr ⟨fun j hj => HNO.out j (by omega), rfl⟩)
      go_wp2
      go_ret2
      exact ⟨HG.out, rfl⟩

end Go.Proofs.Ytnciefdhgokffaa
