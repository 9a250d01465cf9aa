/-
  The document's queues in memory: a table of rows; what its Where and New come to.
-/
import Derived.Test.YtonahaembfbgbaaOne
import Derived.Deep.RegionLaw
import Derived.Deep.DrawnRows
import Derived.Deep.AppendLies
import Derived.Deep.DeepCutAuto
namespace Go.Proofs.Ytonahaembfbgbaa
open Go.RowKit

structure AtR (w : World) (R T : Nat) (s : Qs) (vs : Nat → Value) : Prop where
  box : w.heap[R]? = some (.cells #[.slice (some ⟨T, 0, none⟩) s.nq s.nq, .int .i64 (s.ni : Int)] 35 (0, 0))
  tab : ∃ cs, w.heap[T]? = some (.cells cs 37 (0, 0)) ∧ cs.size = s.nq ∧ ∀ k, k < s.nq → cs[k]? = some (vs k)
  row : ∀ k, k < s.nq → w.ownsRow 0 3 1 (vs k) (s.l k).length (cI (s.l k))
theorem AtR.ltR {w : World} {R T : Nat} {s : Qs} {vs : Nat → Value} (h : AtR w R T s vs) : R < w.heap.size := (Array.getElem?_eq_some_iff.1 h.box).1
theorem AtR.ltT {w : World} {R T : Nat} {s : Qs} {vs : Nat → Value} (h : AtR w R T s vs) : T < w.heap.size := by
  obtain ⟨cs, h1, _⟩ := h.tab
  exact (Array.getElem?_eq_some_iff.1 h1).1
theorem AtR.ne {w : World} {R T : Nat} {s : Qs} {vs : Nat → Value} (h : AtR w R T s vs) : R ≠ T := by
  intro e
  subst e
  obtain ⟨cs, c1, _⟩ := h.tab
  have := h.box.symm.trans c1
  simp at this
theorem AtR.cells {w : World} {R T : Nat} {s : Qs} {vs : Nat → Value} (h : AtR w R T s vs) : w.cell? ⟨R, 0, none⟩ = some (.slice (some ⟨T, 0, none⟩) s.nq s.nq) ∧ w.cell? ⟨R, 1, none⟩ = some (.int .i64 (s.ni : Int)) :=
  ⟨Lib.cell_of_heap h.box 0, Lib.cell_of_heap h.box 1⟩
theorem AtR.at {w : World} {R T : Nat} {s : Qs} {vs : Nat → Value} (h : AtR w R T s vs) {k : Nat} (hk : k < s.nq) : w.cell? ⟨T, k, none⟩ = some (vs k) ∧ w.frozen? ⟨T, k, none⟩ = false := by
  obtain ⟨cs, h1, h2, h3⟩ := h.tab
  exact ⟨(Lib.cell_of_heap h1 _).trans (h3 k hk), Lib.frozen_of_heap h1 k⟩
theorem owns_as {w w' : World} {base e size n : Nat} {v : Value} {xs : List Value} (h : w.ownsRow base e size v n xs) (hk : ∀ k, v.ownBlock = some k → w'.heap[k]? = w.heap[k]?) : w'.ownsRow base e size v n xs := by
  refine ⟨h.1, ?_⟩
  rcases h.2 with h3 | ⟨g, cap, cur, rfl, hb, hh, r⟩
  · exact Or.inl h3
  · exact Or.inr ⟨g, cap, cur, rfl, hb, (hk g rfl).trans hh, r⟩
theorem owns_type {w : World} {base e size n : Nat} {v : Value} {xs : List Value} (h : w.ownsRow base e size v n xs) {g : Nat} (hg : v.ownBlock = some g) : ∃ cur, w.heap[g]? = some (.cells cur e (0, 0)) := by
  rcases h.2 with ⟨rfl, _⟩ | ⟨g', cap, cur, rfl, hb, hh, r⟩
  · simp [Value.ownBlock] at hg
  · obtain rfl : g' = g := by simpa [Value.ownBlock] using hg
    exact ⟨cur, hh⟩
/-- The rows are other blocks than the box and the table. -/
theorem AtR.far {w : World} {R T : Nat} {s : Qs} {vs : Nat → Value} (h : AtR w R T s vs) {base n : Nat} {v : Value} {xs : List Value} (ho : w.ownsRow base 3 1 v n xs) : ∀ g, v.ownBlock = some g → g ≠ R ∧ g ≠ T := fun g hg => by
  obtain ⟨cur, hh⟩ := owns_type ho hg
  refine ⟨fun e => ?_, fun e => ?_⟩
  · subst e
    have := h.box.symm.trans hh
    simp at this
  · subst e
    obtain ⟨cs, c1, _⟩ := h.tab
    have := c1.symm.trans hh
    simp at this
theorem AtR.same {w w' : World} {R T : Nat} {s : Qs} {vs : Nat → Value} (h : AtR w R T s vs) (hk : ∀ k, k < w.heap.size → (∃ cur t, w.heap[k]? = some (.cells cur t (0, 0)) ∧ t ≠ 48 ∧ t ≠ 50) → w'.heap[k]? = w.heap[k]?) : AtR w' R T s vs := by
  refine ⟨(hk R h.ltR ⟨_, _, h.box, by decide, by decide⟩).trans h.box, ?_, fun k hl => ?_⟩
  · obtain ⟨cs, c1, c2⟩ := h.tab
    exact ⟨cs, (hk T h.ltT ⟨_, _, c1, by decide, by decide⟩).trans c1, c2⟩
  · refine owns_as (h.row k hl) fun g hg => ?_
    obtain ⟨cur, hh⟩ := owns_type (h.row k hl) hg
    exact hk g (Array.getElem?_eq_some_iff.1 hh).1 ⟨_, _, hh, by decide, by decide⟩
theorem AtR.below {w w' : World} {R T : Nat} {s : Qs} {vs : Nat → Value} (h : AtR w R T s vs) (k : Below w.heap.size w w') : AtR w' R T s vs := h.same fun i hi _ => k.block i hi
theorem AtR.turn {w w' : World} {R T B P : Nat} {s s0 : Qs} {vs : Nat → Value} (h : AtR w R T s vs) (hA : AtQ w B P s0) (k : Turn B P w w') : AtR w' R T s vs := h.same fun i hi hx => by
  obtain ⟨cur, t, hh, t1, t2⟩ := hx
  obtain ⟨f, _, hF⟩ := hA
  refine k.block i hi (fun e => ?_) (fun e => ?_)
  · subst e
    have := hF.box.symm.trans hh
    simp at this
    exact t1 this.2.symm
  · subst e
    obtain ⟨cs, c1, _⟩ := hF.row
    have := c1.symm.trans hh
    simp at this
    exact t2 this.2.symm
theorem AtQ.turnR {w w' : World} {R T B P : Nat} {s s0 : Qs} {vs : Nat → Value} (hA : AtQ w B P s0) (h : AtR w R T s vs) (k : Turn R T w w') : AtQ w' B P s0 := by
  obtain ⟨f, hr, hF⟩ := hA
  obtain ⟨cs, c1, _⟩ := h.tab
  obtain ⟨ds, d1, _⟩ := hF.row
  refine ⟨f, hr, hF.same (k.block B hF.ltB (fun e => ?_) (fun e => ?_)) (k.block P hF.ltP (fun e => ?_) (fun e => ?_))⟩
  · subst e; have := hF.box.symm.trans h.box; simp at this
  · subst e; have := hF.box.symm.trans c1; simp at this
  · subst e; have := d1.symm.trans h.box; simp at this
  · subst e; have := d1.symm.trans c1; simp at this

def setV (vs : Nat → Value) (k : Nat) (v : Value) : Nat → Value := fun i => if i = k then v else vs i
theorem setV_same (vs : Nat → Value) (k : Nat) (v : Value) : setV vs k v k = v := by simp [setV]
theorem setV_other (vs : Nat → Value) {k i : Nat} (v : Value) (h : i ≠ k) : setV vs k v i = vs i := by simp [setV, h]
/-- One row is another one now. -/
theorem AtR.set {w w5 : World} {R T : Nat} {s s' : Qs} {vs : Nat → Value} {v : Value} {k : Nat} {l : List Nat} (h : AtR w R T s vs) (hb : Below w.heap.size w w5) (ho : w5.ownsRow 0 3 1 v l.length (cI l)) (hk : k < s.nq) (h1 : s'.nq = s.nq) (h2 : s'.ni = s.ni) (h3 : ∀ j, j < s.nq → s'.l j = if j = k then l else s.l j) :
    AtR (w5.setCell ⟨T, k, none⟩ v) R T s' (setV vs k v) ∧ Turn R T w (w5.setCell ⟨T, k, none⟩ v) := by
  have h5 := h.below hb
  refine ⟨⟨?_, ?_, fun j hj => ?_⟩, (Turn.of_below hb).setP _ _⟩
  · rw [h1, h2]
    exact (Below.heap_setCell _ _ _ _ h5.ne).trans h5.box
  · obtain ⟨cs, c1, c2, c3⟩ := h5.tab
    refine ⟨_, Lib.heap_setCell_same c1 v, by simpa [h1] using c2, fun j hj => ?_⟩
    rw [h1] at hj
    rw [Array.getElem?_setIfInBounds]
    by_cases e : j = k
    · subst e; rw [if_pos rfl, if_pos (by omega), setV_same]
    · rw [if_neg (Ne.symm e), setV_other _ _ e]; exact c3 j hj
  · rw [h1] at hj
    rw [h3 j hj]
    by_cases e : j = k
    · subst e
      rw [setV_same, if_pos rfl]
      exact owns_as ho fun g hg => Below.heap_setCell _ _ _ _ (h5.far ho g hg).2
    · rw [setV_other _ _ e, if_neg e]
      exact owns_as (h5.row j hj) fun g hg => Below.heap_setCell _ _ _ _ (h5.far (h5.row j hj) g hg).2

theorem where_hit {s : Qs} (hs : Ok s) {i y : Nat} (hi : i < s.nq) (h : y ∈ s.l i) : whereOf s (y : Int) = (i : Int) := by
  have hm := (hs.mem i y hi).1 h
  unfold whereOf
  rw [if_pos (show hasI s (y : Int) from ⟨by omega, by omega⟩)]
  simpa using hm.2
theorem where_miss {s : Qs} (hs : Ok s) {x : Int} (h : ∀ i, i < s.nq → ∀ y ∈ s.l i, (y : Int) ≠ x) : whereOf s x = -1 := by
  by_cases hw : whereOf s x = -1
  · exact hw
  · obtain ⟨k, y, rfl, h1, h2, h3, _⟩ := whereOf_at hs hw
    exact absurd rfl (h k h2 y ((hs.mem k y h2).2 ⟨h1, h3⟩))
theorem mem_gs {l : List Nat} {y : Nat} (h : y ∈ l) : ∃ t, t < l.length ∧ gs_ l t = y := by
  obtain ⟨t, ht, e⟩ := List.getElem_of_mem h
  exact ⟨t, ht, by simp [gs_, ht, e]⟩
theorem gs_mem {l : List Nat} {t : Nat} (h : t < l.length) : gs_ l t ∈ l := by simp [gs_, h]

set_option maxHeartbeats 2000000 in
theorem refWhere_any (R T : Nat) (s : Qs) (vs : Nat → Value) (x : Int) (w : World) (hs : Ok s) (hR : AtR w R T s vs) :
    Calls Try.prog 20 #[.pointer (some ⟨R, 0, none⟩), .int .i64 x] w fun e w' => e = .returned (.int .i64 (whereOf s x)) ∧ w' = w := by
  obtain ⟨c0, c1⟩ := hR.cells
  have HR := hide hR
  have HS := hide hs
  have h32 := hs.nq
  clear hR hs
  go_enter Try.func20, Try.ntmps20
  go_wp2
  go_loop [5] (fun i => ∃ k : Nat, k ≤ s.nq ∧ i = .int .i64 k ∧ ∀ j, j < k → ∀ y ∈ s.l j, (y : Int) ≠ x) (fun i => s.nq - (intOf i).toNat)
  case atStart => exact ⟨0, Nat.zero_le _, rfl, fun j hj => by omega⟩
  case round =>
    obtain ⟨i, hi, rfl, hall⟩ := hrel
    have HALL := hide hall
    clear hall
    by_cases hlt : i < s.nq
    · have hlt' : (i : Int) < (s.nq : Int) := by omega
      obtain ⟨t0, _⟩ := HR.out.at hlt
      have hfew := all_few HS.out (i : Int)
      rw [all_nat hlt] at hfew
      obtain ⟨a, c, hv⟩ := owns_slice (HR.out.row i hlt)
      rw [hv] at t0
      have HRow := hide (hv ▸ HR.out.row i hlt)
      clear hv
      go_wp2
      go_loop [6] (fun j => ∃ k : Nat, k ≤ (s.l i).length ∧ j = .int .i64 k ∧ ∀ t, t < k → ((gs_ (s.l i) t : Nat) : Int) ≠ x) (fun j => (s.l i).length - (intOf j).toNat)
      case atStart => exact ⟨0, Nat.zero_le _, rfl, fun j hj => by omega⟩
      case round =>
        obtain ⟨k, hk, rfl, hin⟩ := hrel
        have HIN := hide hin
        clear hin
        by_cases hkl : k < (s.l i).length
        · obtain ⟨g, d, hv, _, _, hcell, _⟩ := row_open HRow.out (by omega)
          simp only [Value.slice.injEq, true_and] at hv
          obtain ⟨rfl, rfl⟩ := hv
          obtain ⟨ck, _⟩ := hcell k hkl
          have hkl' : (k : Int) < ((s.l i).length : Int) := by omega
          have HM := hide (gs_mem hkl)
          have HN := hide (fun (h : ((gs_ (s.l i) k : Nat) : Int) ≠ x) (t : Nat) (ht : t < k + 1) => show ((gs_ (s.l i) t : Nat) : Int) ≠ x from by
            by_cases e : t = k
            · subst e; exact h
            · exact HIN.out t (by omega))
          clear hcell
          generalize gs_ (s.l i) k = y at *
          by_cases hy : (y : Int) = x
          · subst hy
            have hy' : ((y : Int) == (y : Int)) = true := by simp
            go_wp2
            go_ret
            exact ⟨by rw [where_hit HS.out hlt HM.out]; rfl, rfl⟩
          · have hy' : ((y : Int) == x) = false := by simpa using hy
            have HN' := hide (HN.out hy)
            clear hy HN
            go_wp2
            go_round
            case rel => exact ⟨k + 1, by omega, by go_num, HN'.out⟩
            case measure => simp [intOf]; omega
        · have hkl' : ¬ (k : Int) < ((s.l i).length : Int) := by omega
          have HN := hide (show ∀ j, j < i + 1 → ∀ y ∈ s.l j, (y : Int) ≠ x from fun j hj y hy => by
            by_cases e : j = i
            · subst e
              obtain ⟨t, ht, rfl⟩ := mem_gs hy
              exact HIN.out t (by omega)
            · exact HALL.out j (by omega) y hy)
          go_wp2
          go_round
          case rel => exact ⟨i + 1, by omega, by go_num, HN.out⟩
          case measure => simp [intOf]; omega
    · have hlt' : ¬ (i : Int) < (s.nq : Int) := by omega
      have HW := hide (where_miss HS.out (x := x) (fun j hj => HALL.out j (by omega)))
      go_wp2
      go_ret
      exact ⟨by rw [HW.out]; rfl, rfl⟩

end Go.Proofs.Ytonahaembfbgbaa
