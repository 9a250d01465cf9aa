/-
  What slices' Index, Contains, Delete and Clone come to at a row of numbers that lies in memory.
-/
import Derived.Test.YtgfkleaekaggoaaLay
import Derived.Test.YtgfkleaekaggoaaBase
namespace Go.Proofs.Ytgfkleaekaggoaa
open Go.RowKit Go.Sort

theorem row_cells {w : World} {base g c : Nat} {l : List Int} (h : w.ownsRow base 3 1 (.slice (some ⟨g, 0, none⟩) l.length c) l.length (cZ l)) : ∀ j, j < l.length → w.cell? ⟨g, 0 + j, none⟩ = some (.int .i64 (l.getD j 0)) := by
  intro j hj
  rw [Nat.zero_add, h.cellAt j (by omega), cZ_get l hj]
  rfl

theorem index_row {w : World} {base : Nat} {v : Value} {l : List Int} (h : w.ownsRow base 3 1 v l.length (cZ l)) (hl : l.length ≤ 1000) (t : Int) :
    Calls Try.prog 19 #[v, .int .i64 t] w fun e w' => e = .returned (.int .i64 (idxZ l t)) ∧ w' = w := by
  have h' := h
  rcases h.2 with ⟨rfl, h0⟩ | ⟨g, c, cur, rfl, _, _, _⟩
  · have hn : l = [] := List.length_eq_zero_iff.1 h0
    have := AnyG.slices_Index_int_empty idxL none 0 t w
    subst hn
    exact this
  · have := AnyG.slices_Index_int idxL g 0 l.length c l t w (Nat.le_refl _) (by omega) (row_cells h')
    rw [List.take_of_length_le (Nat.le_refl _)] at this
    exact this

theorem contains_row {w : World} {base : Nat} {v : Value} {l : List Int} (h : w.ownsRow base 3 1 v l.length (cZ l)) (hl : l.length ≤ 1000) (t : Int) :
    Calls Try.prog 22 #[v, .int .i64 t] w fun e w' => e = .returned (.bool (inZ l t)) ∧ w' = w := by
  have HI := hide (index_row h hl t)
  cases hb : inZ l t
  · rw [idx_out hb] at HI
    clear h hb
    go_enter Try.func22, Try.ntmps22
    go_wp2_with fail
    refine HI.out.mono ?_
    rintro e w2 ⟨rfl, hw2⟩
    subst hw2
    go_wp2
    go_ret
    exact ⟨rfl, rfl⟩
  · obtain ⟨k, _, h2, _⟩ := idx_in hb
    rw [h2] at HI
    have hk : (0 : Int) ≤ (k : Int) := by omega
    clear h hb h2
    go_enter Try.func22, Try.ntmps22
    go_wp2_with fail
    refine HI.out.mono ?_
    rintro e w2 ⟨rfl, hw2⟩
    subst hw2
    go_wp2
    go_ret
    exact ⟨rfl, rfl⟩

/-- What is answered: a row of its own. -/
def Owned (l : List Int) (w : World) (e : Ending) (w' : World) : Prop :=
  ∃ v, e = .returned v ∧ w'.ownsRow w.heap.size 3 1 v l.length (cZ l) ∧ Below w.heap.size w w'

theorem clone_row {w : World} {base : Nat} {v : Value} {l : List Int} (h : w.ownsRow base 3 1 v l.length (cZ l)) (hl : l.length ≤ 1000) :
    Calls Try.prog 23 #[v] w fun e w' => Owned l w e w' := by
  have h' := h
  rcases h.2 with ⟨rfl, h0⟩ | ⟨g, c, cur, rfl, _, _, _⟩
  · have hn : l = [] := List.length_eq_zero_iff.1 h0
    refine (AnyG.slices_Clone_int_nil cloL 0 0 w).mono fun e w' ⟨q1, q2⟩ => ⟨_, q1, ?_, q2 ▸ Below.refl _ _⟩
    subst hn
    exact ⟨rfl, .inl ⟨rfl, rfl⟩⟩
  · refine (AnyG.slices_Clone_int cloL g 0 l.length c l w (Nat.le_refl _) (by omega) (row_cells h')).mono fun e w' ⟨v', q1, q2, _, q3⟩ => ⟨v', q1, ?_, q3⟩
    rw [List.take_of_length_le (Nat.le_refl _)] at q2
    exact q2

theorem arr_get (d : List Int) {j : Nat} (h : j < d.length) : d.toArray[j]! = d.getD j 0 := by
  simp [h, List.getD_eq_getElem?_getD]
theorem holds_row {w : World} {base g c : Nat} {l : List Int} (h : w.ownsRow base 3 1 (.slice (some ⟨g, 0, none⟩) l.length c) l.length (cZ l)) : Holds (Value.int .i64) w g 0 l.toArray := by
  intro j hj
  have hj' : j < l.length := by simpa using hj
  rw [arr_get _ hj']
  exact ⟨row_cells h j hj', h.frozenAt _⟩

theorem heap_put {w : World} {g q : Nat} {cur : Array Value} {d : List Int} (h : w.heap[g]? = some (.cells cur 3 (0, 0))) :
    (putRow (Value.int .i64) (Sort.ahead w q) g 0 d.toArray).heap[g]? = some (.cells (putCells (Value.int .i64) 0 d.toArray cur) 3 (0, 0)) := by
  show (w.heap.modify g _)[g]? = _
  rw [Array.getElem?_modify, if_pos rfl, h]
  rfl
theorem mov_put {w : World} {g q : Nat} {d : List Int} {S : Nat → Prop} (hS : S g) : Mov S w (putRow (Value.int .i64) (Sort.ahead w q) g 0 d.toArray) := by
  refine ⟨rfl, rfl, rfl, by simp, fun k _ hk => ?_⟩
  show (w.heap.modify g _)[k]? = _
  have hne : ¬ g = k := fun e => hk (by rw [← e]; exact hS)
  rw [Array.getElem?_modify, if_neg hne]

theorem delete_row {w : World} {base : Nat} {v : Value} {l : List Int} {k : Nat} (h : w.ownsRow base 3 1 v l.length (cZ l)) (hk : k < l.length) :
    Calls Try.prog 20 #[v, .int .i64 (k : Int), .int .i64 ((k + 1 : Nat) : Int)] w fun e w' => ∃ v', e = .returned v' ∧ w'.ownsRow base 3 1 v' (l.eraseIdx k).length (cZ (l.eraseIdx k)) ∧ v'.ownBlock = v.ownBlock ∧ Mov (fun j => v.ownBlock = some j) w w' := by
  have h' := h
  rcases h.2 with ⟨rfl, h0⟩ | ⟨g, c, cur, rfl, hb, hh, hc, hm, hs, ht⟩
  · omega
  · have hc63 : c ≤ 9223372036854775807 := by unfold maxLen at hm; omega
    have A1 := AnyG.slices_Delete_int delL g 0 c k (k + 1) l w (holds_row h') hc hc63 (by omega) (by omega)
    refine Calls.mono A1 ?_
    rintro e w' ⟨rfl, q, rfl⟩
    have he : l.eraseIdx k = l.take k ++ l.drop (k + 1) := List.eraseIdx_eq_take_drop_succ _ _
    have hlen : (l.eraseIdx k).length = l.length - (k + 1 - k) := by rw [List.length_eraseIdx]; simp [hk]
    refine ⟨_, rfl, ?_, rfl, mov_put rfl⟩
    rw [← hlen, ← he]
    refine ⟨by rw [cZ_len]; omega, .inr ⟨g, c, _, rfl, hb, heap_put hh, by omega, hm, by simpa [putCells] using hs, ?_⟩⟩
    apply List.ext_getElem?
    intro j
    by_cases hj : j < (l.eraseIdx k).length
    · rw [List.getElem?_take, if_pos (by omega), cZ_get _ hj, Array.getElem?_toList]
      have hjc : j < cur.size := by omega
      simp only [putCells, Array.getElem?_mapIdx, Array.getElem?_eq_getElem hjc, Option.map_some]
      rw [if_pos ⟨Nat.zero_le _, by simp; omega⟩, Nat.sub_zero, arr_get _ (by simp; omega)]
      rw [List.getD_eq_getElem?_getD, List.getElem?_append_left hj, ← List.getD_eq_getElem?_getD]
      rfl
    · rw [List.getElem?_eq_none (by simp; omega), List.getElem?_eq_none (by rw [cZ_len]; omega)]

end Go.Proofs.Ytgfkleaekaggoaa
