/-
  What slices' Index, Delete and Clone come to at a row of numbers that lies in memory.
-/
import Derived.Test.YtngaecfainhjcaaLay
import Derived.Test.YtngaecfainhjcaaSMem
namespace Go.Proofs.Ytngaecfainhjcaa
open Go.RowKit A Go.Sort

def zI (l : List Nat) : List Int := l.map fun n : Nat => (n : Int)
def idxR (l : List Nat) (t : Int) : Int := Lib.idxOf (zI l) t
theorem zI_len (l : List Nat) : (zI l).length = l.length := by simp [zI]
theorem zI_get (l : List Nat) {j : Nat} (h : j < l.length) : (zI l).getD j 0 = ((gs_ l j : Nat) : Int) := by simp [zI, gs_, List.getD_eq_getElem?_getD, h]
theorem idxR_out {l : List Nat} {t : Int} (h : inB l t = false) : idxR l t = -1 := by
  have := Lib.idxOf_miss (zI l) l.length t (fun j hj => by rw [zI_get l hj]; exact out_at h j hj)
  rwa [List.take_of_length_le (by rw [zI_len]; exact Nat.le_refl _)] at this
theorem idxR_in {l : List Nat} {t : Int} (h : inB l t = true) : ∃ k : Nat, k < l.length ∧ idxR l t = (k : Int) ∧ ((gs_ l k : Nat) : Int) = t := by
  obtain ⟨k, h1, h2, h3⟩ := in_at h
  have := Lib.idxOf_hit (zI l) l.length k t h1 (by rw [zI_len]; exact Nat.le_refl _) (by rw [zI_get l h1]; exact h2) (fun j hj => by rw [zI_get l (by omega)]; exact h3 j hj)
  rw [List.take_of_length_le (by rw [zI_len]; exact Nat.le_refl _)] at this
  exact ⟨k, h1, this, h2⟩

theorem cI_get (l : List Nat) {j : Nat} (h : j < l.length) : (cI l)[j]? = some (.int .i64 ((gs_ l j : Nat) : Int)) := by simp [cI, gs_, h]
theorem row_cells {w : World} {base g c : Nat} {l : List Nat} (h : w.ownsRow base 3 1 (.slice (some ⟨g, 0, none⟩) l.length c) l.length (cI l)) : ∀ j, j < (zI l).length → w.cell? ⟨g, 0 + j, none⟩ = some (.int .i64 ((zI l).getD j 0)) := by
  intro j hj
  rw [zI_len] at hj
  rw [zI_get l hj, Nat.zero_add, h.cellAt j (by omega), cI_get l hj]

theorem index_row {w : World} {base : Nat} {v : Value} {l : List Nat} (h : w.ownsRow base 3 1 v l.length (cI l)) (hl : l.length ≤ 1000) (t : Int) :
    Calls Try.prog 42 #[v, .int .i64 t] w fun e w' => e = .returned (.int .i64 (idxR l t)) ∧ w' = w := by
  have h' := h
  rcases h.2 with ⟨rfl, h0⟩ | ⟨g, c, cur, rfl, _, _, _⟩
  · have hn : l = [] := List.length_eq_zero_iff.1 h0
    have := AnyG.slices_Index_int_empty idxL none 0 t w
    subst hn
    exact this
  · have := AnyG.slices_Index_int idxL g 0 l.length c (zI l) t w (by rw [zI_len]; exact Nat.le_refl _) (by omega) (row_cells h')
    rw [List.take_of_length_le (by rw [zI_len]; exact Nat.le_refl _)] at this
    exact this

theorem clone_row {w : World} {base : Nat} {v : Value} {l : List Nat} (h : w.ownsRow base 3 1 v l.length (cI l)) (hl : l.length ≤ 1000) :
    Calls Try.prog 38 #[v] w fun e w' => Owned l w e w' := by
  have h' := h
  rcases h.2 with ⟨rfl, h0⟩ | ⟨g, c, cur, rfl, _, _, _⟩
  · have hn : l = [] := List.length_eq_zero_iff.1 h0
    refine (AnyG.slices_Clone_int_nil cloL 0 0 w).mono fun e w' ⟨q1, q2⟩ => ⟨_, q1, ?_, q2 ▸ Below.refl _ _⟩
    subst hn
    exact ⟨rfl, .inl ⟨rfl, rfl⟩⟩
  · refine (AnyG.slices_Clone_int cloL g 0 l.length c (zI l) w (by rw [zI_len]; exact Nat.le_refl _) (by omega) (row_cells h')).mono fun e w' ⟨v', q1, q2, _, q3⟩ => ⟨v', q1, ?_, q3⟩
    rw [List.take_of_length_le (by rw [zI_len]; exact Nat.le_refl _)] at q2
    have e2 : (zI l).map (Value.int .i64) = cI l := by simp [zI, cI]
    rw [e2] at q2
    exact q2

theorem arr_get (d : List Int) {j : Nat} (h : j < d.length) : d.toArray[j]! = d.getD j 0 := by
  simp [h, List.getD_eq_getElem?_getD]
theorem holds_row {w : World} {base g c : Nat} {l : List Nat} (h : w.ownsRow base 3 1 (.slice (some ⟨g, 0, none⟩) l.length c) l.length (cI l)) : Holds (Value.int .i64) w g 0 (zI l).toArray := by
  intro j hj
  have hj' : j < (zI l).length := by simpa using hj
  rw [arr_get _ hj']
  exact ⟨row_cells h j hj', h.frozenAt _⟩

theorem heap_put {w : World} {g q : Nat} {cur : Array Value} {d : List Int} (h : w.heap[g]? = some (.cells cur 3 (0, 0))) :
    (putRow (Value.int .i64) (Sort.ahead w q) g 0 d.toArray).heap[g]? = some (.cells (putCells (Value.int .i64) 0 d.toArray cur) 3 (0, 0)) := by
  show (w.heap.modify g _)[g]? = _
  rw [Array.getElem?_modify, if_pos rfl, h]
  rfl
theorem mov_put {w : World} {g q : Nat} {d : List Int} {S : Nat → Prop} (hS : S g) : Mov S w (putRow (Value.int .i64) (Sort.ahead w q) g 0 d.toArray) := by
  refine ⟨rfl, rfl, rfl, by simp, fun k _ hk => ?_⟩
  show (w.heap.modify g _)[k]? = _
  have hne : ¬ g = k := fun e => hk (by rw [← e]; exact hS)
  rw [Array.getElem?_modify, if_neg hne]

theorem delete_row {w : World} {base : Nat} {v : Value} {l : List Nat} {k : Nat} (h : w.ownsRow base 3 1 v l.length (cI l)) (hk : k < l.length) :
    Calls Try.prog 37 #[v, .int .i64 (k : Int), .int .i64 ((k + 1 : Nat) : Int)] w fun e w' => ∃ v', e = .returned v' ∧ w'.ownsRow base 3 1 v' (l.eraseIdx k).length (cI (l.eraseIdx k)) ∧ v'.ownBlock = v.ownBlock ∧ Mov (fun j => v.ownBlock = some j) w w' := by
  have h' := h
  rcases h.2 with ⟨rfl, h0⟩ | ⟨g, c, cur, rfl, hb, hh, hc, hm, hs, ht⟩
  · omega
  · have hc63 : c ≤ 9223372036854775807 := by unfold maxLen at hm; omega
    have A1 := AnyG.slices_Delete_int delL g 0 c k (k + 1) (zI l) w (holds_row h') (by rw [zI_len]; exact hc) hc63 (by omega) (by rw [zI_len]; omega)
    rw [zI_len] at A1
    refine Calls.mono A1 ?_
    rintro e w' ⟨rfl, q, rfl⟩
    have he : l.eraseIdx k = l.take k ++ l.drop (k + 1) := List.eraseIdx_eq_take_drop_succ _ _
    have hlen : (l.eraseIdx k).length = l.length - (k + 1 - k) := by rw [List.length_eraseIdx]; simp [hk]
    have hd : (zI l).take k ++ (zI l).drop (k + 1) = zI (l.eraseIdx k) := by rw [he]; simp [zI]
    refine ⟨_, rfl, ?_, rfl, mov_put rfl⟩
    rw [← hlen, hd]
    refine ⟨by rw [cI_len]; omega, .inr ⟨g, c, _, rfl, hb, heap_put hh, by omega, hm, by simpa [putCells] using hs, ?_⟩⟩
    apply List.ext_getElem?
    intro j
    by_cases hj : j < (l.eraseIdx k).length
    · rw [List.getElem?_take, if_pos (by omega), cI_get _ hj, Array.getElem?_toList]
      have hjc : j < cur.size := by omega
      simp only [putCells, Array.getElem?_mapIdx, Array.getElem?_eq_getElem hjc, Option.map_some]
      rw [if_pos ⟨Nat.zero_le _, by simp [zI_len]; omega⟩, Nat.sub_zero, arr_get _ (by simp [zI_len]; omega)]
      rw [List.getD_eq_getElem?_getD, List.getElem?_append_left (by rw [zI_len]; exact hj), ← List.getD_eq_getElem?_getD, zI_get _ hj]
    · rw [List.getElem?_eq_none (by simp; omega), List.getElem?_eq_none (by rw [cI_len]; omega)]

end Go.Proofs.Ytngaecfainhjcaa
