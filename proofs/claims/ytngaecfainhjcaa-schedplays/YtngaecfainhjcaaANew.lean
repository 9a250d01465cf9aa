/-
  What arena's New and Live come to, and what all calls of no arena do.
-/
import Derived.Test.YtngaecfainhjcaaASmall
import Derived.Laws.OwnMore
import Derived.OwnWalk
namespace Go.Proofs.Ytngaecfainhjcaa.A
open Go.RowKit

theorem info59 : (Try.prog.info? 59).map (fun i => (i.zero, i.size, i.bytes)) = some (some (.agg #[.int .i64 0, .bool false, .int .i64 0]), 3, 24) := by kernel_rfl
theorem info3 : (Try.prog.info? 3).map (fun i => (i.zero, i.size, i.bytes)) = some (some (.int .i64 0), 1, 8) := by kernel_rfl
theorem info4 : (Try.prog.info? 4).map (fun i => (i.zero, i.size, i.bytes)) = some (some (.bool false), 1, 1) := by kernel_rfl

/-- So many places, none of them taken. -/
def newN (most : Int) : Nat := (min (max most 0) 16).toNat
def newOf (n : Nat) : Ar := ⟨n, fun i => ⟨0, false, i + 1⟩, 0⟩
/-- The same, with the links of the first k places alone. -/
def newTo (n k : Nat) : Ar := ⟨n, fun i => ⟨0, false, if i < k then i + 1 else 0⟩, 0⟩

theorem newTo_succ (n k : Nat) : newTo n (k + 1) = { newTo n k with f := upd (newTo n k).f k { (newTo n k).f k with next := k + 1 } } := by
  unfold newTo
  congr 1
  funext i
  simp only [upd]
  by_cases e : i = k
  · subst e; simp
  · rw [if_neg e]
    by_cases h : i < k
    · rw [if_pos h, if_pos (by omega)]
    · rw [if_neg h, if_neg (by omega)]
theorem HasP.to {w : World} {P n : Nat} {f g : Nat → Plc} (h : HasP w P n f) (e : ∀ i, i < n → g i = f i) : HasP w P n g := by
  obtain ⟨cs, c1, c2, c3⟩ := h
  exact ⟨cs, c1, c2, fun i hi => by rw [e i hi]; exact c3 i hi⟩
theorem newTo_all {w : World} {B P n : Nat} (h : AtA w B P (newTo n n)) : AtA w B P (newOf n) :=
  ⟨h.box, h.row.to fun i hi => by have hi' : i < n := hi; simp [newTo, newOf, hi']⟩
theorem newOf_fit {n : Nat} (h : n ≤ 16) : Fit 0 (newOf n) := ⟨h, Nat.zero_le _, fun _ _ => Nat.le_refl _, fun _ hi => hi⟩

theorem made_cells (n i : Nat) (hi : i < n) : (madeCells #[Value.int .i64 0, .bool false, .int .i64 0] (n * 3))[i * 3]? = some (.int .i64 0) ∧ (madeCells #[Value.int .i64 0, .bool false, .int .i64 0] (n * 3))[i * 3 + 1]? = some (.bool false) ∧ (madeCells #[Value.int .i64 0, .bool false, .int .i64 0] (n * 3))[i * 3 + 2]? = some (.int .i64 0) := by
  have a0 : i * 3 < n * 3 := by omega
  have a1 : i * 3 + 1 < n * 3 := by omega
  have a2 : i * 3 + 2 < n * 3 := by omega
  have b0 : i * 3 % 3 = 0 := by omega
  have b1 : (i * 3 + 1) % 3 = 1 := by omega
  have b2 : (i * 3 + 2) % 3 = 2 := by omega
  refine ⟨?_, ?_, ?_⟩ <;> simp [madeCells, a0, a1, a2, b0, b1, b2]

set_option maxHeartbeats 1000000 in
theorem new_body (most : Int) (n : Nat) (hn : n ≤ 16) (w : World) (hm : (min (max most 0) 16) = (n : Int)) :
    Calls Try.prog 30 #[.int .i64 most] w fun e w' => e = .returned (.pointer (some ⟨w.heap.size + 1, 0, none⟩)) ∧ AtA w' (w.heap.size + 1) w.heap.size (newOf n) ∧ Below w.heap.size w w' := by
  obtain ⟨i0, hi, hz0, hz1, hz2⟩ := info_parts info59
  have hmk : ∀ W : World, (Instr.makeSlice 55 (.int .i64 (n : Int)) (.int .i64 (n : Int))).run Try.prog W = .ok (.slice (some ⟨W.heap.size, 0, none⟩) n n) (W.alloc (.cells (madeCells #[Value.int .i64 0, .bool false, .int .i64 0] (n * 3)) 59)) := fun W => by
    have h := run_make (P := Try.prog) W 55 59 i0 _ Try.underlying55 hi hz0 .i64 .i64 n n (by omega) (by omega) (by rw [hz2]; omega) (by omega)
    simp only [Int.toNat_natCast, hz1] at h
    exact h
  obtain ⟨cs, hcs⟩ : ∃ cs, cs = madeCells #[Value.int .i64 0, .bool false, .int .i64 0] (n * 3) := ⟨_, rfl⟩
  have HC : Hid (cs = madeCells #[Value.int .i64 0, .bool false, .int .i64 0] (n * 3)) := hcs
  rw [← hcs] at hmk
  clear hcs hi hz0 hz1 hz2
  obtain ⟨M, hM⟩ : ∃ M : Int, M = max most 0 := ⟨_, rfl⟩
  have hmx : ∀ (ats : Array TypeId) (ty : TypeId), Builtin.max_ ats ty #[.int .i64 most, .int .i64 0] = pure (.int .i64 M) := fun _ _ => by
    by_cases h : most < 0
    · simp [Builtin.max_, Builtin.max2, h, show M = 0 by omega]
    · simp [Builtin.max_, Builtin.max2, h, show M = most by omega]
  have hmn : ∀ (ats : Array TypeId) (ty : TypeId), Builtin.min_ ats ty #[.int .i64 M, .int .i64 16] = pure (.int .i64 (n : Int)) := fun _ _ => by
    by_cases h : 16 < M
    · simp [Builtin.min_, Builtin.min2, h, show (n : Int) = 16 by omega]
    · simp [Builtin.min_, Builtin.min2, h, show (n : Int) = M by omega]
  clear hm hM
  go_enter Try.func30, Try.ntmps30
  go_wp2
  go_loopw [16] (fun i wr => ∃ k : Nat, k ≤ n ∧ i = .int .i64 k ∧ AtA wr (w.heap.size + 1) w.heap.size (newTo n k) ∧ Below w.heap.size w wr) (fun i _ => n - (intOf i).toNat)
  case atStart =>
    refine ⟨0, Nat.zero_le _, rfl, ⟨?_, cs, ?_, ?_, ?_⟩, ((Below.refl _ _).alloc (Nat.le_refl _) _).alloc (by simp) _⟩
    · rw [show w.heap.size + 1 = (w.alloc (Obj.cells cs 59)).heap.size by simp]
      exact heap_alloc_new _ _
    · rw [Lib.alloc_old _ _ _ (by simp)]; exact heap_alloc_new _ _
    · rw [HC.out, size_madeCells]; rfl
    · intro i hi
      rw [HC.out]
      have := made_cells n i hi
      simpa [newTo] using this
  case round =>
    obtain ⟨k, hk, rfl, hA, hnx⟩ := hrel
    obtain ⟨c0, c1, _⟩ := hA.cells
    have c0' : wr.cell? ⟨w.heap.size + 1, 0, none⟩ = some (.slice (some ⟨w.heap.size, 0, none⟩) n n) := c0
    have HA : Hid (AtA wr (w.heap.size + 1) w.heap.size (newTo n k)) := hA
    have hz := hnx.size
    clear c0 c1 hmk hmx hmn
    by_cases hlt : k < n
    · have q2 := hA.row.frozen (k * 3 + 2)
      have p2 := (hA.row.cells hlt).2.2
      have hwr : IntKind.i64.wrap ((k : Int) + 1) = ((k + 1 : Nat) : Int) := by rw [wrapB (by omega)]; rfl
      clear hA
      go_wp2
      go_roundw
      case rel =>
        refine ⟨k + 1, by omega, by go_num, ?_, hnx.setCell (Nat.le_refl _) _⟩
        rw [newTo_succ]
        exact HA.out.setNext hlt (k + 1)
      case measure => simp [intOf]; omega
    · clear hA
      go_wp2
      go_ret
      obtain rfl : k = n := by omega
      exact ⟨rfl, newTo_all HA.out, hnx⟩

theorem new_any (most : Int) (w : World) :
    Calls Try.prog 30 #[.int .i64 most] w fun e w' => e = .returned (.pointer (some ⟨w.heap.size + 1, 0, none⟩)) ∧ AtA w' (w.heap.size + 1) w.heap.size (newOf (newN most)) ∧ Below w.heap.size w w' :=
  new_body most (newN most) (by unfold newN; omega) w (by unfold newN; omega)

/-- The handles that are somebody's, rising by place: of the first k places. -/
def liveTo (s : Ar) : Nat → List Nat
  | 0 => []
  | k + 1 => liveTo s k ++ if (s.f k).taken then [hd k (s.f k).backs] else []
theorem liveTo_len (s : Ar) : ∀ k, (liveTo s k).length ≤ k
  | 0 => Nat.le_refl _
  | k + 1 => by
    have := liveTo_len s k
    simp only [liveTo, List.length_append]
    split <;> simp <;> omega
def cI (l : List Nat) : List Value := l.map fun n : Nat => Value.int .i64 (n : Int)
theorem cI_snoc (l : List Nat) (k : Nat) : cI (l ++ [k]) = cI l ++ [.int .i64 (k : Int)] := by simp [cI]
theorem cI_len (l : List Nat) : (cI l).length = l.length := by simp [cI]

end Go.Proofs.Ytngaecfainhjcaa.A
