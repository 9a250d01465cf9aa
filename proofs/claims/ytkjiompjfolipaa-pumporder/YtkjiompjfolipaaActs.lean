/-
  Lists of acts and of numbers that are read lie in memory as rows.
-/
import Derived.Test.YtkjiompjfolipaaMem
import Derived.Test.YtkjiompjfolipaaOpen
import Derived.Deep.Slices
namespace Go.Proofs.Ytkjiompjfolipaa
open Go.ChangeShapes Go.WideShapes Go.ChangeAt Go.RowKit Go.Joins Go.Deep

theorem cells28 : Try.prog.cellsOf 28 = 2 := by kernel_rfl
theorem cells3 : Try.prog.cellsOf 3 = 1 := by kernel_rfl
theorem cells4 : Try.prog.cellsOf 4 = 1 := by kernel_rfl

set_option maxRecDepth 100000 in
theorem dec_act {H : Type} {enc : TypeId × Value → H} {W : World} {sp : Nat → Bool} {n : Nat} {cs : List Value} {y : DataW H × List MemPlace} (h : DataW.trod enc Try.prog W 0 sp true n 28 cs = some y) :
    ∃ (r : Bool) (v : Int), cs = [.bool r, .int .i64 v] := by
  obtain ⟨xs, k, _, _, hlen, hxl, hf⟩ := DataW.trod_struct Try.underlying28 h
  rw [cells28] at hlen
  match cs, hlen with
  | [u0, u1], _ =>
    match xs, hxl with
    | [y0, y1], _ =>
      have g0 := hf 0 _ rfl
      have g1 := hf 1 _ rfl
      simp [cells3, cells4] at g0 g1
      obtain ⟨a, e0, _⟩ := DataW.trod_bool Try.underlying4 g0
      obtain ⟨b, e1, _, _⟩ := DataW.trod_int Try.underlying3 g1
      simp at e0 e1
      subst e0 e1
      exact ⟨a, b, rfl⟩

theorem acts_open {H : Type} {enc : TypeId × Value → H} {W : World} {a0 : Option Addr} {len cap fuel : Nat} {sp : Nat → Bool} {y : DataW H × List MemPlace}
    (hf : DataW.trod enc Try.prog W 0 sp true fuel 22 [.slice a0 len cap] = some y) : len ≤ cap ∧ cap ≤ maxLen ∧ Acts W a0 len := by
  rcases open_slice Try.underlying22 hf with ⟨hcs, _⟩ | ⟨a, l, c, m, n, D, Pl, hcs, _, hl, hm, hmm, _, hx⟩
  · simp at hcs
    obtain ⟨rfl, rfl, rfl⟩ := hcs
    exact ⟨Nat.le_refl _, by unfold maxLen; omega, fun i hi => by omega⟩
  · simp at hcs
    obtain ⟨rfl, rfl, rfl⟩ := hcs
    have hlm : len ≤ m := by rw [hmm]; split <;> omega
    refine ⟨hl, hm, fun i hi => ?_⟩
    obtain ⟨cs', h1, h2⟩ := hx i (by omega)
    rw [cells28] at h1
    obtain ⟨_, _, hcell⟩ := World.cells?_some h1
    obtain ⟨r, v, rfl⟩ := dec_act h2
    obtain ⟨b, off, spot⟩ := a
    have c0 := hcell 0 (by omega)
    have c1 := hcell 1 (by omega)
    simp only [List.getElem?_cons_zero, List.getElem?_cons_succ] at c0 c1
    obtain ⟨ds', k1, k2⟩ := hx 0 (by omega)
    rw [cells28] at k1
    obtain ⟨_, _, kcell⟩ := World.cells?_some k1
    obtain ⟨r', v', rfl⟩ := dec_act k2
    have k0 := kcell 0 (by omega)
    simp only [List.getElem?_cons_zero] at k0
    have hspot : spot = none := by simpa [Addr.add] using World.cell?_spot k0
    subst hspot
    rw [add_plain, add_plain] at c0 c1
    have hlt := block_lt_of_cell c0
    exact ⟨b, off, r, v, rfl, hlt, c0, c1⟩

theorem ints_open {H : Type} {enc : TypeId × Value → H} {W : World} {a0 : Option Addr} {len cap fuel : Nat} {sp : Nat → Bool} {y : DataW H × List MemPlace}
    (hf : DataW.trod enc Try.prog W 0 sp true fuel 37 [.slice a0 len cap] = some y) : len ≤ cap ∧ cap ≤ maxLen ∧ Ints W a0 len := by
  rcases open_slice Try.underlying37 hf with ⟨hcs, _⟩ | ⟨a, l, c, m, n, D, Pl, hcs, _, hl, hm, hmm, _, hx⟩
  · simp at hcs
    obtain ⟨rfl, rfl, rfl⟩ := hcs
    exact ⟨Nat.le_refl _, by unfold maxLen; omega, fun i hi => by omega⟩
  · simp at hcs
    obtain ⟨rfl, rfl, rfl⟩ := hcs
    have hlm : len ≤ m := by rw [hmm]; split <;> omega
    refine ⟨hl, hm, fun i hi => ?_⟩
    obtain ⟨cs', h1, h2⟩ := hx i (by omega)
    rw [cells3] at h1
    obtain ⟨_, _, hcell⟩ := World.cells?_some h1
    obtain ⟨v, rfl, _, _⟩ := DataW.trod_int Try.underlying3 h2
    obtain ⟨b, off, spot⟩ := a
    have c0 := hcell 0 (by omega)
    simp only [List.getElem?_cons_zero] at c0
    obtain ⟨ds', k1, k2⟩ := hx 0 (by omega)
    rw [cells3] at k1
    obtain ⟨_, _, kcell⟩ := World.cells?_some k1
    obtain ⟨v', rfl, _, _⟩ := DataW.trod_int Try.underlying3 k2
    have k0 := kcell 0 (by omega)
    simp only [List.getElem?_cons_zero] at k0
    have hspot : spot = none := by simpa [Addr.add] using World.cell?_spot k0
    subst hspot
    rw [add_plain, add_plain] at c0
    have hlt := block_lt_of_cell c0
    exact ⟨b, off, v, rfl, hlt, by simpa using c0⟩

end Go.Proofs.Ytkjiompjfolipaa
