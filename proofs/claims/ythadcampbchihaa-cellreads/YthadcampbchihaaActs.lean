/-
  Lists of acts that are read lie in memory as rows.
-/
import Derived.Test.YthadcampbchihaaMem
import Derived.Test.YthadcampbchihaaOpen
import Derived.Deep.Slices
namespace Go.Proofs.Ythadcampbchihaa
open Go.ChangeShapes Go.WideShapes Go.ChangeAt Go.RowKit Go.Joins Go.Deep

theorem cells29 : Try.prog.cellsOf 29 = 4 := by kernel_rfl
theorem cells3 : Try.prog.cellsOf 3 = 1 := by kernel_rfl
theorem cells5 : Try.prog.cellsOf 5 = 1 := by kernel_rfl

set_option maxRecDepth 100000 in
theorem dec_act {H : Type} {enc : TypeId × Value → H} {W : World} {sp : Nat → Bool} {n : Nat} {cs : List Value} {y : DataW H × List MemPlace} (h : DataW.trod enc Try.prog W 0 sp true n 29 cs = some y) :
    ∃ d t x z : Int, cs = [.int .u8 d, .int .i64 t, .int .i64 x, .int .i64 z] ∧ (0 ≤ d ∧ d ≤ 255) := by
  obtain ⟨xs, k, _, _, hlen, hxl, hf⟩ := DataW.trod_struct Try.underlying29 h
  rw [cells29] at hlen
  match cs, hlen with
  | [u0, u1, u2, u3], _ =>
    match xs, hxl with
    | [y0, y1, y2, y3], _ =>
      have g0 := hf 0 _ rfl
      have g1 := hf 1 _ rfl
      have g2 := hf 2 _ rfl
      have g3 := hf 3 _ rfl
      simp [cells3, cells5] at g0 g1 g2 g3
      obtain ⟨a, e0, _, wa⟩ := DataW.trod_int Try.underlying5 g0
      obtain ⟨b, e1, _, _⟩ := DataW.trod_int Try.underlying3 g1
      obtain ⟨c, e2, _, _⟩ := DataW.trod_int Try.underlying3 g2
      obtain ⟨d, e3, _, _⟩ := DataW.trod_int Try.underlying3 g3
      simp at e0 e1 e2 e3
      subst e0 e1 e2 e3
      exact ⟨a, b, c, d, rfl, bounds_u8 wa⟩

theorem acts_open {H : Type} {enc : TypeId × Value → H} {W : World} {a0 : Option Addr} {len cap fuel : Nat} {sp : Nat → Bool} {y : DataW H × List MemPlace}
    (hf : DataW.trod enc Try.prog W 0 sp true fuel 22 [.slice a0 len cap] = some y) : len ≤ cap ∧ cap ≤ maxLen ∧ Acts W a0 len := by
  rcases open_slice Try.underlying22 hf with ⟨hcs, _⟩ | ⟨a, l, c, m, n, D, Pl, hcs, _, hl, hm, hmm, _, hx⟩
  · simp at hcs
    obtain ⟨rfl, rfl, rfl⟩ := hcs
    exact ⟨Nat.le_refl _, by unfold maxLen; omega, fun i hi => by omega⟩
  · simp at hcs
    obtain ⟨rfl, rfl, rfl⟩ := hcs
    have hlm : len ≤ m := by rw [hmm]; split <;> omega
    refine ⟨hl, hm, fun i hi => ?_⟩
    obtain ⟨cs', h1, h2⟩ := hx i (by omega)
    rw [cells29] at h1
    obtain ⟨_, _, hcell⟩ := World.cells?_some h1
    obtain ⟨d, t, x, z, rfl, hd⟩ := dec_act h2
    obtain ⟨b, off, spot⟩ := a
    have c0 := hcell 0 (by omega)
    have c1 := hcell 1 (by omega)
    have c2 := hcell 2 (by omega)
    have c3 := hcell 3 (by omega)
    simp only [List.getElem?_cons_zero, List.getElem?_cons_succ] at c0 c1 c2 c3
    obtain ⟨ds', k1, k2⟩ := hx 0 (by omega)
    rw [cells29] at k1
    obtain ⟨_, _, kcell⟩ := World.cells?_some k1
    obtain ⟨d', t', x', z', rfl, _⟩ := dec_act k2
    have k0 := kcell 0 (by omega)
    simp only [List.getElem?_cons_zero] at k0
    have hspot : spot = none := by simpa [Addr.add] using World.cell?_spot k0
    subst hspot
    rw [add_plain, add_plain] at c0 c1 c2 c3
    have hlt := block_lt_of_cell c0
    exact ⟨b, off, d, t, x, z, rfl, hlt, c0, c1, c2, c3, hd⟩

end Go.Proofs.Ythadcampbchihaa
