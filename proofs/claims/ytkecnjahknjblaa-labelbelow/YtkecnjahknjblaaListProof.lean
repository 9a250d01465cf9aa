/-
  Called with any list of labels and any two labels, the law LabelBelow returns true and leaves its arguments as they were; no condition.
-/
import Derived.Test.YtkecnjahknjblaaList
import Derived.Test.YtkecnjahknjblaaOrderProof
import Derived.Deep.SlicePairs
namespace Go.Proofs.Ytkecnjahknjblaa
open Go.ChangeShapes Go.WideShapes Go.ChangeAt Go.RowKit Go.Joins Go.Deep

theorem laidOut : laidOutB Try.prog = true := by kernel_rfl

/-- A list of labels that is read lies in memory as a row of pairs. -/
theorem lab_open {H : Type} {enc : TypeId × Value → H} {W : World} {a0 : Option Addr} {len cap fuel : Nat} {sp : Nat → Bool} {x : DataW H × List MemPlace}
    (hf : DataW.trod enc Try.prog W 0 sp true fuel 29 [.slice a0 len cap] = some x) (n : Nat) (hn : n ≤ len) : len ≤ cap ∧ cap ≤ maxLen ∧ ∃ ls : List (Int × Int), ls.length = n ∧ LabRow W a0 ls := by
  rcases open_slice_pairs Try.underlying29 Try.underlying23 cells23 rfl rfl (by kernel_rfl) (by kernel_rfl) hf with ⟨hcs, _⟩ | ⟨a, l, c, m, k, V0, V1, D0, D1, P0, P1, hcs, _, hl, hm, hmm, _, hcell⟩
  · simp at hcs
    obtain ⟨rfl, rfl, rfl⟩ := hcs
    exact ⟨Nat.le_refl _, by unfold maxLen; omega, [], by simp; omega, Or.inl rfl⟩
  · simp at hcs
    obtain ⟨rfl, rfl, rfl⟩ := hcs
    have hlm : len ≤ m := by rw [hmm]; split <;> omega
    refine ⟨hl, hm, (List.range n).map fun i => (intOf (V0 i), intOf (V1 i)), by simp, ?_⟩
    by_cases h0 : n = 0
    · subst h0; exact Or.inl rfl
    · right
      obtain ⟨b, off, spot⟩ := a
      have hspot : spot = none := by simpa [Addr.add] using World.cell?_spot (hcell 0 (by omega)).1
      subst hspot
      refine ⟨b, off, rfl, ?_, fun i hi => ?_⟩
      · have := block_lt_of_cell (hcell 0 (by omega)).1
        simpa [Addr.add] using this
      · simp at hi
        obtain ⟨h1, h2, h3, h4⟩ := hcell i (by omega)
        obtain ⟨y0, e0, _, _⟩ := DataW.trod_int Try.underlying3 h3
        obtain ⟨y1, e1, _, _⟩ := DataW.trod_int Try.underlying3 h4
        simp at e0 e1
        rw [add_plain] at h1 h2
        have f0 : lv ((List.range n).map fun i => (intOf (V0 i), intOf (V1 i))) i = y0 := by simp [lv, hi, e0, intOf]
        have f1 : ct ((List.range n).map fun i => (intOf (V0 i), intOf (V1 i))) i = y1 := by simp [ct, hi, e1, intOf]
        rw [f0, f1, ← e0, ← e1]
        exact ⟨h1, by rw [Nat.add_assoc]; exact h2⟩

set_option maxRecDepth 100000 in
theorem list_lifted (os : Os) (started : os.Started) (H : Type) (enc : TypeId × Value → H) :
    ReturnsInHanded {} Try.checked os 6 .any (Rows.labelBelowSpec.pre6 enc Try.prog Try.f6 Rows.labelBelowRow.domain false) (Rows.labelBelowSpec.post enc Try.prog Try.f6 false true false false) := by
  refine returnsInHanded_of_change (C := Try.checked) own started (by kernel_rfl) Try.func6
    (ChangeSpec.witness6 (enc := enc) (C := Try.checked) false ⟨#[], #[.slice none 0 0, .agg #[.int .i64 0, .int .i64 0], .agg #[.int .i64 0, .int .i64 0]], []⟩ 8 (by kernel_rfl) (by kernel_rfl) (by kernel_rfl) (by kernel_rfl)) ?_
  intro W base args ds gs before hval0 hW hcnd _
  have hval : ∀ (j : Nat) t v, Try.f6.params[j]? = some t → args[j]? = some v → Value.okWide Try.prog W .any base t v := hval0
  have hW' := hW
  obtain ⟨p, q, hA0, hV, rfl, hfz, hnd⟩ := hW
  have hA : DataW.TrodAll enc Try.prog W 0 (fun _ => true) true Try.f6.params.toList args.toList ds p := hA0
  rw [Try.params6] at hA hval
  obtain ⟨v0, v1, v2, d0, d1, d2, p0, p1, p2, rfl, rfl, rfl, h0, h1, h2⟩ := trodAll_three hA
  obtain ⟨rfl, rfl⟩ := trodVars_none hV
  obtain ⟨a0, len, cap, rfl⟩ := okWide_slice Try.underlying29 (hval 0 29 v0 rfl rfl)
  have k0 := h0
  have lt0 : ∀ x ∈ p0, x.block < W.heap.size := by obtain ⟨m, hm⟩ := k0; exact DataW.trod_lt m _ _ _ hm
  obtain ⟨fuel, hf⟩ := h0
  obtain ⟨hcap, hmax, ls, hls, hrow⟩ := lab_open (len := len) (cap := cap) (by simpa [Value.cells] using hf) (min len 100) (by omega)
  obtain ⟨c0, c1, y0, y1, m1, rfl, rfl, rfl, hz0, hz1⟩ := open_agg2 Try.underlying23 (by kernel_rfl) cells23 (hval 1 23 v1 rfl rfl) h1
  obtain ⟨al, e0, rfl, wal⟩ := DataW.trod_int Try.underlying3 hz0
  obtain ⟨ac, e1, rfl, wac⟩ := DataW.trod_int Try.underlying3 hz1
  simp at e0 e1
  subst e0 e1
  obtain ⟨c0, c1, y0, y1, m2, rfl, rfl, rfl, hx0, hx1⟩ := open_agg2 Try.underlying23 (by kernel_rfl) cells23 (hval 2 23 v2 rfl rfl) h2
  obtain ⟨bl, e0, rfl, wbl⟩ := DataW.trod_int Try.underlying3 hx0
  obtain ⟨bc, e1, rfl, wbc⟩ := DataW.trod_int Try.underlying3 hx1
  simp at e0 e1
  subst e0 e1
  clear hA0 hval0
  refine (list_walk a0 len cap (min len 100) ls al ac bl bc W (by omega) hcap hmax hls hrow).mono fun e W' ⟨he, bel⟩ => ?_
  subst he
  exact ⟨_, rfl, _, _, _, [], _, [], hW', trodAll_mk1 (shut_bool Try.underlying4 _), trodAll_mk3 (Below.trod laidOut (by kernel_rfl) (of_decide_eq_true (by kernel_rfl)) k0 bel lt0) (labReads wal wac W' _) (labReads wbl wbc W' _), rfl, bel.frame _, fun h => by cases h⟩

theorem list_over : Rows.labelBelowRow.holds Try.pinned (OpenSpec.ofChange Rows.labelBelowSpec) :=
  OpenClaim.holds_of_wide 6 Try.f6 rfl rfl rfl rfl rfl rfl rfl ⟨rfl, rfl, rfl, rfl, rfl⟩ rfl rfl rfl rfl rfl (by kernel_rfl) Try.func6 (by kernel_rfl)
    (of_decide_eq_true (by kernel_rfl)) (by unfold Func.isWrapper; first | (rw [if_pos (by decide +kernel)]; kernel_rfl) | (rw [if_neg (by decide +kernel)]; exact ⟨rfl, rfl⟩))
    (fun os started H enc _ => list_lifted os started H enc)

theorem below_proved : Rows.LabelBelowSaid := list_over
#print axioms below_proved
end Go.Proofs.Ytkecnjahknjblaa
