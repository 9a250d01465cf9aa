/-
  Called with any three labels, the law LabelLattice returns true and leaves its arguments as they were; no condition.
-/
import Derived.Test.YtkecnjahknjblaaLattice
import Derived.Test.YtkecnjahknjblaaOrderProof
namespace Go.Proofs.Ytkecnjahknjblaa
open Go.ChangeShapes Go.WideShapes Go.ChangeAt Go.RowKit Go.Joins

theorem or_comm' (a b : Int) : bits .or .i64 a b = bits .or .i64 b a :=
  bt_ext _ _ (or_in _ _) (or_in _ _) fun n _ => by rw [bt_or, bt_or, Bool.or_comm]
theorem and_comm' (a b : Int) : bits .and .i64 a b = bits .and .i64 b a :=
  bt_ext _ _ (and_in _ _) (and_in _ _) fun n _ => by rw [bt_and, bt_and, Bool.and_comm]
theorem or_and (a b : Int) (ha : In64 a) : bits .or .i64 a (bits .and .i64 a b) = a :=
  bt_ext _ _ (or_in _ _) ha fun n _ => by rw [bt_or, bt_and]; cases bt a n <;> simp
theorem and_or (a b : Int) (ha : In64 a) : bits .and .i64 a (bits .or .i64 a b) = a :=
  bt_ext _ _ (and_in _ _) ha fun n _ => by rw [bt_and, bt_or]; cases bt a n <;> simp

theorem good_or (al ac bl bc : Int) (ha : In64 ac) (hb : In64 bc) (h : goodB al ac = true) (k : goodB bl bc = true) : goodB (max al bl) (bits .or .i64 ac bc) = true := by
  unfold goodB at *
  simp only [decide_eq_true_eq] at *
  have h1 := (low_iff ac ha).2 ⟨h.2.2.1, h.2.2.2⟩
  have h2 := (low_iff bc hb).2 ⟨k.2.2.1, k.2.2.2⟩
  have h3 := (low_iff _ (or_in ac bc)).1 fun n x y => by rw [bt_or, h1 n x y, h2 n x y]; rfl
  omega

theorem bool_cases3 {p q r : Bool} (h : p = true → q = true → r = true) : p = false ∨ p = true ∧ q = false ∨ p = true ∧ q = true ∧ r = true := by
  cases p
  · exact Or.inl rfl
  · cases q
    · exact Or.inr (Or.inl ⟨rfl, rfl⟩)
    · exact Or.inr (Or.inr ⟨rfl, rfl, h rfl rfl⟩)
theorem bool_cases3' {p q r : Bool} (h : q = true → r = true → p = true) : p = true ∨ p = false ∧ q = false ∨ p = false ∧ q = true ∧ r = false := by
  cases p
  · cases q
    · exact Or.inr (Or.inl ⟨rfl, rfl⟩)
    · cases r
      · exact Or.inr (Or.inr ⟨rfl, rfl, rfl⟩)
      · exact absurd (h rfl rfl) (by decide)
  · exact Or.inl rfl

theorem lattice_any (al ac bl bc cl cc : Int) (ha : In64 ac) (hb : In64 bc) : LatticeCase al ac bl bc cl cc := by
  refine lattice_walk al ac bl bc cl cc (max al bl) (bits .or .i64 ac bc) (min al bl) (bits .and .i64 ac bc) rfl rfl (by omega) (or_comm' _ _) rfl rfl (by omega) (and_comm' _ _)
    (by omega) (or_and _ _ ha) (by omega) (and_or _ _ ha) ?_ ?_ ?_ ?_ (bool_cases3 ?_) (bool_cases3 ?_) (bool_cases3' (good_or al ac bl bc ha hb))
  · rw [leqB_iff, sub_iff]; exact ⟨by omega, fun n _ h => by rw [bt_or, h]; rfl⟩
  · rw [leqB_iff, sub_iff]; exact ⟨by omega, fun n _ h => by rw [bt_or, h]; simp⟩
  · rw [leqB_iff, sub_iff]; exact ⟨by omega, fun n _ h => by rw [bt_and] at h; simp at h; exact h.1⟩
  · rw [leqB_iff, sub_iff]; exact ⟨by omega, fun n _ h => by rw [bt_and] at h; simp at h; exact h.2⟩
  · intro h k
    rw [leqB_iff, sub_iff] at *
    refine ⟨by omega, fun n hn x => ?_⟩
    rw [bt_or] at x
    simp at x
    rcases x with x | x
    · exact h.2 n hn x
    · exact k.2 n hn x
  · intro h k
    rw [leqB_iff, sub_iff] at *
    refine ⟨by omega, fun n hn x => ?_⟩
    rw [bt_and, h.2 n hn x, k.2 n hn x]
    rfl

set_option maxRecDepth 100000 in
theorem lattice_lifted (os : Os) (started : os.Started) (H : Type) (enc : TypeId × Value → H) :
    ReturnsInHanded {} Try.checked os 4 .any (Rows.labelLatticeSpec.pre6 enc Try.prog Try.f4 Rows.labelLatticeRow.domain false) (Rows.labelLatticeSpec.post enc Try.prog Try.f4 false true false false) := by
  refine returnsInHanded_of_change (C := Try.checked) own started (by kernel_rfl) Try.func4
    (ChangeSpec.witness6 (enc := enc) (C := Try.checked) false ⟨#[], #[.agg #[.int .i64 0, .int .i64 0], .agg #[.int .i64 0, .int .i64 0], .agg #[.int .i64 0, .int .i64 0]], []⟩ 8 (by kernel_rfl) (by kernel_rfl) (by kernel_rfl) (by kernel_rfl)) ?_
  intro W base args ds gs before hval0 hW hcnd _
  have hval : ∀ (j : Nat) t v, Try.f4.params[j]? = some t → args[j]? = some v → Value.okWide Try.prog W .any base t v := hval0
  have hW' := hW
  obtain ⟨p, q, hA0, hV, rfl, hfz, hnd⟩ := hW
  have hA : DataW.TrodAll enc Try.prog W 0 (fun _ => true) true Try.f4.params.toList args.toList ds p := hA0
  rw [Try.params4] at hA hval
  obtain ⟨v0, v1, v2, d0, d1, d2, p0, p1, p2, rfl, rfl, rfl, h0, h1, h2⟩ := trodAll_three hA
  obtain ⟨rfl, rfl⟩ := trodVars_none hV
  obtain ⟨c0, c1, y0, y1, m0, rfl, rfl, rfl, hy0, hy1⟩ := open_agg2 Try.underlying23 (by kernel_rfl) cells23 (hval 0 23 v0 rfl rfl) h0
  obtain ⟨al, e0, rfl, wal⟩ := DataW.trod_int Try.underlying3 hy0
  obtain ⟨ac, e1, rfl, wac⟩ := DataW.trod_int Try.underlying3 hy1
  simp at e0 e1
  subst e0 e1
  obtain ⟨c0, c1, y0, y1, m1, rfl, rfl, rfl, hz0, hz1⟩ := open_agg2 Try.underlying23 (by kernel_rfl) cells23 (hval 1 23 v1 rfl rfl) h1
  obtain ⟨bl, e0, rfl, wbl⟩ := DataW.trod_int Try.underlying3 hz0
  obtain ⟨bc, e1, rfl, wbc⟩ := DataW.trod_int Try.underlying3 hz1
  simp at e0 e1
  subst e0 e1
  obtain ⟨c0, c1, y0, y1, m2, rfl, rfl, rfl, hx0, hx1⟩ := open_agg2 Try.underlying23 (by kernel_rfl) cells23 (hval 2 23 v2 rfl rfl) h2
  obtain ⟨cl, e0, rfl, wcl⟩ := DataW.trod_int Try.underlying3 hx0
  obtain ⟨cc, e1, rfl, wcc⟩ := DataW.trod_int Try.underlying3 hx1
  simp at e0 e1
  subst e0 e1
  clear hA0 hval0
  simp only [List.append_nil] at hW'
  refine (lattice_any al ac bl bc cl cc (in64_of_wf wac) (in64_of_wf wbc) W).mono fun e W' ⟨he, hg⟩ => ?_
  subst he
  exact ⟨_, rfl, _, _, _, [], [], [], hW', trodAll_mk1 (shut_bool Try.underlying4 _), trodAll_mk3 (labReads wal wac W' _) (labReads wbl wbc W' _) (labReads wcl wcc W' _), rfl, hg.frame _, fun h => by cases h⟩

theorem lattice_over : Rows.labelLatticeRow.holds Try.pinned (OpenSpec.ofChange Rows.labelLatticeSpec) :=
  OpenClaim.holds_of_wide 4 Try.f4 rfl rfl rfl rfl rfl rfl rfl ⟨rfl, rfl, rfl, rfl, rfl⟩ rfl rfl rfl rfl rfl (by kernel_rfl) Try.func4 (by kernel_rfl)
    (of_decide_eq_true (by kernel_rfl)) (by unfold Func.isWrapper; first | (rw [if_pos (by decide +kernel)]; kernel_rfl) | (rw [if_neg (by decide +kernel)]; exact ⟨rfl, rfl⟩))
    (fun os started H enc _ => lattice_lifted os started H enc)

theorem lattice_proved : Rows.LabelLatticeSaid := lattice_over
#print axioms lattice_proved
end Go.Proofs.Ytkecnjahknjblaa
