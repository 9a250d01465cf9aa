/-
  Called with any wake-up and any number, the law BufferNone returns true and leaves its arguments as they were; no condition.
-/
import Derived.Test.YtiookbmffdmdeaaNone
import Derived.Test.YtiookbmffdmdeaaActs
namespace Go.Proofs.Ytiookbmffdmdeaa
open Go.ChangeShapes Go.WideShapes Go.ChangeAt Go.RowKit Go.Joins Go.Deep

/-- A wake-up by value reads so, in every world. -/
theorem wkReads {H : Type} {enc : TypeId × Value → H} {l c : Int} (wl : (Lit.int .i64 l).wf = true) (wc : (Lit.int .i64 c).wf = true) (W' : World) (sp : Nat → Bool) :
    DataW.Trod enc Try.prog W' 0 sp true 31 (.agg #[.int .i64 l, .int .i64 c]) (.agg [.lit (.int .i64 l), .lit (.int .i64 c)]) [] :=
  shut_agg2 (y0 := (.lit (.int .i64 l), [])) (y1 := (.lit (.int .i64 c), [])) Try.underlying31 (by kernel_rfl) cells31 ⟨1, by simp [DataW.trod, Try.underlying3, wl]⟩ ⟨1, by simp [DataW.trod, Try.underlying29, wc]⟩

set_option maxRecDepth 100000 in
theorem bufferNone_lifted (os : Os) (started : os.Started) (H : Type) (enc : TypeId × Value → H) :
    ReturnsInHanded {} Try.checked os 6 .any (Rows.bufferNoneSpec.pre6 enc Try.prog Try.f6 Rows.bufferNoneRow.domain false) (Rows.bufferNoneSpec.post enc Try.prog Try.f6 false true false false) := by
  refine returnsInHanded_of_change (C := Try.checked) own started (by kernel_rfl) Try.func6
    (ChangeSpec.witness6 (enc := enc) (C := Try.checked) false ⟨#[], #[.agg #[.int .i64 0, .int .i64 0], .int .i64 0], []⟩ 8 (by kernel_rfl) (by kernel_rfl) (by kernel_rfl) (by kernel_rfl)) ?_
  intro W base args ds gs before hval0 hW hcnd _
  have hval : ∀ (j : Nat) t v, Try.f6.params[j]? = some t → args[j]? = some v → Value.okWide Try.prog W .any base t v := hval0
  have hW' := hW
  obtain ⟨p, q, hA0, hV, rfl, hfz, hnd⟩ := hW
  have hA : DataW.TrodAll enc Try.prog W 0 (fun _ => true) true Try.f6.params.toList args.toList ds p := hA0
  rw [Try.params6] at hA hval
  obtain ⟨v0, v1, d0, d1, p0, p1, rfl, rfl, rfl, h0, h1⟩ := trodAll_two hA
  obtain ⟨rfl, rfl⟩ := trodVars_none hV
  obtain ⟨c0, c1, y0, y1, m0, rfl, rfl, rfl, hy0, hy1⟩ := open_agg2 Try.underlying31 (by kernel_rfl) cells31 (hval 0 31 v0 rfl rfl) h0
  obtain ⟨xt, e0, rfl, wt⟩ := DataW.trod_int Try.underlying3 hy0
  obtain ⟨xe, e1, rfl, we⟩ := DataW.trod_int Try.underlying29 hy1
  simp at e0 e1
  subst e0 e1
  obtain ⟨x1, rfl, rfl, rfl, w1⟩ := open_int Try.underlying3 (hval 1 3 v1 rfl rfl) h1
  have b1 := bounds_i64 w1
  clear hA0 hval0
  refine (none_walk ⟨xt, xe⟩ x1 W).mono fun e W' ⟨he, bel⟩ => ?_
  subst he
  exact ⟨_, rfl, _, _, _, [], _, [], hW', trodAll_mk1 (shut_bool Try.underlying4 _), trodAll_mk2 (wkReads wt we W' _) (shut_int Try.underlying3 w1), rfl, bel.frame _, fun h => by cases h⟩

theorem bufferNone_over : Rows.bufferNoneRow.holds Try.pinned (OpenSpec.ofChange Rows.bufferNoneSpec) :=
  OpenClaim.holds_of_wide 6 Try.f6 rfl rfl rfl rfl rfl rfl rfl ⟨rfl, rfl, rfl, rfl, rfl⟩ rfl rfl rfl rfl rfl (by kernel_rfl) Try.func6 (by kernel_rfl)
    (of_decide_eq_true (by kernel_rfl)) (by unfold Func.isWrapper; first | (rw [if_pos (by decide +kernel)]; kernel_rfl) | (rw [if_neg (by decide +kernel)]; exact ⟨rfl, rfl⟩))
    (fun os started H enc _ => bufferNone_lifted os started H enc)

theorem bufferNone_proved : Rows.BufferNoneSaid := bufferNone_over
#print axioms bufferNone_proved
end Go.Proofs.Ytiookbmffdmdeaa
