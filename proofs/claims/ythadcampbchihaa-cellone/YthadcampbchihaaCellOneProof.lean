/-
  By any acts, and an act behind them: one task at most writes; who does not changes no word and no number, and is answered no OK; who does is answered a misuse if it begins again.
-/
import Derived.Test.YthadcampbchihaaOne
import Derived.Test.YthadcampbchihaaActs
namespace Go.Proofs.Ythadcampbchihaa
open Go.ChangeShapes Go.WideShapes Go.ChangeAt Go.RowKit Go.Joins Go.Deep

/-- An act by value reads so, in every world. -/
theorem actReads {H : Type} {enc : TypeId × Value → H} {d t i v : Int} (wd : (Lit.int .u8 d).wf = true) (wt : (Lit.int .i64 t).wf = true) (wi : (Lit.int .i64 i).wf = true) (wv : (Lit.int .i64 v).wf = true) (W' : World) (sp : Nat → Bool) :
    DataW.Trod enc Try.prog W' 0 sp true 29 (.agg #[.int .u8 d, .int .i64 t, .int .i64 i, .int .i64 v]) (.agg [.lit (.int .u8 d), .lit (.int .i64 t), .lit (.int .i64 i), .lit (.int .i64 v)]) [] :=
  shut_agg4 (y0 := (.lit (.int .u8 d), [])) (y1 := (.lit (.int .i64 t), [])) (y2 := (.lit (.int .i64 i), [])) (y3 := (.lit (.int .i64 v), [])) Try.underlying29 (by kernel_rfl) cells29 ⟨1, by simp [DataW.trod, Try.underlying5, wd]⟩ ⟨1, by simp [DataW.trod, Try.underlying3, wt]⟩ ⟨1, by simp [DataW.trod, Try.underlying3, wi]⟩ ⟨1, by simp [DataW.trod, Try.underlying3, wv]⟩

set_option maxRecDepth 100000 in
theorem cellOne_lifted (os : Os) (started : os.Started) (H : Type) (enc : TypeId × Value → H) :
    ReturnsInHanded {} Try.checked os 5 .any (Rows.cellOneSpec.pre6 enc Try.prog Try.f5 Rows.cellOneRow.domain false) (Rows.cellOneSpec.post enc Try.prog Try.f5 false true false false) := by
  refine returnsInHanded_of_change (C := Try.checked) own started (by kernel_rfl) Try.func5
    (ChangeSpec.witness6 (enc := enc) (C := Try.checked) false ⟨#[], #[.int .u8 0, .slice none 0 0, .agg #[.int .u8 0, .int .i64 0, .int .i64 0, .int .i64 0]], []⟩ 8 (by kernel_rfl) (by kernel_rfl) (by kernel_rfl) (by kernel_rfl)) ?_
  intro W base args ds gs before hval0 hW hcnd _
  have hval : ∀ (j : Nat) t v, Try.f5.params[j]? = some t → args[j]? = some v → Value.okWide Try.prog W .any base t v := hval0
  have hW' := hW
  obtain ⟨p, q, hA0, hV, rfl, hfz, hnd⟩ := hW
  have hA : DataW.TrodAll enc Try.prog W 0 (fun _ => true) true Try.f5.params.toList args.toList ds p := hA0
  rw [Try.params5] at hA hval
  obtain ⟨v0, v1, v2, d0, d1, d2, p0, p1, p2, rfl, rfl, rfl, h0, h1, h2⟩ := trodAll_three hA
  obtain ⟨rfl, rfl⟩ := trodVars_none hV
  obtain ⟨x0, rfl, rfl, rfl, w0⟩ := open_int Try.underlying5 (hval 0 5 v0 rfl rfl) h0
  have b0 := bounds_u8 w0
  obtain ⟨a1, len1, cap1, rfl⟩ := okWide_slice Try.underlying22 (hval 1 22 v1 rfl rfl)
  have k1 := h1
  have lt1 : ∀ x ∈ p1, x.block < W.heap.size := by obtain ⟨m, hm⟩ := k1; exact DataW.trod_lt m _ _ _ hm
  obtain ⟨fuel1, hf1⟩ := h1
  obtain ⟨hcap1, hmax1, hact1⟩ := acts_open (len := len1) (cap := cap1) (by simpa [Value.cells] using hf1)
  obtain ⟨z0, z1, z2, z3, y0, y1, y2, y3, m0, rfl, rfl, rfl, hy0, hy1, hy2, hy3⟩ := open_agg4 Try.underlying29 (by kernel_rfl) cells29 (hval 2 29 v2 rfl rfl) h2
  obtain ⟨xd, e0, rfl, wd⟩ := DataW.trod_int Try.underlying5 hy0
  obtain ⟨xt, e1, rfl, wt⟩ := DataW.trod_int Try.underlying3 hy1
  obtain ⟨xi, e2, rfl, wi⟩ := DataW.trod_int Try.underlying3 hy2
  obtain ⟨xv, e3, rfl, wv⟩ := DataW.trod_int Try.underlying3 hy3
  simp at e0 e1 e2 e3
  subst e0 e1 e2 e3
  clear hA0 hval0
  refine (one_walk x0 b0 a1 len1 cap1 hcap1 hmax1 xd xt xi xv W hact1).mono fun e W' ⟨he, bel⟩ => ?_
  subst he
  exact ⟨_, rfl, _, _, _, [], _, [], hW', trodAll_mk1 (shut_bool Try.underlying4 _), trodAll_mk3 (shut_int Try.underlying5 w0) (Below.trod laidOut (by kernel_rfl) (of_decide_eq_true (by kernel_rfl)) k1 bel lt1) (actReads wd wt wi wv W' _), rfl, bel.frame _, fun h => by cases h⟩

theorem cellOne_over : Rows.cellOneRow.holds Try.pinned (OpenSpec.ofChange Rows.cellOneSpec) :=
  OpenClaim.holds_of_wide 5 Try.f5 rfl rfl rfl rfl rfl rfl rfl ⟨rfl, rfl, rfl, rfl, rfl⟩ rfl rfl rfl rfl rfl (by kernel_rfl) Try.func5 (by kernel_rfl)
    (of_decide_eq_true (by kernel_rfl)) (by unfold Func.isWrapper; first | (rw [if_pos (by decide +kernel)]; kernel_rfl) | (rw [if_neg (by decide +kernel)]; exact ⟨rfl, rfl⟩))
    (fun os started H enc _ => cellOne_lifted os started H enc)

theorem cellOne_proved : Rows.CellOneSaid := cellOne_over
#print axioms cellOne_proved
end Go.Proofs.Ythadcampbchihaa
