/-
  What the document's Push comes to onto a queue that has no row yet.
-/
import Derived.Test.YtonahaembfbgbaaRefLit
namespace Go.Proofs.Ytonahaembfbgbaa
open Go.RowKit
attribute [local go_sem ↓] Go.wp_at_zero Go.wp_at_succ

theorem run_none (b : Nat) (ty : TypeId) (w : World) : (Builtin.append_ #[37, 37] ty #[.slice (some ⟨b, 0, none⟩) 0 0, .slice none 0 0]).run Try.prog w = .ok (.slice (some ⟨b, 0, none⟩) 0 0) w := by
  have hu := Try.underlying37
  have hu3 := Try.underlying3
  simp [Builtin.append_, go_sem]
/-- 'append' of no row onto a new one, as one step of a region that draws its order. -/
theorem step_none (w : World) {ops : Array Oper} {o : Oper} {a : Act} {K : Act → World → Prop} {Q : Exit → Act → World → Prop} {E : Prop} (hgd : o.guard = none) (s x : Operand)
    (ho : o.op = .call { callee := .builtin .append, args := #[s, x], argTypes := #[37, 37] }) (b : Nat) (hs : a.eval s = .slice (some ⟨b, 0, none⟩) 0 0) (hx : a.eval x = .slice none 0 0)
    (h : K (a.put o.dst (.slice (some ⟨b, 0, none⟩) 0 0)) w) : if Region.wanted o (yielded ops a.tmps) = true then Oper.wp Try.prog o a w K Q else E := by
  have hw : Region.wanted o (yielded ops a.tmps) = true := by simp [Region.wanted, hgd]
  rw [if_pos hw]
  have hr := run_none b o.type w
  unfold Oper.wp execOp
  simp only [ho, resolve, invoke, builtin, Sem.run_bind, Sem.run_pure, Result.andThen_ok, List.map_toArray, List.map_cons, List.map_nil, hs, hx, hr]
  exact h

set_option maxHeartbeats 40000000 in
set_option maxRecDepth 100000 in
theorem refPush_nil (R T : Nat) (s : Qs) (vs : Nat → Value) (k y : Nat) (w : World) (hs : Ok s) (hR : AtR w R T s vs) (hk : k < s.nq) (hy : y < s.ni) (hw : s.wh y = -1) (hv : vs k = .slice none 0 0) :
    Calls Try.prog 15 #[.pointer (some ⟨R, 0, none⟩), .int .i64 (k : Int), .int .i64 (y : Int)] w fun e w' => e = .returned (.bool true) ∧ NowR R T (pushAt s k y) w w' := by
  obtain ⟨i0, hi, hz0, hz1, hz2⟩ := info_parts info3
  obtain ⟨c0, c1⟩ := hR.cells
  obtain ⟨t0, t1⟩ := hR.at hk
  have hrow := hR.row k hk
  have hWh := refWhere_any R T s vs (y : Int) w hs hR
  rw [show whereOf s (y : Int) = -1 by unfold whereOf; split <;> simp [hw]] at hWh
  rw [hv] at t0 hrow
  have hln : s.l k = [] := by
    rcases hrow.2 with ⟨_, h⟩ | ⟨g, cap, cur, h, _⟩
    · exact List.length_eq_zero_iff.1 h
    · cases h
  have h32 := hs.nq
  have h33 := hs.ni
  have hTl := hR.ltT
  have hRl := hR.ltR
  have d1 : decide ((k : Int) < 0) = false := by simp
  have d2 : decide ((s.nq : Int) ≤ (k : Int)) = false := by simp; omega
  have d2' : decide (s.nq ≤ k) = false := by simp; omega
  have d4' : decide (s.ni ≤ y) = false := by simp; omega
  have d3 : decide ((y : Int) < 0) = false := by simp
  have d4 : decide ((s.ni : Int) ≤ (y : Int)) = false := by simp; omega
  have hk' : (k : Int) < (s.nq : Int) := by omega
  have b2 : (0 : Int) ≤ (k : Int) := by omega
  have HR := hide hR
  have HW := hide hWh
  have HKN := hide hk
  have HLN := hide hln
  clear hR hrow hs hk hy hw hv hln hWh
  go_enter Try.func15, Try.ntmps15
  go_wp2_with fail
  refine HW.out.mono ?_
  rintro e w2 ⟨rfl, hw2⟩
  have hw2' := hw2.symm
  clear hw2
  subst hw2'
  clear HW
  go_wp2_with fail
  clear d1 d2 d2' d3 d4 d4' c1 h33
  go_region_law
    (first | ((refine step_none _ (by rfl) _ _ (by rfl) _ (by rfl) (by rfl) ?_)) | ((refine step_append_any _ (by rfl) _ _ _ (by rfl) w.heap.size 3 i0 (.int .i64 0) 1 8 Try.underlying37 hi hz0 hz1 hz2 rfl (by omega) _ 0 [] (by rfl) (by first | exact lit2 w _ | exact lit3 w _) _ 1 1 [.int .i64 (y : Int)] (by rfl) (by rfl) (by refine news_one ?_; first | exact cx2 w _ | exact cx3 w _) (ones_int _) (by unfold maxLen; omega) (by omega) (by first | omega | (simp <;> omega)) ?_; intro ad' cap' w5 hown5 hgrow5 hat5; have hW1 : Below w.heap.size w _ := below_at hgrow5 (bel2 w _ _); have hB5 : Below w.heap.size w w5 := below_app hW1 (by omega) hgrow5; have yc := (HR.out.below hB5).cells.1; have yr := (HR.out.below hB5).ltR; have yl := (HR.out.below hB5).ltT; obtain ⟨yt, yf⟩ := (HR.out.below hB5).at HKN.out)))
  all_goals
    have HS := hide (HR.out.set (v := .slice ad' (0 + 1) cap') (l := s.l k ++ [y]) (s' := pushAt s k y) (k := k) hB5 (by rw [HLN.out]; exact owns_mono hown5 (Nat.zero_le _)) HKN.out rfl rfl (fun j hj => rfl))
    clear hown5 hgrow5
    go_wp2
    go_ret
    exact ⟨rfl, _, HS.out.1, HS.out.2⟩

end Go.Proofs.Ytonahaembfbgbaa
