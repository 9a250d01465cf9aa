/-
  What the document's Take comes to.
-/
import Derived.Test.YtngaecfainhjcaaARefMem
import Derived.BigRegion
namespace Go.Proofs.Ytngaecfainhjcaa.A
open Go.RowKit
attribute [local go_sem ↓] Go.wp_at_zero Go.wp_at_succ

structure FitR (r : Rf) : Prop where
  gl : r.gens.length ≤ 16
  nl : r.now.length = r.gens.length
  bk : ∀ k, k < r.back.length → gs_ r.back k < r.gens.length
  bl : r.back.length ≤ 1000
  fr : r.fresh ≤ r.gens.length
  gk : ∀ k, k < r.gens.length → gs_ r.gens k ≤ 1000

/-- A place is given to somebody. -/
def rPut (r : Rf) (k : Nat) : Rf := { r with now := r.now.set k (hd k (gs_ r.gens k)) }
def rBack (r : Rf) : Rf := { r with back := r.back.take (r.back.length - 1) }
def rFresh (r : Rf) : Rf := { r with fresh := r.fresh + 1 }

/-- What there is of it behind a call that may turn it. -/
def NowR (R base : Nat) (v1 v2 v3 : Value) (r : Rf) (w w' : World) : Prop :=
  ∃ v3', AtR w' R base v1 v2 v3' r ∧ Mov (Mine R v1 v2 v3) w w' ∧ ∀ k, v3'.ownBlock = some k → w.heap.size ≤ k ∨ v3.ownBlock = some k

set_option maxHeartbeats 2000000 in
theorem refTake_fresh (R base : Nat) (v1 v2 v3 : Value) (r : Rf) (w : World) (hR : AtR w R base v1 v2 v3 r) (hf : FitR r) (h0 : r.back.length = 0) (h1 : r.fresh < r.gens.length) :
    Calls Try.prog 33 #[.pointer (some ⟨R, 0, none⟩)] w fun e w' => e = .returned (.tuple #[.int .i64 (hd r.fresh (gs_ r.gens r.fresh) : Nat), .bool true]) ∧ NowR R base v1 v2 v3 (rPut (rFresh r) r.fresh) w w' := by
  obtain ⟨c0, c1, c2, c3, cf⟩ := hR.cells
  have hgl := hf.gl
  have hnl := hf.nl
  have hgk := hf.gk _ h1
  obtain ⟨g1, k1, rfl, _, hl1, hc1, _⟩ := row_open hR.g (by omega)
  obtain ⟨g2, k2, rfl, _, hl2, hc2, _⟩ := row_open hR.n (by omega)
  obtain ⟨av, ac, rfl⟩ := owns_slice hR.b
  rw [h0] at c2
  obtain ⟨e1, _⟩ := hc1 _ h1
  obtain ⟨e2, e3⟩ := hc2 r.fresh (by omega)
  have cf3 := cf 3
  have n1 : g1 ≠ R := fun e => hR.boxfar hR.g (by rw [e]; rfl)
  have n2 : g2 ≠ R := fun e => hR.boxfar hR.n (by rw [e]; rfl)
  have n3 : g1 ≠ g2 := fun e => hR.gn g1 rfl (by rw [e]; rfl)
  have HR := hide hR
  have HL := hide hnl
  have HD : Hid (((hd r.fresh (gs_ r.gens r.fresh) : Nat) : Int) = 1 + (r.fresh : Int) + 16 * ((gs_ r.gens r.fresh : Nat) : Int)) := by show _ = _; unfold hd; omega
  have hi1 : (r.fresh : Int) < (r.gens.length : Int) := by omega
  have hi2 : (r.fresh : Int) < (r.now.length : Int) := by omega
  have hi0 : (0 : Int) ≤ (r.fresh : Int) := by omega
  have hwf : IntKind.i64.wrap ((r.fresh : Int) + 1) = ((r.fresh + 1 : Nat) : Int) := by rw [wrapB (by omega)]; rfl
  clear hR hnl hc1 hc2 cf
  generalize hX : gs_ r.gens r.fresh = X at *
  have HX := hide hX
  clear hX
  go_enter Try.func33, Try.ntmps33
  go_wp2_with fail
  go_quiet (fail)
  go_wp2_with fail
  go_region
  go_wp2
  go_ret2
  have e := AtR.setNow (r := { r with fresh := r.fresh + 1 }) ((HR.out.below (below_drewN w nq)).setFresh (r.fresh + 1)) r.fresh (hd r.fresh X)
  rw [HD.out] at e
  refine ⟨by rw [HD.out]; rfl, Value.slice av r.back.length ac, ?_, ?_, fun k hk => Or.inr hk⟩
  · have e' := e.below (Below.refl _ _).drew
    unfold rPut
    rw [show gs_ (rFresh r).gens r.fresh = X from HX.out]
    exact e'
  · exact ((((Mov.of_below (below_drewN w nq)).set (p := ⟨R, 3, none⟩) (Or.inl rfl) _).set (p := ⟨g2, r.fresh, none⟩) (Or.inr (Or.inr (Or.inl rfl))) _).then_below (Below.refl _ _).drew)

set_option maxHeartbeats 2000000 in
theorem refTake_none (R base : Nat) (v1 v2 v3 : Value) (r : Rf) (w : World) (hR : AtR w R base v1 v2 v3 r) (h0 : r.back.length = 0) (h1 : r.fresh = r.gens.length) :
    Calls Try.prog 33 #[.pointer (some ⟨R, 0, none⟩)] w fun e w' => e = .returned (.tuple #[.int .i64 0, .bool false]) ∧ NowR R base v1 v2 v3 r w w' := by
  obtain ⟨c0, c1, c2, c3, cf⟩ := hR.cells
  obtain ⟨av, ac, rfl⟩ := owns_slice hR.b
  obtain ⟨gv, gc, rfl⟩ := owns_slice hR.g
  rw [h0] at c2
  have HR := hide hR
  have ht : ¬ (r.fresh : Int) < (r.gens.length : Int) := by omega
  clear hR cf h1
  go_enter Try.func33, Try.ntmps33
  go_wp2_with fail
  go_quiet (fail)
  go_wp2
  go_ret2
  exact ⟨rfl, _, HR.out.below (below_drewN w nq), Mov.of_below (below_drewN w nq), fun k hk => Or.inr hk⟩

section
variable {P : Program} (w : World)
/-- 'append' onto a new row in which there is nothing. -/
theorem step_copy_any {ops : Array Oper} {o : Oper} {a : Act} {K : Act → World → Prop} {Q : Exit → Act → World → Prop} {E : Prop} (hgd : o.guard = none) (s x : Operand) (t : TypeId)
    (ho : o.op = .call { callee := .builtin .append, args := #[s, x], argTypes := #[t, t] })
    (base : Nat) (e : TypeId) (i : TypeInfo) (z : Value) (size bytes : Nat) (ht : P.underlying t = some (.slice e)) (hi : P.info? e = some i) (hz : i.zero = some z)
    (hsize : i.size = size) (hby : i.bytes = bytes) (hzs : z.cells.size = size) (hsz : 0 < size)
    (v : Value) (hs : a.eval s = v) (hown : w.ownsRow base e size v 0 [])
    (ad : Addr) (m c : Nat) (news : List Value) (hx : a.eval x = .slice (some ad) m c) (hl : news.length = m * size) (hnews : ∀ j u, news[j]? = some u → w.cell? (ad.add j) = some u) (h1 : ∀ u ∈ news, u.oneCell' = true)
    (h63 : m ≤ maxLen) (hbytes : m * bytes ≤ 140737488355328) (hbase : base ≤ w.heap.size)
    (h : ∀ ad' cap' w', w'.ownsRow base e size (.slice ad' m cap') m news → w.grownBy w' v.ownBlock → ((Value.slice ad' m cap').ownBlock = v.ownBlock ∨ (Value.slice ad' m cap').ownBlock = some w.heap.size) → K (a.put o.dst (.slice ad' m cap')) w') :
    if Region.wanted o (yielded ops a.tmps) = true then Oper.wp P o a w K Q else E := by
  refine step_append_any w hgd s x t ho base e i z size bytes ht hi hz hsize hby hzs hsz v 0 [] hs hown ad m c news hx hl hnews h1 (by omega) (by simpa using hbytes) hbase ?_
  intro ad' cap' w' h2 h3 h4
  simp only [Nat.zero_add, List.nil_append] at h2 h4 ⊢
  exact h ad' cap' w' h2 h3 h4
end

theorem below_new {w W1 w5 : World} (h : Below w.heap.size w W1) (hg : W1.grownBy w5 (some w.heap.size)) : Below w.heap.size w w5 :=
  h.grown hg h.size (fun k hk => by injection hk with hk; omega)

set_option maxHeartbeats 8000000 in
set_option maxRecDepth 100000 in
theorem refTake_back (R base : Nat) (v1 v2 v3 : Value) (r : Rf) (w : World) (hR : AtR w R base v1 v2 v3 r) (hf : FitR r) (m A : Nat) (h0 : r.back.length = m + 1) (hA : gs_ r.back m = A) :
    Calls Try.prog 33 #[.pointer (some ⟨R, 0, none⟩)] w fun e w' => e = .returned (.tuple #[.int .i64 (hd A (gs_ r.gens A) : Nat), .bool true]) ∧ NowR R base v1 v2 v3 (rPut (rBack r) A) w w' := by
  obtain ⟨i0, hi, hz0, hz1, hz2⟩ := info_parts info3
  obtain ⟨c0, c1, c2, c3, cf⟩ := hR.cells
  have hgl := hf.gl
  have hnl := hf.nl
  have hbl := hf.bl
  have hAl : A < r.gens.length := by rw [← hA]; exact hf.bk m (by omega)
  have hgk := hf.gk _ hAl
  obtain ⟨g3, k3, rfl, _, hl3, hc3, hk3⟩ := row_open hR.b (by omega)
  rw [h0] at c2 hk3
  obtain ⟨e0, _⟩ := hc3 m (by omega)
  rw [hA] at e0
  have cf2 := cf 2
  have hRl := hR.lt
  have HR := hide hR
  have HC3 : Hid (∀ k, k < r.back.length → w.cell? ⟨g3, k, none⟩ = some (.int .i64 ((gs_ r.back k : Nat) : Int))) := fun k hk => (hc3 k hk).1
  have hm0 : IntKind.i64.wrap ((m : Int) + 1 - 1) = (m : Int) := by rw [wrapB (by omega)]; omega
  have hm1 : (m : Int) + 1 - 1 = (m : Int) := by omega
  have hm2 : IntKind.i64.wrap (m : Int) = (m : Int) := wrapB (by omega)
  have hi3 : (m : Int) < (m : Int) + 1 := by omega
  have hi0 : (0 : Int) ≤ (m : Int) := by omega
  have hmk : (m : Int) ≤ (k3 : Int) := by omega
  clear hR hc3 cf
  go_enter Try.func33, Try.ntmps33
  go_wp2_with fail
  go_quiet (fail)
  go_wp2_with fail
  have hB0 := below_drewN w nq
  have hz0' := hB0.size
  generalize w.drewN nq = W0 at *
  have hR0 := HR.out.below hB0
  obtain ⟨d0, d1, d2, d3, df⟩ := hR0.cells
  rw [h0] at d2
  have df2 := df 2
  have hRl0 := hR0.lt
  have hbs0 : base ≤ W0.heap.size := by omega
  have HR0 := hide hR0
  have hl30 : g3 < W0.heap.size := by omega
  have HC0 : Hid (∀ k, k < r.back.length → W0.cell? ⟨g3, k, none⟩ = some (.int .i64 ((gs_ r.back k : Nat) : Int))) := fun k hk => (hB0.cell (p := ⟨g3, k, none⟩) hl3).trans (HC3.out k hk)
  have hbk : rBack r = { r with back := r.back.take m } := by unfold rBack; rw [h0]; rfl
  have htl : (r.back.take m).length = m := by rw [List.length_take, h0]; omega
  have HBK := hide hbk
  have HTL := hide htl
  clear c0 c1 c2 c3 e0 HC3 hR0 df hbk htl cf2 hl3
  go_cut [4] (fun s4 wx => s4 = .int .i64 (A : Int) ∧ ∃ ad' cap', AtR wx R base v1 v2 (.slice ad' m cap') (rBack r) ∧ Mov (Mine R v1 v2 (.slice (some ⟨g3, 0, none⟩) r.back.length k3)) W0 wx ∧ ∀ k, (Value.slice ad' m cap').ownBlock = some k → W0.heap.size ≤ k)
  case first =>
    go_region_law
      ((refine step_copy_any _ (by rfl) _ _ _ (by rfl) base 3 i0 (.int .i64 0) 1 8 Try.underlying30 hi hz0 hz1 hz2 rfl (by omega) (.slice (some ⟨W0.heap.size, 0, none⟩) 0 0) (by rfl) (by exact (World.ownsRow_lit W0 #[] 0 hbs0 (by unfold maxLen; omega) rfl).drew) ⟨g3, 0, none⟩ m k3 (cI (r.back.take m)) (by rfl) (by rw [cI_len, HTL.out]; omega) (by refine news_row (l := r.back) (fun k hk => ?_) m (by omega); exact (((Below.refl W0.heap.size W0).alloc (Nat.le_refl _) _).drew.cell (p := ⟨g3, k, none⟩) hl30).trans (HC0.out k hk)) (ones_row _) (by unfold maxLen; omega) (by omega) (by simp; omega) ?_; intro ad' cap' w5 hown5 hgrow5 hat5; have hB5 : Below W0.heap.size W0 w5 := below_new ((Below.refl W0.heap.size W0).alloc (Nat.le_refl _) _).drew hgrow5; obtain ⟨_, _, yc, _, yff⟩ := (HR0.out.below hB5).cells; have yf := yff 2; clear yff))
    all_goals
      go_wp2_with fail
      go_meet
      have hnew : ∀ k, (Value.slice ad' m cap').ownBlock = some k → W0.heap.size ≤ k := fun k hk => by
        rcases hat5 with h | h
        · rw [h] at hk
          exact Nat.le_of_eq (Option.some.inj (show some W0.heap.size = some k from hk))
        · rw [h] at hk
          have := Option.some.inj hk
          simp at this
          omega
      have hset := HR0.out.setBack (bs := r.back.take m) hB5 (by rw [HTL.out]; exact hown5) hnew
      rw [← HBK.out] at hset
      exact ⟨rfl, ad', cap', hset, (Mov.of_below hB5).set (p := ⟨R, 2, none⟩) (Or.inl rfl) _, hnew⟩
  case rest =>
    clear d0 d1 d2 d3 df2
    obtain ⟨rfl, ad', cap', hR1, hM, hnew⟩ := hcut
    have hlg : (rBack r).gens.length = r.gens.length := rfl
    have hln : (rBack r).now.length = r.now.length := rfl
    obtain ⟨c0, c1, c2, c3, cf⟩ := hR1.cells
    obtain ⟨g1, k1, rfl, _, hl1, hc1, _⟩ := row_open hR1.g (by omega)
    obtain ⟨g2, k2, rfl, _, hl2, hc2, _⟩ := row_open hR1.n (by omega)
    obtain ⟨e1, _⟩ := hc1 A hAl
    obtain ⟨e2, e3⟩ := hc2 A (by omega)
    have n1 : g1 ≠ R := fun e => hR1.boxfar hR1.g (by rw [e]; rfl)
    have n2 : g2 ≠ R := fun e => hR1.boxfar hR1.n (by rw [e]; rfl)
    have n3 : g1 ≠ g2 := fun e => hR1.gn g1 rfl (by rw [e]; rfl)
    have HR1 := hide hR1
    have HD : Hid (((hd A (gs_ r.gens A) : Nat) : Int) = 1 + (A : Int) + 16 * ((gs_ r.gens A : Nat) : Int)) := by show _ = _; unfold hd; omega
    have e1' : wc.cell? ⟨g1, A, none⟩ = some (.int .i64 ((gs_ r.gens A : Nat) : Int)) := e1
    have hi1 : (A : Int) < (r.gens.length : Int) := by omega
    have hi2 : (A : Int) < (r.now.length : Int) := by omega
    have hi4 : (0 : Int) ≤ (A : Int) := by omega
    have hi5 : ¬ (A : Int) < 0 := by omega
    clear hR1 hc1 hc2 cf e1 hnl HC0 HR0
    generalize hX : gs_ r.gens A = X at *
    have HX := hide hX
    clear hX
    go_wp2_with fail
    go_region
    go_wp2
    go_ret2
    have e := AtR.setNow (r := rBack r) HR1.out A (hd A X)
    rw [HD.out] at e
    refine ⟨by rw [HX.out, HD.out]; rfl, _, ?_, ?_, fun k hk => Or.inl (Nat.le_trans hz0' (hnew k hk))⟩
    · have e' := e.below (Below.refl _ _).drew
      unfold rPut
      rw [show gs_ (rBack r).gens A = X from HX.out]
      exact e'
    · have := hM.set (p := ⟨g2, A, none⟩) (Or.inr (Or.inr (Or.inl rfl))) (.int .i64 (1 + (A : Int) + 16 * (X : Int)))
      exact ⟨this.os.trans hB0.os, this.tape.trans hB0.tape, this.output.trans hB0.output, Nat.le_trans hz0' this.size, fun j hj hS => (this.block j (by omega) hS).trans (hB0.block j hj)⟩

end Go.Proofs.Ytngaecfainhjcaa.A
