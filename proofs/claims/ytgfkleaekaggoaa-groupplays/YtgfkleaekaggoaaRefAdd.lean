/-
  What the document's Add comes to.
-/
import Derived.Test.YtgfkleaekaggoaaRef
namespace Go.Proofs.Ytgfkleaekaggoaa
open Go.RowKit

theorem RowZ.set {w : World} {a : Option Addr} {l : List Int} (h : RowZ w a l) {R j : Nat} (hR : ∀ o, a = some o → o.block ≠ R) (v : Value) : RowZ (w.setCell ⟨R, j, none⟩ v) a l := fun hn => by
  obtain ⟨g, off, h1, h2, h3⟩ := h hn
  have hg : g ≠ R := hR _ h1
  exact ⟨g, off, h1, by simpa using h2, fun k hk => (World.cell?_of_block (Below.heap_setCell _ _ _ _ (fun e => hg e))).trans (h3 k hk)⟩
/-- The numbers have turned, the row has not. -/
theorem NowR.turned {R base : Nat} {u : Value} {o2 c2 : Int} {l : List Int} {w w3 w4 : World} (h3 : Mov (Mine R u) w w3) (h : AtR w3 R base u o2 c2 l) (hb : Below w3.heap.size w3 w4) : NowR R base u o2 c2 l w w4 :=
  ⟨u, h.below hb, h3.thn (Mov.of_below (S := fun _ => False) hb) (fun _ h => h.elim), fun _ hk => Or.inr hk⟩

set_option maxHeartbeats 2000000 in
theorem refAdd_low (R base : Nat) (u : Value) (o c : Int) (l : List Int) (hc : 0 ≤ c ∧ c ≤ 1048576) (_ho : 0 ≤ o ∧ o ≤ 1152921504606846976) (n : Int) (hn : -9223372036854775808 ≤ n ∧ n ≤ 9223372036854775807) (hl : c + n < 0) (w : World) (hR : AtR w R base u o c l) :
    Calls Try.prog 14 #[.pointer (some ⟨R, 0, none⟩), .int .i64 n] w fun e w' => e = .returned (.tuple #[.slice none 0 0, .int .i64 11]) ∧ NowR R base u o c l w w' := by
  obtain ⟨c0, c1, c2, cf⟩ := hR.cells
  have HR := hide hR
  clear hR cf c2
  have e1 : IntKind.i64.wrap (o + c - o) = c := by rw [show o + c - o = c by omega]; exact wrapB (by omega)
  obtain ⟨I, hI⟩ : ∃ I, o + c = I := ⟨_, rfl⟩
  rw [hI] at c0 e1
  by_cases q : n < -1048576
  · go_enter Try.func14, Try.ntmps14
    go_wp2_with fail
    go_quiet (fail)
    have hbW : Below w.heap.size w (w.drewN nq) := below_drewN _ _
    generalize w.drewN nq = w3 at hbW ⊢
    have HB := hide hbW
    clear hbW c0 c1 e1 hI
    go_wp2
    go_ret2
    exact ⟨rfl, NowR.same HR.out HB.out⟩
  · have e2 : IntKind.i64.wrap (-n) = -n := wrapB (by omega)
    go_enter Try.func14, Try.ntmps14
    go_wp2_with fail
    go_quiet (fail)
    have hbW : Below w.heap.size w (w.drewN nq) := below_drewN _ _
    generalize w.drewN nq = w3 at hbW ⊢
    have HB := hide hbW
    clear hbW c0 c1 e1 hI
    go_wp2
    go_ret2
    exact ⟨rfl, NowR.same HR.out HB.out⟩

set_option maxHeartbeats 2000000 in
theorem refAdd_over (R base : Nat) (u : Value) (o c : Int) (l : List Int) (hc : 0 ≤ c ∧ c ≤ 1048576) (_ho : 0 ≤ o ∧ o ≤ 1152921504606846976) (n : Int) (hn : -9223372036854775808 ≤ n ∧ n ≤ 9223372036854775807) (hl : 1048576 < c + n) (w : World) (hR : AtR w R base u o c l) :
    Calls Try.prog 14 #[.pointer (some ⟨R, 0, none⟩), .int .i64 n] w fun e w' => e = .returned (.tuple #[.slice none 0 0, .int .i64 13]) ∧ NowR R base u o c l w w' := by
  obtain ⟨c0, c1, c2, cf⟩ := hR.cells
  have HR := hide hR
  clear hR cf c2
  have e1 : IntKind.i64.wrap (o + c - o) = c := by rw [show o + c - o = c by omega]; exact wrapB (by omega)
  obtain ⟨I, hI⟩ : ∃ I, o + c = I := ⟨_, rfl⟩
  rw [hI] at c0 e1
  by_cases q : n > 1048576
  · go_enter Try.func14, Try.ntmps14
    go_wp2_with fail
    go_quiet (fail)
    have hbW : Below w.heap.size w (w.drewN nq) := below_drewN _ _
    generalize w.drewN nq = w3 at hbW ⊢
    have HB := hide hbW
    clear hbW c0 c1 e1 hI
    go_wp2
    go_ret2
    exact ⟨rfl, NowR.same HR.out HB.out⟩
  · have e3 : IntKind.i64.wrap (c + n) = c + n := wrapB (by omega)
    go_enter Try.func14, Try.ntmps14
    go_wp2_with fail
    go_quiet (fail)
    have hbW : Below w.heap.size w (w.drewN nq) := below_drewN _ _
    generalize w.drewN nq = w3 at hbW ⊢
    have HB := hide hbW
    clear hbW c0 c1 e1 hI
    go_wp2
    go_ret2
    exact ⟨rfl, NowR.same HR.out HB.out⟩

set_option maxHeartbeats 2000000 in
theorem refAdd_in (R base : Nat) (u : Value) (o c : Int) (l : List Int) (hc : 0 ≤ c ∧ c ≤ 1048576) (ho : 0 ≤ o ∧ o ≤ 1152921504606846976) (n : Int) (hn : -9223372036854775808 ≤ n ∧ n ≤ 9223372036854775807) (hl : 0 < n) (hh : c + n ≤ 1048576) (w : World) (hR : AtR w R base u o c l) :
    Calls Try.prog 14 #[.pointer (some ⟨R, 0, none⟩), .int .i64 n] w fun e w' => e = .returned (.tuple #[.slice none 0 0, .int .i64 0]) ∧ NowR R base u o (c + n) l w w' := by
  obtain ⟨c0, c1, c2, cf⟩ := hR.cells
  have HR := hide hR
  clear hR cf c2
  have e1 : IntKind.i64.wrap (o + c - o) = c := by rw [show o + c - o = c by omega]; exact wrapB (by omega)
  obtain ⟨I, hI⟩ : ∃ I, o + c = I := ⟨_, rfl⟩
  rw [hI] at c0 e1
  have e3 : IntKind.i64.wrap (c + n) = c + n := wrapB (by omega)
  have e4 : IntKind.i64.wrap (I + n) = I + n := wrapB (by omega)
  go_enter Try.func14, Try.ntmps14
  go_wp2_with fail
  go_quiet (fail)
  have hbW : Below w.heap.size w (w.drewN nq) := below_drewN _ _
  generalize w.drewN nq = w3 at hbW ⊢
  have HB := hide hbW
  have HR3 := hide (HR.out.below hbW)
  obtain ⟨d0, d1, d2, df⟩ := HR3.out.cells
  have df0 := df 0
  have df1 := df 1
  rw [hI] at d0
  have hRl := HR3.out.lt
  clear hbW c0 c1 d2 df
  go_wp2_with fail
  have hA : AtR (w3.setCell ⟨R, 0, none⟩ (.int .i64 (I + n))) R base u o (c + n) l := HR3.out.setIn (by omega)
  have hM : Mov (Mine R u) w (w3.setCell ⟨R, 0, none⟩ (.int .i64 (I + n))) := (Mov.of_below HB.out).set (p := ⟨R, 0, none⟩) (Or.inl rfl) _
  generalize w3.setCell ⟨R, 0, none⟩ (.int .i64 (I + n)) = w4 at hA hM ⊢
  obtain ⟨c0, c1, _, _⟩ := hA.cells
  have HA := hide hA
  have HM := hide hM
  have gg : o < o + (c + n) := by omega
  clear hA hM HR3 HB d0 d1 df0 df1 e3 e4 e1
  generalize o + (c + n) = J at c0 gg
  go_quiet (fail)
  have hbW : Below w4.heap.size w4 (w4.drewN nq) := below_drewN _ _
  generalize w4.drewN nq = w5 at hbW ⊢
  have HB := hide hbW
  clear hbW c0 c1
  go_wp2
  go_ret2
  exact ⟨rfl, NowR.turned HM.out HA.out HB.out⟩

set_option maxHeartbeats 2000000 in
theorem refAdd_more (R base : Nat) (u : Value) (o c : Int) (l : List Int) (hc : 0 ≤ c ∧ c ≤ 1048576) (ho : 0 ≤ o ∧ o ≤ 1152921504606846976) (n : Int) (hn : -9223372036854775808 ≤ n ∧ n ≤ 9223372036854775807) (hl : n ≤ 0) (hh : 0 < c + n) (w : World) (hR : AtR w R base u o c l) :
    Calls Try.prog 14 #[.pointer (some ⟨R, 0, none⟩), .int .i64 n] w fun e w' => e = .returned (.tuple #[.slice none 0 0, .int .i64 0]) ∧ NowR R base u (o - n) (c + n) l w w' := by
  obtain ⟨c0, c1, c2, cf⟩ := hR.cells
  have HR := hide hR
  clear hR cf c2
  have e1 : IntKind.i64.wrap (o + c - o) = c := by rw [show o + c - o = c by omega]; exact wrapB (by omega)
  obtain ⟨I, hI⟩ : ∃ I, o + c = I := ⟨_, rfl⟩
  rw [hI] at c0 e1
  have e3 : IntKind.i64.wrap (c + n) = c + n := wrapB (by omega)
  have e2 : IntKind.i64.wrap (-n) = -n := wrapB (by omega)
  obtain ⟨P, hP⟩ : ∃ P, o - n = P := ⟨_, rfl⟩
  have e4 : IntKind.i64.wrap (o - n) = P := (wrapB (by omega)).trans hP
  rw [hP]
  by_cases hz : n < 0
  · go_enter Try.func14, Try.ntmps14
    go_wp2_with fail
    go_quiet (fail)
    have hbW : Below w.heap.size w (w.drewN nq) := below_drewN _ _
    generalize w.drewN nq = w3 at hbW ⊢
    have HB := hide hbW
    have HR3 := hide (HR.out.below hbW)
    obtain ⟨d0, d1, d2, df⟩ := HR3.out.cells
    have df0 := df 0
    have df1 := df 1
    rw [hI] at d0
    have hRl := HR3.out.lt
    clear hbW c0 c1 d2 df
    go_wp2_with fail
    have hA : AtR (w3.setCell ⟨R, 1, none⟩ (.int .i64 P)) R base u P (c + n) l := HR3.out.setOut (by omega)
    have hM : Mov (Mine R u) w (w3.setCell ⟨R, 1, none⟩ (.int .i64 P)) := (Mov.of_below HB.out).set (p := ⟨R, 1, none⟩) (Or.inl rfl) _
    generalize w3.setCell ⟨R, 1, none⟩ (.int .i64 P) = w4 at hA hM ⊢
    obtain ⟨c0, c1, _, _⟩ := hA.cells
    have HA := hide hA
    have HM := hide hM
    have gg : P < P + (c + n) := by omega
    clear hA hM HR3 HB d0 d1 df0 df1 e3 e4 e1
    generalize P + (c + n) = J at c0 gg
    go_quiet (fail)
    have hbW : Below w4.heap.size w4 (w4.drewN nq) := below_drewN _ _
    generalize w4.drewN nq = w5 at hbW ⊢
    have HB := hide hbW
    clear hbW c0 c1
    go_wp2
    go_ret2
    exact ⟨rfl, NowR.turned HM.out HA.out HB.out⟩
  · go_enter Try.func14, Try.ntmps14
    go_wp2_with fail
    go_quiet (fail)
    have hbW : Below w.heap.size w (w.drewN nq) := below_drewN _ _
    generalize w.drewN nq = w3 at hbW ⊢
    have HB := hide hbW
    have HR3 := hide (HR.out.below hbW)
    obtain ⟨d0, d1, d2, df⟩ := HR3.out.cells
    have df0 := df 0
    have df1 := df 1
    rw [hI] at d0
    have hRl := HR3.out.lt
    clear hbW c0 c1 d2 df
    go_wp2_with fail
    have hA : AtR (w3.setCell ⟨R, 1, none⟩ (.int .i64 P)) R base u P (c + n) l := HR3.out.setOut (by omega)
    have hM : Mov (Mine R u) w (w3.setCell ⟨R, 1, none⟩ (.int .i64 P)) := (Mov.of_below HB.out).set (p := ⟨R, 1, none⟩) (Or.inl rfl) _
    generalize w3.setCell ⟨R, 1, none⟩ (.int .i64 P) = w4 at hA hM ⊢
    obtain ⟨c0, c1, _, _⟩ := hA.cells
    have HA := hide hA
    have HM := hide hM
    have gg : P < P + (c + n) := by omega
    clear hA hM HR3 HB d0 d1 df0 df1 e3 e4 e1
    generalize P + (c + n) = J at c0 gg
    go_quiet (fail)
    have hbW : Below w4.heap.size w4 (w4.drewN nq) := below_drewN _ _
    generalize w4.drewN nq = w5 at hbW ⊢
    have HB := hide hbW
    clear hbW c0 c1
    go_wp2
    go_ret2
    exact ⟨rfl, NowR.turned HM.out HA.out HB.out⟩

set_option maxHeartbeats 2000000 in
theorem refAdd_zero (R base : Nat) (u : Value) (o c : Int) (l : List Int) (hc : 0 ≤ c ∧ c ≤ 1048576) (ho : 0 ≤ o ∧ o ≤ 1152921504606846976) (n : Int) (_hn : -9223372036854775808 ≤ n ∧ n ≤ 9223372036854775807) (_hl : n ≤ 0) (hh : c + n = 0) (w : World) (hR : AtR w R base u o c l) :
    Calls Try.prog 14 #[.pointer (some ⟨R, 0, none⟩), .int .i64 n] w fun e w' => (∃ a k, e = .returned (.tuple #[.slice a l.length k, .int .i64 0]) ∧ RowZ w' a l) ∧ NowR R base u (o - n) 0 [] w w' := by
  obtain ⟨c0, c1, c2, cf⟩ := hR.cells
  have HR := hide hR
  clear hR cf c2
  have e1 : IntKind.i64.wrap (o + c - o) = c := by rw [show o + c - o = c by omega]; exact wrapB (by omega)
  obtain ⟨I, hI⟩ : ∃ I, o + c = I := ⟨_, rfl⟩
  rw [hI] at c0 e1
  have e3 : IntKind.i64.wrap (c + n) = c + n := wrapB (by omega)
  have e2 : IntKind.i64.wrap (-n) = -n := wrapB (by omega)
  obtain ⟨P, hP⟩ : ∃ P, o - n = P := ⟨_, rfl⟩
  have e4 : IntKind.i64.wrap (o - n) = P := (wrapB (by omega)).trans hP
  rw [hP]
  by_cases hz : n < 0
  · go_enter Try.func14, Try.ntmps14
    go_wp2_with fail
    go_quiet (fail)
    have hbW : Below w.heap.size w (w.drewN nq) := below_drewN _ _
    generalize w.drewN nq = w3 at hbW ⊢
    have HB := hide hbW
    have HR3 := hide (HR.out.below hbW)
    obtain ⟨d0, d1, d2, df⟩ := HR3.out.cells
    have df0 := df 0
    have df1 := df 1
    rw [hI] at d0
    have hRl := HR3.out.lt
    clear hbW c0 c1 d2 df
    go_wp2_with fail
    have hA : AtR (w3.setCell ⟨R, 1, none⟩ (.int .i64 P)) R base u P (c + n) l := HR3.out.setOut (by omega)
    have hM : Mov (Mine R u) w (w3.setCell ⟨R, 1, none⟩ (.int .i64 P)) := (Mov.of_below HB.out).set (p := ⟨R, 1, none⟩) (Or.inl rfl) _
    generalize w3.setCell ⟨R, 1, none⟩ (.int .i64 P) = w4 at hA hM ⊢
    obtain ⟨c0, c1, _, _⟩ := hA.cells
    have HA := hide hA
    have HM := hide hM
    have gg : ¬ P < P + (c + n) := by omega
    obtain ⟨av, ac, hv⟩ := owns_slice HA.out.row
    subst hv
    have HN : Hid (∀ w5, Below w4.heap.size w4 w5 → RowZ (w5.setCell ⟨R, 2, none⟩ (.slice none 0 0)) av l ∧ NowR R base (.slice av l.length ac) P 0 [] w (w5.setCell ⟨R, 2, none⟩ (.slice none 0 0))) := hide fun w5 hb => by
      have h5 := HA.out.below hb
      have hf := h5.far
      refine ⟨RowZ.set (owns_rowZ h5.row) (fun p hp e => hf (by rw [hp, ← e]; rfl)) _, .slice none 0 0, ?_, (HM.out.thn (Mov.of_below (S := fun _ => False) hb) (fun _ h => h.elim)).set (p := ⟨R, 2, none⟩) (Or.inl rfl) _, fun k hk => by simp [Value.ownBlock] at hk⟩
      have := h5.setRow (u' := .slice none 0 0) (l2 := []) (World.ownsRow_nil _ _ _ _)
      rw [hh] at this
      exact this
    clear hA hM HR3 HB d0 d1 df0 df1 e3 e4 e1
    generalize P + (c + n) = J at c0 gg
    generalize hL : l.length = L at *
    have HL := hide hL
    clear hL
    go_quiet (fail)
    have hbW : Below w4.heap.size w4 (w4.drewN nq) := below_drewN _ _
    generalize w4.drewN nq = w5 at hbW ⊢
    have HN5 := hide (HN.out _ hbW)
    obtain ⟨c0, c1, c2, cf⟩ := (HA.out.below hbW).cells
    have cf2 := cf 2
    have hRl := (HA.out.below hbW).lt
    clear hbW cf HN HM HA c0 c1
    go_wp2
    go_ret2
    refine ⟨⟨av, ⟨ac, ?_⟩, HN5.out.1⟩, ?_⟩
    · rw [HL.out]; rfl
    · rw [HL.out]; exact HN5.out.2
  · go_enter Try.func14, Try.ntmps14
    go_wp2_with fail
    go_quiet (fail)
    have hbW : Below w.heap.size w (w.drewN nq) := below_drewN _ _
    generalize w.drewN nq = w3 at hbW ⊢
    have HB := hide hbW
    have HR3 := hide (HR.out.below hbW)
    obtain ⟨d0, d1, d2, df⟩ := HR3.out.cells
    have df0 := df 0
    have df1 := df 1
    rw [hI] at d0
    have hRl := HR3.out.lt
    clear hbW c0 c1 d2 df
    go_wp2_with fail
    have hA : AtR (w3.setCell ⟨R, 1, none⟩ (.int .i64 P)) R base u P (c + n) l := HR3.out.setOut (by omega)
    have hM : Mov (Mine R u) w (w3.setCell ⟨R, 1, none⟩ (.int .i64 P)) := (Mov.of_below HB.out).set (p := ⟨R, 1, none⟩) (Or.inl rfl) _
    generalize w3.setCell ⟨R, 1, none⟩ (.int .i64 P) = w4 at hA hM ⊢
    obtain ⟨c0, c1, _, _⟩ := hA.cells
    have HA := hide hA
    have HM := hide hM
    have gg : ¬ P < P + (c + n) := by omega
    obtain ⟨av, ac, hv⟩ := owns_slice HA.out.row
    subst hv
    have HN : Hid (∀ w5, Below w4.heap.size w4 w5 → RowZ (w5.setCell ⟨R, 2, none⟩ (.slice none 0 0)) av l ∧ NowR R base (.slice av l.length ac) P 0 [] w (w5.setCell ⟨R, 2, none⟩ (.slice none 0 0))) := hide fun w5 hb => by
      have h5 := HA.out.below hb
      have hf := h5.far
      refine ⟨RowZ.set (owns_rowZ h5.row) (fun p hp e => hf (by rw [hp, ← e]; rfl)) _, .slice none 0 0, ?_, (HM.out.thn (Mov.of_below (S := fun _ => False) hb) (fun _ h => h.elim)).set (p := ⟨R, 2, none⟩) (Or.inl rfl) _, fun k hk => by simp [Value.ownBlock] at hk⟩
      have := h5.setRow (u' := .slice none 0 0) (l2 := []) (World.ownsRow_nil _ _ _ _)
      rw [hh] at this
      exact this
    clear hA hM HR3 HB d0 d1 df0 df1 e3 e4 e1
    generalize P + (c + n) = J at c0 gg
    generalize hL : l.length = L at *
    have HL := hide hL
    clear hL
    go_quiet (fail)
    have hbW : Below w4.heap.size w4 (w4.drewN nq) := below_drewN _ _
    generalize w4.drewN nq = w5 at hbW ⊢
    have HN5 := hide (HN.out _ hbW)
    obtain ⟨c0, c1, c2, cf⟩ := (HA.out.below hbW).cells
    have cf2 := cf 2
    have hRl := (HA.out.below hbW).lt
    clear hbW cf HN HM HA c0 c1
    go_wp2
    go_ret2
    refine ⟨⟨av, ⟨ac, ?_⟩, HN5.out.1⟩, ?_⟩
    · rw [HL.out]; rfl
    · rw [HL.out]; exact HN5.out.2

theorem none_z (w : World) : RowZ w none [] := fun h => absurd rfl h
theorem refAdd_any (R base : Nat) (u : Value) (o c : Int) (l : List Int) (hc : 0 ≤ c ∧ c ≤ 1048576) (ho : 0 ≤ o ∧ o ≤ 1152921504606846976) (n : Int) (hn : -9223372036854775808 ≤ n ∧ n ≤ 9223372036854775807) (w : World) (hR : AtR w R base u o c l) :
    Calls Try.prog 14 #[.pointer (some ⟨R, 0, none⟩), .int .i64 n] w fun e w' => (∃ a k, e = .returned (.tuple #[.slice a (addW c n l).length k, .int .i64 (addE c n)]) ∧ RowZ w' a (addW c n l)) ∧ NowR R base u (addO c o n) (addC c n) (addL c n l) w w' := by
  by_cases q1 : c + n < 0
  · obtain ⟨e1, e2, e3, e4, e5⟩ := add_low (l := l) q1
    rw [e1, e2, e3, e4, e5]
    exact (refAdd_low R base u o c l hc ho n hn q1 w hR).mono fun e w' k => ⟨⟨_, _, k.1, none_z _⟩, k.2⟩
  by_cases q2 : 1048576 < c + n
  · obtain ⟨e1, e2, e3, e4, e5⟩ := add_over (l := l) q2
    rw [e1, e2, e3, e4, e5]
    exact (refAdd_over R base u o c l hc ho n hn q2 w hR).mono fun e w' k => ⟨⟨_, _, k.1, none_z _⟩, k.2⟩
  obtain ⟨e1, e2, e5⟩ := add_fit (c := c) (n := n) (by omega) (by omega)
  rw [e1, e2, e5]
  by_cases q3 : c + n = 0
  · obtain ⟨e3, e4⟩ := add_zero (l := l) q3
    rw [e3, e4, if_neg (by omega), q3]
    exact refAdd_zero R base u o c l hc ho n hn (by omega) q3 w hR
  · obtain ⟨e3, e4⟩ := add_some (l := l) q3
    rw [e3, e4]
    by_cases q4 : 0 < n
    · rw [if_pos q4]
      exact (refAdd_in R base u o c l hc ho n hn q4 (by omega) w hR).mono fun e w' k => ⟨⟨_, _, k.1, none_z _⟩, k.2⟩
    · rw [if_neg q4]
      exact (refAdd_more R base u o c l hc ho n hn (by omega) (by omega) w hR).mono fun e w' k => ⟨⟨_, _, k.1, none_z _⟩, k.2⟩

end Go.Proofs.Ytgfkleaekaggoaa
