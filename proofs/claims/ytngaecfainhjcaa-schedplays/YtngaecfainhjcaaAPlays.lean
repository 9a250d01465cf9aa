/-
  The program's arena, the document's and the handles that were answered, side by side in memory; what each call makes of both.
-/
import Derived.Test.YtngaecfainhjcaaASim
namespace Go.Proofs.Ytngaecfainhjcaa.A
open Go.RowKit

theorem other_box {w : World} {B P R base : Nat} {s : Ar} {v1 v2 v3 : Value} {r : Rf} (hA : AtA w B P s) (hR : AtR w R base v1 v2 v3 r) : R ≠ B ∧ R ≠ P := by
  refine ⟨fun e => ?_, fun e => ?_⟩
  · subst e
    have := hA.box.symm.trans hR.box
    simp at this
  · subst e
    obtain ⟨cs, c1, _⟩ := hA.row
    have := c1.symm.trans hR.box
    simp at this
theorem AtA.mov {w w' : World} {B P R base : Nat} {s : Ar} {v1 v2 v3 : Value} {r : Rf} (hA : AtA w B P s) (hR : AtR w R base v1 v2 v3 r) (hM : Mov (Mine R v1 v2 v3) w w') : AtA w' B P s := by
  obtain ⟨n1, n2⟩ := other_box hA hR
  have g := own_other hA hR.g (by decide) (by decide)
  have n := own_other hA hR.n (by decide) (by decide)
  have b := own_other hA hR.b (by decide) (by decide)
  refine hA.same (hM.block _ hA.ltB ?_) (hM.block _ hA.ltP ?_)
  · rintro (h | h | h | h)
    · exact n1 h.symm
    · exact (g _ h).1 rfl
    · exact (n _ h).1 rfl
    · exact (b _ h).1 rfl
  · rintro (h | h | h | h)
    · exact n2 h.symm
    · exact (g _ h).2 rfl
    · exact (n _ h).2 rfl
    · exact (b _ h).2 rfl
theorem AtR.turn {w w' : World} {B P R base : Nat} {s : Ar} {v1 v2 v3 : Value} {r : Rf} (hR : AtR w R base v1 v2 v3 r) (hA : AtA w B P s) (ht : Turn B P w w') : AtR w' R base v1 v2 v3 r := by
  obtain ⟨n1, n2⟩ := other_box hA hR
  exact ⟨(ht.block R hR.lt n1 n2).trans hR.box, owns_turn hA hR.g (by decide) (by decide) ht, owns_turn hA hR.n (by decide) (by decide) ht, owns_turn hA hR.b (by decide) (by decide) ht, hR.gn, hR.gb, hR.nb⟩
theorem AtR.grown {w w' : World} {R base : Nat} {v1 v2 v3 gv : Value} {r : Rf} (hR : AtR w R base v1 v2 v3 r) (hd : ∀ j, gv.ownBlock = some j → ¬ Mine R v1 v2 v3 j) (hg : w.grownBy w' gv.ownBlock) : AtR w' R base v1 v2 v3 r :=
  ⟨(hg.block R hR.lt (fun e => hd R e.symm (Or.inl rfl))).trans hR.box,
    owns_far hR.g fun k hk => hg.block k (hR.g.lt k hk).2 (fun e => hd k e.symm (Or.inr (Or.inl hk))),
    owns_far hR.n fun k hk => hg.block k (hR.n.lt k hk).2 (fun e => hd k e.symm (Or.inr (Or.inr (Or.inl hk)))),
    owns_far hR.b fun k hk => hg.block k (hR.b.lt k hk).2 (fun e => hd k e.symm (Or.inr (Or.inr (Or.inr hk)))), hR.gn, hR.gb, hR.nb⟩
theorem AtR.mine_lt {w : World} {R base : Nat} {v1 v2 v3 : Value} {r : Rf} (hR : AtR w R base v1 v2 v3 r) {k : Nat} (h : Mine R v1 v2 v3 k) : k < w.heap.size := by
  rcases h with h | h | h | h
  · rw [h]; exact hR.lt
  · exact (hR.g.lt k h).2
  · exact (hR.n.lt k h).2
  · exact (hR.b.lt k h).2
theorem AtR.mine_ge {w : World} {R base : Nat} {v1 v2 v3 : Value} {r : Rf} (hR : AtR w R base v1 v2 v3 r) (hb : base ≤ R) {k : Nat} (h : Mine R v1 v2 v3 k) : base ≤ k := by
  rcases h with h | h | h | h
  · rw [h]; exact hb
  · exact (hR.g.lt k h).1
  · exact (hR.n.lt k h).1
  · exact (hR.b.lt k h).1

/-- Both arenas, and the handles that were answered. -/
structure PSt (w : World) (base B P R : Nat) (s : Ar) (r : Rf) (v1 v2 v3 gv : Value) (gs : List Nat) : Prop where
  a : AtA w B P s
  r : AtR w R base v1 v2 v3 r
  g : w.ownsRow base 3 1 gv gs.length (cI gs)
  d : ∀ j, gv.ownBlock = some j → ¬ Mine R v1 v2 v3 j

theorem PSt.below {w w' : World} {base B P R : Nat} {s : Ar} {r : Rf} {v1 v2 v3 gv : Value} {gs : List Nat} (h : PSt w base B P R s r v1 v2 v3 gv gs) (k : Below w.heap.size w w') : PSt w' base B P R s r v1 v2 v3 gv gs :=
  ⟨h.a.below k, h.r.below k, owns_below h.g k, h.d⟩
theorem PSt.nowA {w w' : World} {base B P R : Nat} {s s' : Ar} {r : Rf} {v1 v2 v3 gv : Value} {gs : List Nat} (h : PSt w base B P R s r v1 v2 v3 gv gs) (k : Now B P s' w w') : PSt w' base B P R s' r v1 v2 v3 gv gs :=
  ⟨k.1, h.r.turn h.a k.2, owns_turn h.a h.g (by decide) (by decide) k.2, h.d⟩
theorem PSt.nowR {w w' : World} {base B P R : Nat} {s : Ar} {r r' : Rf} {v1 v2 v3 gv : Value} {gs : List Nat} (h : PSt w base B P R s r v1 v2 v3 gv gs) (hb : base ≤ R) (k : NowR R base v1 v2 v3 r' w w') : (∃ v3', PSt w' base B P R s r' v1 v2 v3' gv gs) ∧ Below base w w' := by
  obtain ⟨v3', h1, h2, h3⟩ := k
  refine ⟨⟨v3', h.a.mov h.r h2, h1, owns_far h.g fun j hj => h2.block j (h.g.lt j hj).2 (h.d j hj), fun j hj hm => ?_⟩, h2.below ?_ (fun j hj => h.r.mine_ge hb hj)⟩
  · rcases hm with q | q | q | q
    · exact h.d j hj (Or.inl q)
    · exact h.d j hj (Or.inr (Or.inl q))
    · exact h.d j hj (Or.inr (Or.inr (Or.inl q)))
    · rcases h3 j q with q' | q'
      · have := (h.g.lt j hj).2; omega
      · exact h.d j hj (Or.inr (Or.inr (Or.inr q')))
  · have := h.r.lt; omega
theorem PSt.app {w w3 : World} {base B P R : Nat} {s : Ar} {r : Rf} {v1 v2 v3 gv v : Value} {gs : List Nat} {o : Obj} {H : Nat} (h : PSt w base B P R s r v1 v2 v3 gv gs) (hown : w3.ownsRow base 3 1 v (gs.length + 1) (cI gs ++ [.int .i64 (H : Int)])) (hg : (w.alloc o).grownBy w3 gv.ownBlock) (hat : v.ownBlock = gv.ownBlock ∨ v.ownBlock = some (w.alloc o).heap.size) : PSt w3 base B P R s r v1 v2 v3 v (gs ++ [H]) := by
  have h' : PSt (w.alloc o) base B P R s r v1 v2 v3 gv gs := h.below ((Below.refl _ _).alloc (Nat.le_refl _) _)
  refine ⟨h'.a.grown h'.g (by decide) (by decide) hg, h'.r.grown h'.d hg, ?_, fun j hj => ?_⟩
  · rw [cI_snoc, List.length_append]; exact hown
  · rcases hat with q | q
    · exact h.d j (by rw [← q]; exact hj)
    · intro hm
      rw [q] at hj
      have := Option.some.inj hj
      have := h'.r.mine_lt hm
      omega

theorem refNew_sim (most : Int) (w : World) : Calls Try.prog 31 #[.int .i64 most] w fun e w' => e = .returned (.pointer (some ⟨w.heap.size, 0, none⟩)) ∧ (∃ v1 v2, AtR w' w.heap.size w.heap.size v1 v2 (.slice none 0 0) (rf0 (newN most))) ∧ Below w.heap.size w w' := by
  by_cases h : 16 < most
  · exact refNew_body most 16 (newN most) (by unfold newN; omega) (fun k => by unfold newN; omega) w (Or.inl ⟨h, rfl⟩)
  · exact refNew_body most most (newN most) (by unfold newN; omega) (fun k => by unfold newN; omega) w (Or.inr ⟨h, rfl⟩)

/-- Take, of both. -/
theorem refTake_sim {w : World} {R base K : Nat} {v1 v2 v3 : Value} {s : Ar} {r : Rf} (hs : Sim s r) (hf : Fit K s) (hK : K ≤ 1000) (hb : r.back.length ≤ 1000) (hR : AtR w R base v1 v2 v3 r) :
    Calls Try.prog 33 #[.pointer (some ⟨R, 0, none⟩)] w fun e w' => e = .returned (.tuple #[.int .i64 (takeH s), .bool (takeB s)]) ∧ ∃ r', Sim (takeOf s) r' ∧ r'.back.length ≤ r.back.length ∧ NowR R base v1 v2 v3 r' w w' := by
  have hfr := hs.fitR hf hK hb
  rcases Nat.eq_zero_or_pos r.back.length with h0 | h0
  · rcases Nat.lt_or_ge r.fresh s.n with h1 | h1
    · obtain ⟨e1, e2, e3⟩ := hs.take_fresh h0 h1
      rw [e1, e2]
      exact (refTake_fresh R base v1 v2 v3 r w hR hfr h0 (by rw [hs.gl]; exact h1)).mono fun e w' ⟨q1, q2⟩ => ⟨q1, _, e3, Nat.le_refl _, q2⟩
    · have h1' : r.fresh = s.n := by have := hs.fr; omega
      obtain ⟨e1, e2, e3⟩ := hs.take_none h0 h1'
      rw [e1, e2, e3]
      exact (refTake_none R base v1 v2 v3 r w hR h0 (by rw [hs.gl]; exact h1')).mono fun e w' ⟨q1, q2⟩ => ⟨q1, r, hs, Nat.le_refl _, q2⟩
  · obtain ⟨m, hm⟩ : ∃ m, r.back.length = m + 1 := ⟨r.back.length - 1, by omega⟩
    obtain ⟨e1, e2, e3⟩ := hs.take_back hm
    rw [e1, e2]
    exact (refTake_back R base v1 v2 v3 r w hR hfr m _ hm rfl).mono fun e w' ⟨q1, q2⟩ => ⟨q1, _, e3, by show (r.back.take (r.back.length - 1)).length ≤ _; rw [List.length_take]; omega, q2⟩
/-- Free, of both. -/
theorem refFree_sim {w : World} {R base K : Nat} {v1 v2 v3 : Value} {s : Ar} {r : Rf} (hs : Sim s r) (hf : Fit K s) (hK : K ≤ 1000) (hb : r.back.length ≤ 1000) (hR : AtR w R base v1 v2 v3 r) (hbs : base ≤ w.heap.size) (h : Int) :
    Calls Try.prog 35 #[.pointer (some ⟨R, 0, none⟩), .int .i64 h] w fun e w' => e = .returned (.bool (isB s h)) ∧ ∃ r', Sim (freeOf s h) r' ∧ r'.back.length ≤ r.back.length + 1 ∧ NowR R base v1 v2 v3 r' w w' := by
  have h16 := hs.n16
  by_cases hh : hits s h
  · have hp := (hs.place h).symm.trans (place_hit hh)
    have e1 : isB s h = true := if_pos hh
    have e2 : freeOf s h = freeAt s (kOf h) := if_pos hh
    rw [e1, e2]
    have hk := hh.2.1
    refine (refFree_hit R base v1 v2 v3 r h (kOf h) (by rw [hs.gl]; exact h16) (by rw [hs.nl, hs.gl]) hb w hR hbs (by rw [hs.gl]; exact hk) (by rw [(hs.each _ hk).1]; exact Nat.le_trans (hf.backs _ hk) hK) hp).mono fun e w' ⟨q1, q2⟩ => ⟨q1, _, hs.free hk hh.2.2.1, ?_, q2⟩
    show (if gs_ r.gens (kOf h) + 1 ≤ 255 then r.back ++ [kOf h] else r.back).length ≤ _
    split
    · simp
    · omega
  · have hp := (hs.place h).symm.trans (place_miss hh)
    have e1 : isB s h = false := if_neg hh
    have e2 : freeOf s h = s := if_neg hh
    rw [e1, e2]
    exact (refFree_miss R base v1 v2 v3 r h (by rw [hs.nl]; exact h16) w hR hp).mono fun e w' ⟨q1, q2⟩ => ⟨q1, r, hs, by omega, v3, q2 ▸ hR, q2 ▸ Mov.refl _ _, fun k hk => Or.inr hk⟩

set_option maxHeartbeats 1000000 in
/-- Two rows that hold the same. -/
theorem ints_same (a1 a2 : Option Addr) (c1 c2 : Nat) (b1 b2 : Nat) (l : List Nat) (w : World) (hl : l.length ≤ 100) (h1 : w.ownsRow b1 3 1 (.slice a1 l.length c1) l.length (cI l)) (h2 : w.ownsRow b2 3 1 (.slice a2 l.length c2) l.length (cI l)) :
    Calls Try.prog 24 #[.slice a1 l.length c1, .slice a2 l.length c2] w fun e w' => e = .returned (.bool true) ∧ Below w.heap.size w w' := by
  have H1 := hide h1
  have H2 := hide h2
  clear h1 h2
  go_enter Try.func24, Try.ntmps24
  go_wp2
  go_loopw [5] (fun i wr => ∃ k : Nat, k ≤ l.length ∧ i = .int .i64 k ∧ Below w.heap.size w wr) (fun i _ => l.length - (intOf i).toNat)
  case atStart => exact ⟨0, Nat.zero_le _, rfl, Below.refl _ _⟩
  case round =>
    obtain ⟨k, hk, rfl, hnx⟩ := hrel
    by_cases hlt : k < l.length
    · obtain ⟨g1, d1, hv1, _, _, e1, _⟩ := row_open (owns_below H1.out hnx) (by omega)
      obtain ⟨g2, d2, hv2, _, _, e2, _⟩ := row_open (owns_below H2.out hnx) (by omega)
      simp only [Value.slice.injEq, true_and] at hv1 hv2
      obtain ⟨rfl, rfl⟩ := hv1
      obtain ⟨rfl, rfl⟩ := hv2
      obtain ⟨q1, _⟩ := e1 k hlt
      obtain ⟨q2, _⟩ := e2 k hlt
      have b1 : (k : Int) < (l.length : Int) := by omega
      have b0 : (0 : Int) ≤ (k : Int) := by omega
      clear e1 e2
      generalize gs_ l k = X at *
      go_wp2_with fail
      go_quiet (fail)
      go_wp2
      go_roundw
      case rel => exact ⟨k + 1, by omega, by go_num, hnx.trans ((below_drewN _ _).mono hnx.size)⟩
      case measure => simp [intOf]; omega
    · go_wp2
      go_ret
      exact ⟨rfl, hnx⟩

end Go.Proofs.Ytngaecfainhjcaa.A
