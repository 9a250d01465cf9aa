/-
  What the document's Free comes to.
-/
import Derived.Test.YtngaecfainhjcaaARefMem
import Derived.Maps.AppendAt
namespace Go.Proofs.Ytngaecfainhjcaa.A
open Go.RowKit

theorem seek_at (now : List Nat) (h : Int) : ∀ n i, seek now h n i = -1 ∨ ∃ k : Nat, seek now h n i = (k : Int) ∧ i ≤ k ∧ k < i + n ∧ 0 < h ∧ ((gs_ now k : Nat) : Int) = h
  | 0, _ => Or.inl rfl
  | n + 1, i => by
    simp only [seek]
    split
    · rename_i hh; exact Or.inr ⟨i, rfl, Nat.le_refl _, by omega, hh⟩
    · rcases seek_at now h n (i + 1) with e | ⟨k, e, h1, h2, h3⟩
      · exact Or.inl e
      · exact Or.inr ⟨k, e, by omega, by omega, h3⟩

/-- A place is given back. -/
def rFree (r : Rf) (k : Nat) : Rf :=
  { r with gens := r.gens.set k (gs_ r.gens k + 1), now := r.now.set k 0, back := if gs_ r.gens k + 1 ≤ 255 then r.back ++ [k] else r.back }

set_option maxHeartbeats 1000000 in
theorem refFree_miss (R base : Nat) (v1 v2 v3 : Value) (r : Rf) (h : Int) (hn : r.now.length ≤ 16) (w : World) (hR : AtR w R base v1 v2 v3 r) (hm : refPlace r h = -1) :
    Calls Try.prog 35 #[.pointer (some ⟨R, 0, none⟩), .int .i64 h] w fun e w' => e = .returned (.bool false) ∧ w' = w := by
  have hP := refPlace_any R base v1 v2 v3 r h hn w hR
  rw [hm] at hP
  have HP := hide hP
  clear hP hR
  go_enter Try.func35, Try.ntmps35
  go_wp2_with (go_at_call 28; refine HP.out.mono ?_; rintro e w2 ⟨rfl, hw2⟩; subst hw2)
  go_ret
  exact ⟨rfl, rfl⟩

theorem news_all {W : World} {g : Nat} {l : List Nat} (h : ∀ k, k < l.length → W.cell? ⟨g, k, none⟩ = some (.int .i64 ((gs_ l k : Nat) : Int))) : ∀ j u, (cI l)[j]? = some u → W.cell? ((⟨g, 0, none⟩ : Addr).add j) = some u := by
  have := news_row h l.length (Nat.le_refl _)
  rwa [List.take_length] at this
theorem news_int {W : World} {b : Nat} {v : Value} (h : W.cell? ⟨b, 0, none⟩ = some v) : ∀ j u, [v][j]? = some u → W.cell? ((⟨b, 0, none⟩ : Addr).add j) = some u := by
  intro j u hj
  match j, hj with
  | 0, hj => simp at hj; subst hj; simpa [Addr.add] using h
theorem ones_it (x : Int) : ∀ u ∈ [Value.int .i64 x], u.oneCell' = true := by
  intro u hu
  simp at hu
  subst hu
  rfl

/-- Two appends onto a new row: nothing that was there has turned. -/
theorem two_new {W W1 w5 W3 w6 : World} {v5 : Value} (h1 : Below W.heap.size W W1) (hg1 : W1.grownBy w5 (some W.heap.size)) (h5 : ∀ k, v5.ownBlock = some k → W.heap.size ≤ k) (h3 : Below w5.heap.size w5 W3) (hg : W3.grownBy w6 v5.ownBlock) : Below W.heap.size W w6 := by
  have a : Below W.heap.size W w5 := h1.grown hg1 h1.size (fun k hk => Nat.le_of_eq (Option.some.inj hk))
  have b : Below W.heap.size W W3 := a.trans (h3.mono a.size)
  exact b.grown hg b.size (fun k hk => h5 k hk)

set_option maxHeartbeats 4000000 in
theorem refFree_hit (R base : Nat) (v1 v2 v3 : Value) (r : Rf) (h : Int) (A : Nat) (hn : r.gens.length ≤ 16) (hnl : r.now.length = r.gens.length) (hbl : r.back.length ≤ 1000) (w : World) (hR : AtR w R base v1 v2 v3 r) (hbs : base ≤ w.heap.size) (hA : A < r.gens.length) (hgk : gs_ r.gens A ≤ 1000) (hm : refPlace r h = (A : Int)) :
    Calls Try.prog 35 #[.pointer (some ⟨R, 0, none⟩), .int .i64 h] w fun e w' => e = .returned (.bool true) ∧
      ∃ v3', AtR w' R base v1 v2 v3' (rFree r A) ∧ Mov (Mine R v1 v2 v3) w w' ∧ ∀ k, v3'.ownBlock = some k → w.heap.size ≤ k ∨ v3.ownBlock = some k := by
  obtain ⟨i0, hi, hz0, hz1, hz2⟩ := info_parts info3
  have hP := refPlace_any R base v1 v2 v3 r h (by omega) w hR
  rw [hm] at hP
  have HP := hide hP
  obtain ⟨c0, c1, c2, c3, cf⟩ := hR.cells
  obtain ⟨g1, k1, rfl, _, hl1, hc1, _⟩ := row_open hR.g (by omega)
  obtain ⟨g2, k2, rfl, _, hl2, hc2, _⟩ := row_open hR.n (by omega)
  obtain ⟨e1, f1⟩ := hc1 A hA
  obtain ⟨e2, f2⟩ := hc2 A (by omega)
  have n1 : g1 ≠ R := fun e => hR.boxfar hR.g (by rw [e]; rfl)
  have n2 : g2 ≠ R := fun e => hR.boxfar hR.n (by rw [e]; rfl)
  have n3 : g1 ≠ g2 := fun e => hR.gn g1 rfl (by rw [e]; rfl)
  have n4 : g2 ≠ g1 := Ne.symm n3
  obtain ⟨G, hG⟩ : ∃ G, G = gs_ r.gens A + 1 := ⟨_, rfl⟩
  have hwg : IntKind.i64.wrap (((gs_ r.gens A : Nat) : Int) + 1) = (G : Int) := by rw [wrapB (by omega)]; omega
  have hi1 : (A : Int) < (r.gens.length : Int) := by omega
  have hi2 : (A : Int) < (r.now.length : Int) := by omega
  have hi0 : (0 : Int) ≤ (A : Int) := by omega
  have hR2 : AtR ((w.setCell ⟨g2, A, none⟩ (.int .i64 0)).setCell ⟨g1, A, none⟩ (.int .i64 (G : Int))) R base (.slice (some ⟨g1, 0, none⟩) r.gens.length k1) (.slice (some ⟨g2, 0, none⟩) r.now.length k2) v3 { r with gens := r.gens.set A G, now := r.now.set A 0 } := AtR.setGens (r := { r with now := r.now.set A 0 }) (hR.setNow A 0) A G
  have hW2s : ((w.setCell ⟨g2, A, none⟩ (.int .i64 0)).setCell ⟨g1, A, none⟩ (.int .i64 (G : Int))).heap.size = w.heap.size := by simp
  have hM2 : Mov (Mine R (.slice (some ⟨g1, 0, none⟩) r.gens.length k1) (.slice (some ⟨g2, 0, none⟩) r.now.length k2) v3) w ((w.setCell ⟨g2, A, none⟩ (.int .i64 0)).setCell ⟨g1, A, none⟩ (.int .i64 (G : Int))) :=
    ((Mov.refl _ w).set (p := ⟨g2, A, none⟩) (Or.inr (Or.inr (Or.inl rfl))) _).set (p := ⟨g1, A, none⟩) (Or.inr (Or.inl rfl)) _
  have HG := hide hG
  have HWS := hide hW2s
  have HNL := hide hnl
  have HR2 := hide hR2
  clear hP hR hc1 hc2 cf hR2 hG hW2s hnl
  generalize hX : gs_ r.gens A = X at *
  have HX := hide hX
  clear hX
  go_enter Try.func35, Try.ntmps35
  go_wp2_with fail
  refine HP.out.mono ?_
  rintro e w2 ⟨rfl, hw2⟩
  subst hw2
  by_cases hG255 : G ≤ 255
  · have hG' : (G : Int) ≤ 255 := by omega
    go_upto_region 7 with fail
    clear c0 c1 c2 c3 e1 e2 f1 f2 HP hwg
    generalize (w2.setCell ⟨g2, A, none⟩ (.int .i64 0)).setCell ⟨g1, A, none⟩ (.int .i64 (G : Int)) = W2 at *
    obtain ⟨_, _, d2, _, df⟩ := HR2.out.cells
    have df2 := df 2
    have hRl := HR2.out.lt
    have hws1 : w2.heap.size ≤ W2.heap.size := Nat.le_of_eq HWS.out.symm
    have hb2 : base ≤ W2.heap.size := by omega
    have hOb : W2.ownsRow base 3 1 v3 r.back.length (cI r.back) := HR2.out.b
    have hlit : (W2.alloc (.cells #[] 3)).ownsRow base 3 1 (.slice (some ⟨W2.heap.size, 0, none⟩) 0 0) 0 [] := World.ownsRow_lit W2 #[] 0 hb2 (by unfold maxLen; omega) rfl
    rcases hOb.2 with ⟨rfl, hb0⟩ | ⟨g3, k3, cur, rfl, _, hh3, hk3, _⟩
    · have hnil : r.back = [] := List.length_eq_zero_iff.1 hb0
      go_wp2_with (at_builtin; refine wpList_append_own_at _ rfl _ _ 30 rfl base 3 i0 (.int .i64 0) 1 8 Try.underlying30 hi hz0 hz1 hz2 rfl (by decide) (.slice (some ⟨W2.heap.size, 0, none⟩) 0 0) 0 [] rfl (hlit.alloc _) ⟨W2.heap.size + 1, 0, none⟩ 1 1 [.int .i64 (A : Int)] rfl rfl (news_int (by simp [go_sem])) (ones_it _) (by unfold maxLen; omega) (by omega) (by simp; omega) ?_)
      intro v6 w6 hown6 hgrow6 _ hat6
      have hB6 : Below W2.heap.size W2 w6 := Below.grown (((Below.refl W2.heap.size W2).alloc (Nat.le_refl _) _).alloc (by simp) _) hgrow6 (by simp; omega) (fun k hk => Nat.le_of_eq (Option.some.inj hk))
      obtain ⟨a6, c6, rfl⟩ := owns_slice hown6
      obtain ⟨_, _, yc, _, yff⟩ := (HR2.out.below hB6).cells
      have yf := yff 2
      have hnew : ∀ k, (Value.slice a6 1 c6).ownBlock = some k → W2.heap.size ≤ k := fun k hk => by
        rcases hat6 with q | q
        · rw [q] at hk; exact Nat.le_of_eq (Option.some.inj (show some W2.heap.size = some k from hk))
        · rw [q] at hk
          have := Option.some.inj hk
          omega
      have hset := HR2.out.setBack (bs := r.back ++ [A]) hB6 (by rw [hnil]; exact hown6) hnew
      have HS := hide hset
      clear hset yff hown6 hgrow6
      go_wp2
      go_ret
      refine ⟨rfl, _, ?_, ?_, fun k hk => Or.inl (by have := hnew k hk; omega)⟩
      · unfold rFree
        rw [HX.out, ← HG.out, if_pos hG255]
        exact HS.out
      · exact (hM2.then_below hB6).set (p := ⟨R, 2, none⟩) (Or.inl rfl) _
    · have hl3 : g3 < W2.heap.size := (Array.getElem?_eq_some_iff.1 hh3).1
      have hcs : ∀ k, k < r.back.length → (W2.alloc (.cells #[] 3)).cell? ⟨g3, k, none⟩ = some (.int .i64 ((gs_ r.back k : Nat) : Int)) := fun k hk => by
        have h5 := hOb.cellAt k (by omega)
        rw [(((Below.refl W2.heap.size W2).alloc (Nat.le_refl _) _).cell (p := ⟨g3, k, none⟩) hl3), h5]
        simp [cI, gs_, hk]
      have HCS := hide hcs
      clear hcs
      go_wp2_with (at_builtin; refine wpList_append_own_at _ rfl _ _ 30 rfl base 3 i0 (.int .i64 0) 1 8 Try.underlying30 hi hz0 hz1 hz2 rfl (by decide) (.slice (some ⟨W2.heap.size, 0, none⟩) 0 0) 0 [] rfl hlit ⟨g3, 0, none⟩ r.back.length k3 (cI r.back) rfl (by rw [cI_len]; omega) (news_all HCS.out) (ones_row _) (by unfold maxLen; omega) (by omega) (by simp; omega) ?_)
      intro v5 w5 hown5 hgrow5 _ hat5
      have h5 : ∀ k, v5.ownBlock = some k → W2.heap.size ≤ k := fun k hk => by
        rcases hat5 with q | q
        · rw [q] at hk; exact Nat.le_of_eq (Option.some.inj (show some W2.heap.size = some k from hk))
        · rw [q] at hk
          have := Option.some.inj hk
          omega
      have hz5 := hgrow5.size
      simp at hz5
      obtain ⟨a5, c5, rfl⟩ := owns_slice hown5
      go_wp2_with (at_builtin; refine wpList_append_own_at _ rfl _ _ 30 rfl base 3 i0 (.int .i64 0) 1 8 Try.underlying30 hi hz0 hz1 hz2 rfl (by decide) _ _ _ rfl (hown5.alloc _) ⟨w5.heap.size, 0, none⟩ 1 1 [.int .i64 (A : Int)] rfl rfl (news_int (by simp [go_sem])) (ones_it _) (by unfold maxLen; omega) (by omega) (by simp; omega) ?_)
      intro v6 w6 hown6 hgrow6 _ hat6
      have hB6 := two_new ((Below.refl W2.heap.size W2).alloc (Nat.le_refl _) _) hgrow5 h5 ((Below.refl _ _).alloc (Nat.le_refl _) _) hgrow6
      obtain ⟨a6, c6, rfl⟩ := owns_slice hown6
      obtain ⟨_, _, yc, _, yff⟩ := (HR2.out.below hB6).cells
      have yf := yff 2
      have hnew : ∀ k, (Value.slice a6 (r.back.length + 1) c6).ownBlock = some k → W2.heap.size ≤ k := fun k hk => by
        rcases hat6 with q | q
        · rw [q] at hk; exact h5 k hk
        · rw [q] at hk
          have := Option.some.inj hk
          skip
          omega
      have hset := HR2.out.setBack (bs := r.back ++ [A]) hB6 (by rw [cI_snoc, List.length_append]; exact hown6) hnew
      have HS := hide hset
      clear hset yff hown6 hgrow6
      go_wp2
      go_ret
      refine ⟨rfl, _, ?_, ?_, fun k hk => Or.inl (by have := hnew k hk; omega)⟩
      · unfold rFree
        rw [HX.out, ← HG.out, if_pos hG255]
        exact HS.out
      · exact (hM2.then_below hB6).set (p := ⟨R, 2, none⟩) (Or.inl rfl) _
  · have hG' : ¬ (G : Int) ≤ 255 := by omega
    go_wp2
    go_ret
    refine ⟨rfl, v3, ?_, hM2, fun k hk => Or.inr hk⟩
    have e := HR2.out
    unfold rFree
    rw [HX.out, ← HG.out, if_neg hG255]
    exact e

end Go.Proofs.Ytngaecfainhjcaa.A
