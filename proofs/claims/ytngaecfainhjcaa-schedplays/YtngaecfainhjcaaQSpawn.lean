/-
  What the document's Spawn of tasks comes to.
-/
import Derived.Test.YtngaecfainhjcaaQMem
namespace Go.Proofs.Ytngaecfainhjcaa
open Go.RowKit A

/-- Two appends onto a new row: nothing that was there has turned. -/
theorem twoNew {W W1 w5 W3 w6 : World} {v5 : Value} (h1 : Below W.heap.size W W1) (hg1 : W1.grownBy w5 (some W.heap.size)) (h5 : ∀ k, v5.ownBlock = some k → W.heap.size ≤ k) (h3 : Below w5.heap.size w5 W3) (hg : W3.grownBy w6 v5.ownBlock) : Below W.heap.size W w6 := by
  have a : Below W.heap.size W w5 := h1.grown hg1 h1.size (fun k hk => Nat.le_of_eq (Option.some.inj hk))
  have b : Below W.heap.size W W3 := a.trans (h3.mono a.size)
  exact b.grown hg b.size (fun k hk => h5 k hk)

set_option maxHeartbeats 4000000 in
theorem rspawn_any (Q R base K : Nat) (v1 v2 v3 u : Value) (r : Rf) (s : Sc) (hsim : Sim s.a r) (hf : Fit K s.a) (hK : K ≤ 1000) (hbk : r.back.length ≤ 1000) (hl : s.run.length ≤ 100) (w : World) (hbs : base ≤ w.heap.size) (hQ : AtQ w Q R base v1 v2 v3 u r s.run) :
    Calls Try.prog 13 #[.pointer (some ⟨Q, 0, none⟩)] w fun e w' => e = .returned (.tuple #[.int .i64 (takeH s.a), .bool (takeB s.a)]) ∧ ∃ r', Sim (takeOf s.a) r' ∧ r'.back.length ≤ r.back.length ∧ NowQ Q R base v1 v2 v3 u r' (spawnOf s).run w w' := by
  obtain ⟨i3, hi, hz0, hz1, hz2⟩ := info_parts info3
  have T := refTake_sim (w := w) hsim hf hK hbk hQ.ar
  obtain ⟨c0, _, _⟩ := hQ.cells
  have HQ := hide hQ
  clear hQ hsim hf
  cases hb : takeB s.a
  · obtain ⟨e1, e2⟩ := take_no s.a hb
    rw [hb, e1] at T
    rw [spawn_no s hb, e1]
    have HT := hide T
    clear T hb e1 e2
    go_enter Try.func13, Try.ntmps13
    go_wp2_with fail
    refine HT.out.mono ?_
    rintro e w2 ⟨rfl, r', hs', hb', hN⟩
    have HN := hide hN
    have HS' := hide hs'
    clear hN hs'
    go_wp2
    go_ret2
    refine ⟨rfl, ?_⟩
    exact ⟨r', HS'.out, hb', HQ.out.turn HN.out⟩
  · have e3 : spawnOf s = ⟨takeOf s.a, s.run ++ [(takeH s.a).toNat]⟩ := by unfold spawnOf; rw [hb]; rfl
    rw [e3]
    rw [hb] at T
    obtain ⟨X, hX⟩ : ∃ X : Nat, X = (takeH s.a).toNat := ⟨_, rfl⟩
    have hX' : takeH s.a = (X : Int) := by rw [hX]; exact takeH_nat s.a
    rw [← hX, hX']
    rw [hX'] at T
    have HT := hide T
    clear T hb e3 hX hX'
    go_enter Try.func13, Try.ntmps13
    go_wp2_with fail
    refine HT.out.mono ?_
    rintro e W2 ⟨rfl, r', hs', hb', hN⟩
    have HS' := hide hs'
    obtain ⟨v3', u', hQ2, hM2, hV2⟩ := HQ.out.turn hN
    have HQ2 := hide hQ2
    have HM2 := hide hM2
    have HV2 := hide hV2
    have hb2 : base ≤ W2.heap.size := Nat.le_trans hbs hM2.size
    obtain ⟨_, d1, df⟩ := HQ2.out.cells
    have df1 := df 1
    have hQl := HQ2.out.ltQ
    clear hN hs' hQ2 hM2 hV2 df c0
    have hlit : (W2.alloc (.cells #[] 3)).ownsRow base 3 1 (.slice (some ⟨W2.heap.size, 0, none⟩) 0 0) 0 [] := World.ownsRow_lit W2 #[] 0 hb2 (by unfold maxLen; omega) rfl
    have hOb := HQ2.out.ro
    rcases hOb.2 with ⟨rfl, hb0⟩ | ⟨g3, k3, cur, rfl, _, hh3, hk3, _⟩
    · have hnil : s.run = [] := List.length_eq_zero_iff.1 hb0
      go_wp2_with (at_builtin; refine wpList_append_own_at _ rfl _ _ 30 rfl base 3 i3 (.int .i64 0) 1 8 Try.underlying30 hi hz0 hz1 hz2 rfl (by decide) (.slice (some ⟨W2.heap.size, 0, none⟩) 0 0) 0 [] rfl (hlit.alloc _) ⟨W2.heap.size + 1, 0, none⟩ 1 1 [.int .i64 (X : Int)] rfl rfl (newsI (by simp [go_sem])) (onesI _) (by unfold maxLen; omega) (by omega) (by simp; omega) ?_)
      intro v6 w6 hown6 hgrow6 _ hat6
      have hB6 : Below W2.heap.size W2 w6 := Below.grown (((Below.refl W2.heap.size W2).alloc (Nat.le_refl _) _).alloc (by simp) _) hgrow6 (by simp; omega) (fun k hk => Nat.le_of_eq (Option.some.inj hk))
      obtain ⟨a6, c6, rfl⟩ := owns_slice hown6
      obtain ⟨_, yc, yff⟩ := (HQ2.out.below hB6).cells
      have yf := yff 1
      have hnew : ∀ k, (Value.slice a6 1 c6).ownBlock = some k → W2.heap.size ≤ k := fun k hk => by
        rcases hat6 with q | q
        · rw [q] at hk; exact Nat.le_of_eq (Option.some.inj (show some W2.heap.size = some k from hk))
        · rw [q] at hk
          have := Option.some.inj hk
          omega
      have hset := HQ2.out.setRun (l' := s.run ++ [X]) hB6 (by rw [hnil]; exact hown6) hnew
      have HSet := hide hset
      clear hset yff hown6 hgrow6
      go_wp2
      go_ret2
      refine ⟨rfl, ?_⟩
      exact ⟨r', HS'.out, hb', NowQ.next HM2.out HV2.out HSet.out⟩
    · have hl3 : g3 < W2.heap.size := (Array.getElem?_eq_some_iff.1 hh3).1
      have hcs : ∀ k, k < s.run.length → (W2.alloc (.cells #[] 3)).cell? ⟨g3, k, none⟩ = some (.int .i64 ((gs_ s.run k : Nat) : Int)) := fun k hk => by
        have h5 := hOb.cellAt k (by omega)
        rw [(((Below.refl W2.heap.size W2).alloc (Nat.le_refl _) _).cell (p := ⟨g3, k, none⟩) hl3), h5]
        simp [cI, gs_, hk]
      have HCS := hide hcs
      clear hcs
      go_wp2_with (at_builtin; refine wpList_append_own_at _ rfl _ _ 30 rfl base 3 i3 (.int .i64 0) 1 8 Try.underlying30 hi hz0 hz1 hz2 rfl (by decide) (.slice (some ⟨W2.heap.size, 0, none⟩) 0 0) 0 [] rfl hlit ⟨g3, 0, none⟩ s.run.length k3 (cI s.run) rfl (by rw [cI_len]; omega) (news_all HCS.out) (ones_row _) (by unfold maxLen; omega) (by omega) (by simp; omega) ?_)
      intro v5 w5 hown5 hgrow5 _ hat5
      have h5 : ∀ k, v5.ownBlock = some k → W2.heap.size ≤ k := fun k hk => by
        rcases hat5 with q | q
        · rw [q] at hk; exact Nat.le_of_eq (Option.some.inj (show some W2.heap.size = some k from hk))
        · rw [q] at hk
          have := Option.some.inj hk
          omega
      have hz5 := hgrow5.size
      simp at hz5
      obtain ⟨a5, c5, rfl⟩ := owns_slice hown5
      go_wp2_with (at_builtin; refine wpList_append_own_at _ rfl _ _ 30 rfl base 3 i3 (.int .i64 0) 1 8 Try.underlying30 hi hz0 hz1 hz2 rfl (by decide) _ _ _ rfl (hown5.alloc _) ⟨w5.heap.size, 0, none⟩ 1 1 [.int .i64 (X : Int)] rfl rfl (newsI (by simp [go_sem])) (onesI _) (by unfold maxLen; omega) (by omega) (by simp; omega) ?_)
      intro v6 w6 hown6 hgrow6 _ hat6
      have hB6 := twoNew ((Below.refl W2.heap.size W2).alloc (Nat.le_refl _) _) hgrow5 h5 ((Below.refl _ _).alloc (Nat.le_refl _) _) hgrow6
      obtain ⟨a6, c6, rfl⟩ := owns_slice hown6
      obtain ⟨_, yc, yff⟩ := (HQ2.out.below hB6).cells
      have yf := yff 1
      have hnew : ∀ k, (Value.slice a6 (s.run.length + 1) c6).ownBlock = some k → W2.heap.size ≤ k := fun k hk => by
        rcases hat6 with q | q
        · rw [q] at hk; exact h5 k hk
        · rw [q] at hk
          have := Option.some.inj hk
          skip
          omega
      have hset := HQ2.out.setRun (l' := s.run ++ [X]) hB6 (by rw [cI_snoc, List.length_append]; exact hown6) hnew
      have HSet := hide hset
      clear hset yff hown6 hgrow6
      go_wp2
      go_ret2
      refine ⟨rfl, ?_⟩
      exact ⟨r', HS'.out, hb', NowQ.next HM2.out HV2.out HSet.out⟩

end Go.Proofs.Ytngaecfainhjcaa
