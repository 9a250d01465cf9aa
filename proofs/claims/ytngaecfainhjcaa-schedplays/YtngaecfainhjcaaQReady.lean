/-
  What the document's Ready, Yield and Exit of tasks come to.
-/
import Derived.Test.YtngaecfainhjcaaQSpawn
import Derived.Test.YtngaecfainhjcaaQFun
namespace Go.Proofs.Ytngaecfainhjcaa
open Go.RowKit A

set_option maxHeartbeats 4000000 in
theorem rready_any (Q R base : Nat) (v1 v2 v3 u : Value) (r : Rf) (s : Sc) (hsim : Sim s.a r) (hl' : s.run.length ≤ 100) (t : Int) (W2 : World) (hb2 : base ≤ W2.heap.size) (hQ : AtQ W2 Q R base v1 v2 v3 u r s.run) :
    Calls Try.prog 21 #[.pointer (some ⟨Q, 0, none⟩), .int .i64 t] W2 fun e w' => e = .returned (.bool (readyB s t)) ∧ NowQ Q R base v1 v2 v3 u r (readyOf s t).run W2 w' := by
  obtain ⟨i3, hi, hz0, hz1, hz2⟩ := info_parts info3
  have Pl := refPlace_any R base v1 v2 v3 r t (by rw [hsim.nl]; exact hsim.n16) W2 hQ.ar
  rw [← hsim.place t] at Pl
  have no : ∀ {b : Bool}, readyB s t = b → b = false → readyOf s t = s := fun h hb => by unfold readyOf; rw [h, hb]; rfl
  have HIn : Hid (inB s.run t = true → readyB s t = false ∧ (readyOf s t).run = s.run) := fun h => by
    have e : readyB s t = false := by unfold readyB; rw [h]; simp
    exact ⟨e, by rw [no e rfl]⟩
  have HNo : Hid (isB s.a t = false → readyB s t = false ∧ (readyOf s t).run = s.run) := fun h => by
    have e : readyB s t = false := by unfold readyB; rw [h]; simp
    exact ⟨e, by rw [no e rfl]⟩
  have HYes : Hid (isB s.a t = true → inB s.run t = false → readyB s t = true ∧ (readyOf s t).run = s.run ++ [t.toNat]) := fun h h2 => by
    have e : readyB s t = true := by unfold readyB; rw [h, h2]; rfl
    exact ⟨e, by unfold readyOf; rw [e]; rfl⟩
  have HPl := hide Pl
  obtain ⟨c0, c1, df⟩ := hQ.cells
  have df1 := df 1
  have HQ := hide hQ
  have hQl := hQ.ltQ
  generalize s.run = l at *
  obtain ⟨av, ac, hv⟩ := owns_slice hQ.ro
  have hOb := hQ.ro
  subst hv
  clear Pl hQ no df hsim
  go_enter Try.func21, Try.ntmps21
  go_wp2
  go_loop [5] (fun i => ∃ k : Nat, k ≤ l.length ∧ i = .int .i64 k ∧ ∀ j, j < k → ((gs_ l j : Nat) : Int) ≠ t) (fun i => l.length - (intOf i).toNat)
  case atStart => exact ⟨0, Nat.zero_le _, rfl, fun j hj => by omega⟩
  case round =>
    obtain ⟨k, hk, rfl, hne⟩ := hrel
    have HNe := hide hne
    clear hne
    by_cases hlt : k < l.length
    · obtain ⟨g, c, hv, _, hgl, hcell, _⟩ := row_open hOb (by omega)
      simp only [Value.slice.injEq, true_and] at hv
      obtain ⟨rfl, rfl⟩ := hv
      obtain ⟨e1, _⟩ := hcell k hlt
      clear hcell
      have hi1 : (k : Int) < (l.length : Int) := by omega
      have hi0 : (0 : Int) ≤ (k : Int) := by omega
      have hm := gs_mem hlt
      generalize hX : gs_ l k = X at *
      have HX := hide hX
      clear hX
      by_cases hx : (X : Int) = t
      · have hx' : ((X : Int) == t) = true := by simp [hx]
        obtain ⟨f1, f2⟩ := HIn.out (inB_true.2 ⟨X, hm, hx⟩)
        have HF1 := hide f1
        have HF2 := hide f2
        clear hx hm f1 f2
        go_wp2
        go_ret
        refine ⟨?_, ?_⟩
        · rw [HF1.out]; rfl
        · rw [HF2.out]; exact NowQ.same HQ.out (Below.refl _ _)
      · have hx' : ((X : Int) == t) = false := by simp [hx]
        have HNx : Hid ((X : Int) ≠ t) := hx
        clear hx hm
        go_wp2
        go_round
        case rel =>
          refine ⟨k + 1, by omega, by go_num, fun j hj => ?_⟩
          by_cases e : j = k
          · subst e; rw [HX.out]; exact HNx.out
          · exact HNe.out j (by omega)
        case measure => simp [intOf]; omega
    · have hkl : k = l.length := by omega
      have hin : inB l t = false := inB_false.2 fun x hx e => by
        obtain ⟨j, h1, h2, _⟩ := in_at (inB_true.2 ⟨x, hx, e⟩)
        exact HNe.out j (by omega) h2
      have HI : Hid (inB l t = false) := hin
      clear hin HIn HNe
      cases hp : isB s.a t
      · obtain ⟨f1, f2⟩ := HNo.out hp
        have HF1 := hide f1
        have HF2 := hide f2
        rw [place_lt hp] at HPl
        clear f1 f2 HNo HYes hp
        go_wp2_with fail
        refine HPl.out.mono ?_
        rintro e w2 ⟨rfl, hw2⟩
        subst hw2
        go_wp2
        go_ret
        refine ⟨?_, ?_⟩
        · rw [HF1.out]; rfl
        · rw [HF2.out]; exact NowQ.same HQ.out (Below.refl _ _)
      · obtain ⟨f1, f2⟩ := HYes.out hp HI.out
        have h0 : 1 ≤ t := (isB_hits.1 hp).1
        rw [place_nat hp] at HPl
        have hk0 : ¬ ((kOf t : Nat) : Int) < 0 := by omega
        generalize kOf t = kk at *
        obtain ⟨X, hX⟩ : ∃ X : Nat, X = t.toNat := ⟨_, rfl⟩
        have hX' : t = (X : Int) := by omega
        rw [← hX] at f2
        have HF1 := hide f1
        have HF2 := hide f2
        clear f1 f2 HNo HYes hp hX h0 HI
        subst hX'
        go_wp2_with fail
        refine HPl.out.mono ?_
        rintro e w3 ⟨rfl, hw3⟩
        subst hw3
        have hlit : (w3.alloc (.cells #[] 3)).ownsRow base 3 1 (.slice (some ⟨w3.heap.size, 0, none⟩) 0 0) 0 [] := World.ownsRow_lit w3 #[] 0 hb2 (by unfold maxLen; omega) rfl
        have hOb := HQ.out.ro
        rcases hOb.2 with ⟨hv0, hb0⟩ | ⟨g3, k3, cur, hv0, _, hh3, hk3, _⟩
        · simp only [Value.slice.injEq] at hv0
          obtain ⟨rfl, _, rfl⟩ := hv0
          have hnil : l = [] := List.length_eq_zero_iff.1 hb0
          go_wp2_with (at_builtin; refine wpList_append_own_at _ rfl _ _ 30 rfl base 3 i3 (.int .i64 0) 1 8 Try.underlying30 hi hz0 hz1 hz2 rfl (by decide) (.slice (some ⟨w3.heap.size, 0, none⟩) 0 0) 0 [] rfl (hlit.alloc _) ⟨w3.heap.size + 1, 0, none⟩ 1 1 [.int .i64 (X : Int)] rfl rfl (newsI (by simp [go_sem])) (onesI _) (by unfold maxLen; omega) (by omega) (by simp; omega) ?_)
          intro v6 w6 hown6 hgrow6 _ hat6
          have hB6 : Below w3.heap.size w3 w6 := Below.grown (((Below.refl w3.heap.size w3).alloc (Nat.le_refl _) _).alloc (by simp) _) hgrow6 (by simp; omega) (fun k hk => Nat.le_of_eq (Option.some.inj hk))
          obtain ⟨a6, c6, rfl⟩ := owns_slice hown6
          obtain ⟨_, yc, yff⟩ := (HQ.out.below hB6).cells
          have yf := yff 1
          have hnew : ∀ k, (Value.slice a6 1 c6).ownBlock = some k → w3.heap.size ≤ k := fun k hk => by
            rcases hat6 with q | q
            · rw [q] at hk; exact Nat.le_of_eq (Option.some.inj (show some w3.heap.size = some k from hk))
            · rw [q] at hk
              have := Option.some.inj hk
              omega
          have hset := HQ.out.setRun (l' := l ++ [X]) hB6 (by rw [hnil]; exact hown6) hnew
          have HSet := hide hset
          clear hset yff hown6 hgrow6
          go_wp2
          go_ret
          refine ⟨?_, ?_⟩
          · rw [HF1.out]; rfl
          · rw [HF2.out]; exact HSet.out
        · simp only [Value.slice.injEq, true_and] at hv0
          obtain ⟨rfl, rfl⟩ := hv0
          have hl3 : g3 < w3.heap.size := (Array.getElem?_eq_some_iff.1 hh3).1
          have hcs : ∀ k, k < l.length → (w3.alloc (.cells #[] 3)).cell? ⟨g3, k, none⟩ = some (.int .i64 ((gs_ l k : Nat) : Int)) := fun k hk => by
            have h5 := hOb.cellAt k (by omega)
            rw [(((Below.refl w3.heap.size w3).alloc (Nat.le_refl _) _).cell (p := ⟨g3, k, none⟩) hl3), h5]
            simp [cI, gs_, hk]
          have HCS := hide hcs
          clear hcs
          go_wp2_with (at_builtin; refine wpList_append_own_at _ rfl _ _ 30 rfl base 3 i3 (.int .i64 0) 1 8 Try.underlying30 hi hz0 hz1 hz2 rfl (by decide) (.slice (some ⟨w3.heap.size, 0, none⟩) 0 0) 0 [] rfl hlit ⟨g3, 0, none⟩ l.length ac (cI l) rfl (by rw [cI_len]; omega) (news_all HCS.out) (ones_row _) (by unfold maxLen; omega) (by omega) (by simp; omega) ?_)
          intro v5 w5 hown5 hgrow5 _ hat5
          have h5 : ∀ k, v5.ownBlock = some k → w3.heap.size ≤ k := fun k hk => by
            rcases hat5 with q | q
            · rw [q] at hk; exact Nat.le_of_eq (Option.some.inj (show some w3.heap.size = some k from hk))
            · rw [q] at hk
              have := Option.some.inj hk
              omega
          have hz5 := hgrow5.size
          simp at hz5
          obtain ⟨a5, c5, rfl⟩ := owns_slice hown5
          go_wp2_with (at_builtin; refine wpList_append_own_at _ rfl _ _ 30 rfl base 3 i3 (.int .i64 0) 1 8 Try.underlying30 hi hz0 hz1 hz2 rfl (by decide) _ _ _ rfl (hown5.alloc _) ⟨w5.heap.size, 0, none⟩ 1 1 [.int .i64 (X : Int)] rfl rfl (newsI (by simp [go_sem])) (onesI _) (by unfold maxLen; omega) (by omega) (by simp; omega) ?_)
          intro v6 w6 hown6 hgrow6 _ hat6
          have hB6 := twoNew ((Below.refl w3.heap.size w3).alloc (Nat.le_refl _) _) hgrow5 h5 ((Below.refl _ _).alloc (Nat.le_refl _) _) hgrow6
          obtain ⟨a6, c6, rfl⟩ := owns_slice hown6
          obtain ⟨_, yc, yff⟩ := (HQ.out.below hB6).cells
          have yf := yff 1
          have hnew : ∀ k, (Value.slice a6 (l.length + 1) c6).ownBlock = some k → w3.heap.size ≤ k := fun k hk => by
            rcases hat6 with q | q
            · rw [q] at hk; exact h5 k hk
            · rw [q] at hk
              have := Option.some.inj hk
              skip
              omega
          have hset := HQ.out.setRun (l' := l ++ [X]) hB6 (by rw [cI_snoc, List.length_append]; exact hown6) hnew
          have HSet := hide hset
          clear hset yff hown6 hgrow6
          go_wp2
          go_ret
          refine ⟨?_, ?_⟩
          · rw [HF1.out]; rfl
          · rw [HF2.out]; exact HSet.out

theorem ryield_any (Q R base K : Nat) (v1 v2 v3 u : Value) (r : Rf) (s : Sc) (hsim : Sim s.a r) (hs : Okc K s) (t : Int) (w : World) (hbs : base ≤ w.heap.size) (hQ : AtQ w Q R base v1 v2 v3 u r s.run) :
    Calls Try.prog 17 #[.pointer (some ⟨Q, 0, none⟩), .int .i64 t] w fun e w' => e = .returned (.bool (inB s.run t)) ∧ NowQ Q R base v1 v2 v3 u r (yieldOf s t).run w w' := by
  have h8 := hs.len8
  have Bk := rblock_any Q R base v1 v2 v3 u r s.run (by omega) t w hbs hQ
  have HB := hide Bk
  cases hb : inB s.run t
  · rw [hb] at HB
    rw [yield_no hb]
    rw [rm_none hb] at HB
    clear Bk hb
    go_enter Try.func17, Try.ntmps17
    go_wp2_with fail
    refine HB.out.mono ?_
    rintro e w2 ⟨rfl, hN⟩
    have HN := hide hN
    clear hN
    go_wp2
    go_ret
    refine ⟨rfl, ?_⟩
    exact HN.out
  · have hh : isB s.a t = true := by
      obtain ⟨n, hn, e⟩ := inB_true.1 hb
      exact isB_hits.2 (e ▸ hs.live n hn)
    have e3 : readyB (blockOf s t) t = true := by
      show (isB s.a t && !inB (rmOf s.run t) t) = true
      rw [hh, in_rm]; rfl
    have e2 : (yieldOf s t).run = (readyOf (blockOf s t) t).run := by
      unfold yieldOf readyOf
      rw [hb, e3]
      rfl
    have Rd := fun v3' u' (W : World) (h : AtQ W Q R base v1 v2 v3' u' r (rmOf s.run t)) (hb : base ≤ W.heap.size) => rready_any Q R base v1 v2 v3' u' r (blockOf s t) hsim (by have := rm_len s.run t; show (rmOf s.run t).length ≤ 100; omega) t W hb h
    rw [e3] at Rd
    rw [e2]
    rw [hb] at HB
    have HR := hide Rd
    clear Rd Bk hb e2 e3 hh
    go_enter Try.func17, Try.ntmps17
    go_wp2_with fail
    refine HB.out.mono ?_
    rintro e w2 ⟨rfl, v3', u', hQ1, hM1, hV1⟩
    have HQ1 := hide hQ1
    have HM1 := hide hM1
    have HV1 := hide hV1
    have hz : base ≤ w2.heap.size := Nat.le_trans hbs hM1.size
    clear hQ1 hM1 hV1
    go_wp2_with fail
    refine (HR.out _ _ _ HQ1.out hz).mono ?_
    rintro e w3 ⟨rfl, hN3⟩
    have HN3 := hide hN3
    clear hN3
    go_wp2
    go_ret
    refine ⟨rfl, ?_⟩
    exact NowQ.next HM1.out HV1.out HN3.out

theorem rexit_any (Q R base K : Nat) (v1 v2 v3 u : Value) (r : Rf) (s : Sc) (hsim : Sim s.a r) (hs : Okc K s) (hK : K ≤ 1000) (hbk : r.back.length ≤ 1000) (t : Int) (w : World) (hbs : base ≤ w.heap.size) (hQ : AtQ w Q R base v1 v2 v3 u r s.run) :
    Calls Try.prog 15 #[.pointer (some ⟨Q, 0, none⟩), .int .i64 t] w fun e w' => e = .returned (.bool (isB s.a t)) ∧ ∃ r', Sim (exitOf s t).a r' ∧ r'.back.length ≤ r.back.length + 1 ∧ NowQ Q R base v1 v2 v3 u r' (exitOf s t).run w w' := by
  have h8 := hs.len8
  have HB := hide (rblock_any Q R base v1 v2 v3 u r s.run (by omega) t w hbs hQ)
  have HE : Hid ((exitOf s t).a = freeOf s.a t ∧ (exitOf s t).run = rmOf s.run t) := by
    show _ ∧ _
    cases hb : isB s.a t
    · have hin : inB s.run t = false := inB_false.2 fun n hn e => by
        have := isB_hits.2 (hs.live n hn)
        rw [e, hb] at this
        cases this
      rw [exit_no hb, free_no hb, rm_none hin]
      exact ⟨rfl, rfl⟩
    · unfold exitOf; rw [hb]; exact ⟨rfl, rfl⟩
  have Fr := fun v3' u' (W : World) (h : AtQ W Q R base v1 v2 v3' u' r (rmOf s.run t)) (hb : base ≤ W.heap.size) => refFree_sim hsim hs.fit hK hbk h.ar hb t
  rw [HE.out.1, HE.out.2]
  have HF := hide Fr
  clear Fr hsim HE hQ
  generalize inB s.run t = bb at *
  go_enter Try.func15, Try.ntmps15
  go_wp2_with fail
  refine HB.out.mono ?_
  rintro e w2 ⟨rfl, v3', u', hQ1, hM1, hV1⟩
  have HQ1 := hide hQ1
  have HM1 := hide hM1
  have HV1 := hide hV1
  have hz : base ≤ w2.heap.size := Nat.le_trans hbs hM1.size
  obtain ⟨c0, _, _⟩ := HQ1.out.cells
  clear hQ1 hM1 hV1
  go_wp2_with fail
  refine (HF.out _ _ _ HQ1.out hz).mono ?_
  rintro e w3 ⟨rfl, r', hs', hb', hN⟩
  have HN := hide (HQ1.out.turn hN)
  have HS' := hide hs'
  clear hN hs'
  go_wp2
  go_ret
  refine ⟨rfl, ?_⟩
  exact ⟨r', HS'.out, hb', NowQ.next HM1.out HV1.out HN.out⟩

end Go.Proofs.Ytngaecfainhjcaa
