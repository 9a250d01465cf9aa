/-
  What the document's New of tasks comes to; both side by side.
-/
import Derived.Test.YtngaecfainhjcaaQReady
namespace Go.Proofs.Ytngaecfainhjcaa
open Go.RowKit A

set_option maxHeartbeats 2000000 in
theorem rnew_any (q : Int) (w : World) :
    Calls Try.prog 9 #[.int .i64 q] w fun e w' => ∃ Q R v1 v2 v3 u r, e = .returned (.pointer (some ⟨Q, 0, none⟩)) ∧ (w.heap.size ≤ Q ∧ w.heap.size ≤ R) ∧ AtQ w' Q R w.heap.size v1 v2 v3 u r (newS q).run ∧ Sim (newS q).a r ∧ r.back.length = 0 ∧ Below w.heap.size w w' := by
  obtain ⟨m, hm⟩ : ∃ m : Nat, m = (min (max q 1) 8).toNat := ⟨_, rfl⟩
  have hm8 : m ≤ 8 := by omega
  obtain ⟨s0, hs0⟩ : ∃ s0 : Sc, s0 = ⟨newOf m, []⟩ := ⟨_, rfl⟩
  have es : newS q = spawnOf s0 := by rw [hs0, hm]; rfl
  have ea : s0.a = newOf m := by rw [hs0]
  have er : s0.run = [] := by rw [hs0]
  have esp : (spawnOf s0).a = takeOf s0.a := by
    unfold spawnOf
    cases hb : takeB s0.a
    · show s0.a = _; rw [(take_no _ hb).2]
    · rfl
  rw [es, esp]
  have N := fun (x : Int) (hx : newN x = m) => by have := refNew_sim x w; rw [hx] at this; exact this
  have Sp := fun Q R v1 v2 v3 u (W : World) (h : AtQ W Q R w.heap.size v1 v2 v3 u (rf0 m) s0.run) (hb : w.heap.size ≤ W.heap.size) =>
    rspawn_any Q R w.heap.size 0 v1 v2 v3 u (rf0 m) s0 (by rw [ea]; exact sim_new (by omega)) (by rw [ea]; exact newOf_fit (by omega)) (by omega) (by simp [rf0]) (by rw [er]; simp) W hb h
  have HN := hide N
  have HSp := hide Sp
  have HR := hide er
  have HM : Hid ((q < 1 ∧ m = 1) ∨ (¬ q < 1 ∧ 8 < q ∧ m = 8) ∨ (¬ q < 1 ∧ ¬ 8 < q ∧ q = (m : Int))) := by show _ ∨ _ ∨ _; omega
  clear N Sp hm hs0 es ea er esp
  have fin : ∀ w1 : World, AtR w1 w.heap.size w.heap.size (.slice none 0 0) (.slice none 0 0) (.slice none 0 0) (rf0 m) → True := fun _ _ => trivial
  clear fin
  rcases HM.out with ⟨h1, h2⟩ | ⟨h1, h2, h3⟩ | ⟨h1, h2, h3⟩
  · have HX := hide (HN.out 1 (by unfold newN; omega))
    go_enter Try.func9, Try.ntmps9
    go_wp2_with fail
    refine HX.out.mono ?_
    rintro e w1 ⟨rfl, ⟨v1, v2, hR⟩, hb⟩
    have hz := hb.size
    have hA : Below w1.heap.size w1 (w1.alloc (.cells #[.pointer (some ⟨w.heap.size, 0, none⟩), .slice none 0 0] 33)) := (Below.refl _ _).alloc (Nat.le_refl _) _
    have hQ : AtQ (w1.alloc (.cells #[.pointer (some ⟨w.heap.size, 0, none⟩), .slice none 0 0] 33)) w1.heap.size w.heap.size w.heap.size v1 v2 (.slice none 0 0) (.slice none 0 0) (rf0 m) s0.run :=
      ⟨heap_alloc_new _ _, hR.below hA, by rw [HR.out]; exact ⟨rfl, .inl ⟨rfl, rfl⟩⟩, fun j hj => by simp [Value.ownBlock] at hj⟩
    have HQ := hide hQ
    have HB := hide (hb.alloc hz (.cells #[.pointer (some ⟨w.heap.size, 0, none⟩), .slice none 0 0] 33))
    have HZ : Hid (w.heap.size ≤ (w1.alloc (.cells #[.pointer (some ⟨w.heap.size, 0, none⟩), .slice none 0 0] 33)).heap.size) := HB.out.size
    clear hQ hR hb hA
    go_wp2_with fail
    refine (HSp.out _ _ _ _ _ _ _ HQ.out HZ.out).mono ?_
    rintro e w2 ⟨rfl, r', hs', hb', v3', u', k1, k2, k3⟩
    have hlow := k2.below HZ.out (fun k hk => HQ.out.mine_ge hz (Nat.le_refl _) hk)
    have HB2 := hide (HB.out.trans hlow)
    have K1 := hide k1
    have HS' := hide hs'
    have hbk : r'.back.length = 0 := by have : (rf0 m).back.length = 0 := by simp [rf0]
                                        omega
    clear k1 k2 k3 hlow hs' hb'
    go_wp2
    go_ret
    exact ⟨_, _, _, _, _, _, r', rfl, ⟨hz, Nat.le_refl _⟩, K1.out, HS'.out, hbk, HB2.out⟩
  · have HX := hide (HN.out 8 (by unfold newN; omega))
    go_enter Try.func9, Try.ntmps9
    go_wp2_with fail
    refine HX.out.mono ?_
    rintro e w1 ⟨rfl, ⟨v1, v2, hR⟩, hb⟩
    have hz := hb.size
    have hA : Below w1.heap.size w1 (w1.alloc (.cells #[.pointer (some ⟨w.heap.size, 0, none⟩), .slice none 0 0] 33)) := (Below.refl _ _).alloc (Nat.le_refl _) _
    have hQ : AtQ (w1.alloc (.cells #[.pointer (some ⟨w.heap.size, 0, none⟩), .slice none 0 0] 33)) w1.heap.size w.heap.size w.heap.size v1 v2 (.slice none 0 0) (.slice none 0 0) (rf0 m) s0.run :=
      ⟨heap_alloc_new _ _, hR.below hA, by rw [HR.out]; exact ⟨rfl, .inl ⟨rfl, rfl⟩⟩, fun j hj => by simp [Value.ownBlock] at hj⟩
    have HQ := hide hQ
    have HB := hide (hb.alloc hz (.cells #[.pointer (some ⟨w.heap.size, 0, none⟩), .slice none 0 0] 33))
    have HZ : Hid (w.heap.size ≤ (w1.alloc (.cells #[.pointer (some ⟨w.heap.size, 0, none⟩), .slice none 0 0] 33)).heap.size) := HB.out.size
    clear hQ hR hb hA
    go_wp2_with fail
    refine (HSp.out _ _ _ _ _ _ _ HQ.out HZ.out).mono ?_
    rintro e w2 ⟨rfl, r', hs', hb', v3', u', k1, k2, k3⟩
    have hlow := k2.below HZ.out (fun k hk => HQ.out.mine_ge hz (Nat.le_refl _) hk)
    have HB2 := hide (HB.out.trans hlow)
    have K1 := hide k1
    have HS' := hide hs'
    have hbk : r'.back.length = 0 := by have : (rf0 m).back.length = 0 := by simp [rf0]
                                        omega
    clear k1 k2 k3 hlow hs' hb'
    go_wp2
    go_ret
    exact ⟨_, _, _, _, _, _, r', rfl, ⟨hz, Nat.le_refl _⟩, K1.out, HS'.out, hbk, HB2.out⟩
  · have HX := hide (HN.out q (by unfold newN; omega))
    clear h3
    go_enter Try.func9, Try.ntmps9
    go_wp2_with fail
    refine HX.out.mono ?_
    rintro e w1 ⟨rfl, ⟨v1, v2, hR⟩, hb⟩
    have hz := hb.size
    have hA : Below w1.heap.size w1 (w1.alloc (.cells #[.pointer (some ⟨w.heap.size, 0, none⟩), .slice none 0 0] 33)) := (Below.refl _ _).alloc (Nat.le_refl _) _
    have hQ : AtQ (w1.alloc (.cells #[.pointer (some ⟨w.heap.size, 0, none⟩), .slice none 0 0] 33)) w1.heap.size w.heap.size w.heap.size v1 v2 (.slice none 0 0) (.slice none 0 0) (rf0 m) s0.run :=
      ⟨heap_alloc_new _ _, hR.below hA, by rw [HR.out]; exact ⟨rfl, .inl ⟨rfl, rfl⟩⟩, fun j hj => by simp [Value.ownBlock] at hj⟩
    have HQ := hide hQ
    have HB := hide (hb.alloc hz (.cells #[.pointer (some ⟨w.heap.size, 0, none⟩), .slice none 0 0] 33))
    have HZ : Hid (w.heap.size ≤ (w1.alloc (.cells #[.pointer (some ⟨w.heap.size, 0, none⟩), .slice none 0 0] 33)).heap.size) := HB.out.size
    clear hQ hR hb hA
    go_wp2_with fail
    refine (HSp.out _ _ _ _ _ _ _ HQ.out HZ.out).mono ?_
    rintro e w2 ⟨rfl, r', hs', hb', v3', u', k1, k2, k3⟩
    have hlow := k2.below HZ.out (fun k hk => HQ.out.mine_ge hz (Nat.le_refl _) hk)
    have HB2 := hide (HB.out.trans hlow)
    have K1 := hide k1
    have HS' := hide hs'
    have hbk : r'.back.length = 0 := by have : (rf0 m).back.length = 0 := by simp [rf0]
                                        omega
    clear k1 k2 k3 hlow hs' hb'
    go_wp2
    go_ret
    exact ⟨_, _, _, _, _, _, r', rfl, ⟨hz, Nat.le_refl _⟩, K1.out, HS'.out, hbk, HB2.out⟩

/-- Both, side by side. -/
structure PQ (w : World) (S B P base : Nat) (v : Value) (Q R base2 : Nat) (v1 v2 v3 u : Value) (s : Sc) (r : Rf) (l : List Nat) : Prop where
  s : AtS w S B P base v s
  q : AtQ w Q R base2 v1 v2 v3 u r l
  far : ∀ j, MineS S B P v j → ¬ MineQ Q R v1 v2 v3 u j
theorem AtS.keep {w w' : World} {S B P base : Nat} {v : Value} {s : Sc} (h : AtS w S B P base v s) (hk : ∀ k, MineS S B P v k → w'.heap[k]? = w.heap[k]?) : AtS w' S B P base v s :=
  ⟨(hk S (Or.inl rfl)).trans h.box, h.a.same (hk B (Or.inr (Or.inl rfl))) (hk P (Or.inr (Or.inr (Or.inl rfl)))), owns_far h.r fun k e => hk k (Or.inr (Or.inr (Or.inr e)))⟩
theorem PQ.below {w w' : World} {S B P base : Nat} {v : Value} {Q R base2 : Nat} {v1 v2 v3 u : Value} {s : Sc} {r : Rf} {l : List Nat} (h : PQ w S B P base v Q R base2 v1 v2 v3 u s r l) (k : Below w.heap.size w w') : PQ w' S B P base v Q R base2 v1 v2 v3 u s r l := ⟨h.s.below k, h.q.below k, h.far⟩
theorem PQ.nowS {w w' : World} {S B P base : Nat} {v : Value} {Q R base2 : Nat} {v1 v2 v3 u : Value} {s t : Sc} {r : Rf} {l : List Nat} (h : PQ w S B P base v Q R base2 v1 v2 v3 u s r l) (k : NowS S B P base v t w w') : ∃ v', PQ w' S B P base v' Q R base2 v1 v2 v3 u t r l := by
  obtain ⟨v', k1, k2, k3⟩ := k
  refine ⟨v', k1, h.q.keep fun j hj => k2.block j (h.q.mine_lt hj) (fun e => h.far j e hj), fun j hj hm => ?_⟩
  rcases hj with e | e | e | e
  · exact h.far j (Or.inl e) hm
  · exact h.far j (Or.inr (Or.inl e)) hm
  · exact h.far j (Or.inr (Or.inr (Or.inl e))) hm
  · rcases k3 j e with q | q
    · have := h.q.mine_lt hm; omega
    · exact h.far j (Or.inr (Or.inr (Or.inr q))) hm
theorem PQ.nowQ {w w' : World} {S B P base : Nat} {v : Value} {Q R base2 : Nat} {v1 v2 v3 u : Value} {s : Sc} {r r' : Rf} {l l' : List Nat} (h : PQ w S B P base v Q R base2 v1 v2 v3 u s r l) (k : NowQ Q R base2 v1 v2 v3 u r' l' w w') : ∃ v3' u', PQ w' S B P base v Q R base2 v1 v2 v3' u' s r' l' := by
  obtain ⟨v3', u', k1, k2, k3⟩ := k
  refine ⟨v3', u', h.s.keep fun j hj => k2.block j (h.s.mine_lt hj) (h.far j hj), k1, fun j hj hm => ?_⟩
  rcases k3 j hm with q | q
  · have := h.s.mine_lt hj; omega
  · exact h.far j hj q
theorem NowQ.low {w w' : World} {Q R base n : Nat} {v1 v2 v3 u : Value} {r r' : Rf} {l l' : List Nat} (h : NowQ Q R base v1 v2 v3 u r' l' w w') (ha : AtQ w Q R base v1 v2 v3 u r l) (hQ : base ≤ Q) (hR : base ≤ R) (hn : n ≤ base) (hb : n ≤ w.heap.size) : Below n w w' := by
  obtain ⟨_, _, _, h2, _⟩ := h
  exact h2.below hb fun k hk => Nat.le_trans hn (ha.mine_ge hQ hR hk)

end Go.Proofs.Ytngaecfainhjcaa
