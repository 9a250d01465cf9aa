/-
  What the program's Yield and Exit come to.
-/
import Derived.Test.YtngaecfainhjcaaSReady
namespace Go.Proofs.Ytngaecfainhjcaa
open Go.RowKit A

theorem yield_no {s : Sc} {t : Int} (h : inB s.run t = false) : yieldOf s t = s := by unfold yieldOf; rw [h]; rfl
set_option maxHeartbeats 1000000 in
theorem yield_any (S B P base K : Nat) (v : Value) (s : Sc) (hK : K ≤ 1000000) (hs : Okc K s) (t : Int) (ht : t ≤ 9223372036854775807) (w : World) (hS : AtS w S B P base v s) (hbs : base ≤ w.heap.size) :
    Calls Try.prog 16 #[.pointer (some ⟨S, 0, none⟩), .int .i64 t] w fun e w' => e = .returned (.bool (inB s.run t)) ∧ NowS S B P base v (yieldOf s t) w w' := by
  have h8 := hs.len8
  have Bk := block_any S B P base v s (by omega) hs.nd t w hS
  have HB := hide Bk
  cases hb : inB s.run t
  · rw [hb] at HB
    rw [yield_no hb]
    have e1 : blockOf s t = s := by show (⟨s.a, rmOf s.run t⟩ : Sc) = s; rw [rm_none hb]
    rw [e1] at HB
    clear Bk hb e1
    go_enter Try.func16, Try.ntmps16
    go_wp2_with fail
    refine HB.out.mono ?_
    rintro e w2 ⟨rfl, hN⟩
    have HN := hide hN
    clear hN
    go_wp2
    go_ret
    refine ⟨rfl, ?_⟩
    exact HN.out
  · have e2 : yieldOf s t = readyOf (blockOf s t) t := by
      have hh : isB s.a t = true := by
        obtain ⟨n, hn, e⟩ := inB_true.1 hb
        exact isB_hits.2 (e ▸ hs.live n hn)
      have e3 : readyB (blockOf s t) t = true := by
        show (isB s.a t && !inB (rmOf s.run t) t) = true
        rw [hh, in_rm]; rfl
      unfold yieldOf readyOf
      rw [hb, e3]
      rfl
    have e3 : readyB (blockOf s t) t = true := by
      obtain ⟨n, hn, e⟩ := inB_true.1 hb
      show (isB s.a t && !inB (rmOf s.run t) t) = true
      rw [isB_hits.2 (e ▸ hs.live n hn), in_rm]; rfl
    have Rd := fun v1 (W : World) (h : AtS W S B P base v1 (blockOf s t)) (hb : base ≤ W.heap.size) => ready_any S B P base K v1 (blockOf s t) (by have := rm_len s.run t; show (rmOf s.run t).length ≤ 1000; omega) hK hs.fit t ht W h hb
    rw [e3] at Rd
    rw [e2]
    rw [hb] at HB
    have HR := hide Rd
    clear Rd Bk hb e2 e3
    go_enter Try.func16, Try.ntmps16
    go_wp2_with fail
    refine HB.out.mono ?_
    rintro e w2 ⟨rfl, hN⟩
    obtain ⟨v1, hS1, hM1, hv1⟩ := hN
    have HS1 := hide hS1
    have HM1 := hide hM1
    have HV1 := hide hv1
    have hz : base ≤ w2.heap.size := Nat.le_trans hbs hM1.size
    clear hS1 hM1 hv1
    go_wp2_with fail
    refine (HR.out v1 _ HS1.out hz).mono ?_
    rintro e w3 ⟨rfl, hN3⟩
    have HN3 := hide hN3
    clear hN3
    go_wp2
    go_ret
    refine ⟨rfl, ?_⟩
    exact NowS.next HM1.out HV1.out HN3.out

theorem exit_no {s : Sc} {t : Int} (h : isB s.a t = false) : exitOf s t = s := by unfold exitOf; rw [h]; rfl
theorem free_no {s : Ar} {t : Int} (h : isB s t = false) : freeOf s t = s := if_neg (isB_not.1 h)
set_option maxHeartbeats 1000000 in
theorem exit_any (S B P base K : Nat) (v : Value) (s : Sc) (hK : K ≤ 1000000) (hs : Okc K s) (t : Int) (ht : t ≤ 9223372036854775807) (w : World) (hS : AtS w S B P base v s) :
    Calls Try.prog 14 #[.pointer (some ⟨S, 0, none⟩), .int .i64 t] w fun e w' => e = .returned (.bool (isB s.a t)) ∧ NowS S B P base v (exitOf s t) w w' := by
  have h8 := hs.len8
  have Fr := free_any B P K s.a t ht hK w hs.fit hS.a
  have Bk := fun v1 (W : World) (h : AtS W S B P base v1 ⟨freeOf s.a t, s.run⟩) => block_any S B P base v1 ⟨freeOf s.a t, s.run⟩ (by show s.run.length ≤ 1000; omega) hs.nd t W h
  obtain ⟨c0, _, _⟩ := hS.cells
  have HS := hide hS
  clear hS
  cases hb : isB s.a t
  · rw [hb, free_no hb] at Fr
    rw [exit_no hb]
    have HF := hide Fr
    clear Fr Bk hb
    go_enter Try.func14, Try.ntmps14
    go_wp2_with fail
    refine HF.out.mono ?_
    rintro e w2 ⟨rfl, hN⟩
    have HN := hide hN
    clear hN
    go_wp2
    go_ret
    refine ⟨rfl, ?_⟩
    exact ⟨v, HS.out.turn HN.out.1 HN.out.2, mov_turn HN.out.2, fun _ hk => Or.inr hk⟩
  · have e2 : exitOf s t = blockOf ⟨freeOf s.a t, s.run⟩ t := by unfold exitOf; rw [hb]; rfl
    rw [e2]
    rw [hb] at Fr
    have HF := hide Fr
    have HB := hide Bk
    clear Fr Bk hb e2
    go_enter Try.func14, Try.ntmps14
    go_wp2_with fail
    refine HF.out.mono ?_
    rintro e w2 ⟨rfl, hN⟩
    have HS2 := hide (HS.out.turn hN.1 hN.2)
    have HM := hide (mov_turn (v := v) (S := S) hN.2)
    clear hN
    go_wp2_with fail
    refine (HB.out v _ HS2.out).mono ?_
    rintro e w3 ⟨rfl, hN3⟩
    have HN3 := hide hN3
    clear hN3
    go_wp2
    go_ret
    refine ⟨rfl, ?_⟩
    exact NowS.next HM.out (fun _ hk => Or.inr hk) HN3.out

/-- What New leaves: the box behind its arena, and a row of its own. -/
theorem newN_of {m : Int} (h : 0 ≤ m ∧ m ≤ 16) : newN m = m.toNat := by unfold newN; omega
set_option maxHeartbeats 1000000 in
theorem snew_any (q : Int) (w : World) :
    Calls Try.prog 8 #[.int .i64 q] w fun e w' => ∃ S B P v, e = .returned (.pointer (some ⟨S, 0, none⟩)) ∧ (w.heap.size ≤ S ∧ w.heap.size ≤ B ∧ w.heap.size ≤ P) ∧ AtS w' S B P w.heap.size v (newS q) ∧ Below w.heap.size w w' := by
  obtain ⟨M, hM⟩ : ∃ M : Int, M = max q 1 := ⟨_, rfl⟩
  obtain ⟨m, hm⟩ : ∃ m : Int, m = min M 8 := ⟨_, rfl⟩
  have hmx : ∀ (ats : Array TypeId) (ty : TypeId), Builtin.max_ ats ty #[.int .i64 q, .int .i64 1] = pure (.int .i64 M) := fun _ _ => by
    by_cases h : q < 1
    · simp [Builtin.max_, Builtin.max2, h, show M = 1 by omega]
    · simp [Builtin.max_, Builtin.max2, h, show M = q by omega]
  have hmn : ∀ (ats : Array TypeId) (ty : TypeId), Builtin.min_ ats ty #[.int .i64 M, .int .i64 8] = pure (.int .i64 m) := fun _ _ => by
    by_cases h : 8 < M
    · simp [Builtin.min_, Builtin.min2, h, show m = 8 by omega]
    · simp [Builtin.min_, Builtin.min2, h, show m = M by omega]
  have N := new_any m w
  have e0 : newN m = (min (max q 1) 8).toNat := by rw [newN_of (by omega)]; omega
  rw [e0] at N
  obtain ⟨s0, hs0⟩ : ∃ s0 : Sc, s0 = ⟨newOf (min (max q 1) 8).toNat, []⟩ := ⟨_, rfl⟩
  have es : newS q = spawnOf s0 := by rw [hs0]; rfl
  have ea : newOf (min (max q 1) 8).toNat = s0.a := by rw [hs0]
  have er : s0.run = [] := by rw [hs0]
  have hf : Fit 0 s0.a := by rw [hs0]; exact newOf_fit (by omega)
  rw [ea] at N
  rw [es]
  have Sp := fun S v (W : World) (h : AtS W S (w.heap.size + 1) w.heap.size w.heap.size v s0) (hb : w.heap.size ≤ W.heap.size) => spawn_any S _ _ w.heap.size 0 v s0 (by rw [er]; simp) (by omega) hf W h hb
  have HN := hide N
  have HP := hide Sp
  have HR := hide er
  clear N Sp hM hm e0 hs0 es ea hf er
  go_enter Try.func8, Try.ntmps8
  go_wp2_with fail
  refine HN.out.mono ?_
  rintro e w1 ⟨rfl, hA, hb⟩
  have hz := hb.size
  have hS : AtS (w1.alloc (.cells #[.pointer (some ⟨w.heap.size + 1, 0, none⟩), .slice none 0 0] 49)) w1.heap.size (w.heap.size + 1) w.heap.size w.heap.size (.slice none 0 0) s0 :=
    ⟨heap_alloc_new _ _, hA.below ((Below.refl _ _).alloc (Nat.le_refl _) _), by rw [HR.out]; exact ⟨rfl, .inl ⟨rfl, rfl⟩⟩⟩
  have HS := hide hS
  have HB := hide (hb.alloc hz (.cells #[.pointer (some ⟨w.heap.size + 1, 0, none⟩), .slice none 0 0] 49))
  have hz2 : w.heap.size ≤ (w1.alloc (.cells #[.pointer (some ⟨w.heap.size + 1, 0, none⟩), .slice none 0 0] 49)).heap.size := by simp; omega
  have HZ := hide hz2
  clear hS hA hb hz2
  go_wp2_with fail
  refine (HP.out _ _ _ HS.out HZ.out).mono ?_
  rintro e w2 ⟨rfl, hN⟩
  have hl := hN.low HS.out hz (by omega) (Nat.le_refl _) (Nat.le_refl _) HZ.out
  have hb2 := hide (HB.out.trans hl)
  obtain ⟨v', k1, _, _⟩ := hN
  have K1 := hide k1
  clear k1 hl
  go_wp2
  go_ret
  refine ⟨_, _, _, _, rfl, ⟨hz, Nat.le_succ _, Nat.le_refl _⟩, K1.out, hb2.out⟩

end Go.Proofs.Ytngaecfainhjcaa
