/-
  What the law PumpOrder asks comes out true at any list of acts.
-/
import Derived.Test.YtkjiompjfolipaaAwake
import Derived.Test.YtkjiompjfolipaaMem
namespace Go.Proofs.Ytkjiompjfolipaa
open Go.RowKit

/-- The program's, and beside it a row of the law's own. -/
def SW (W0 : World) (M : Nat) (s : Ps) (B : Nat) (v : Value) (l : List Int) (w : World) : Prop :=
  M < B ∧ B ≤ w.heap.size ∧ Xs W0 M none0 s w ∧ w.ownsRow B 3 1 v l.length (cZ l)
section
variable {W0 w w' w5 : World} {M B : Nat} {s s2 : Ps} {v v' : Value} {l : List Int} {x : Int} {ob : Obj}
theorem Xs.sw (h : Xs W0 M none0 s w) : SW W0 M s w.heap.size (.slice (some ⟨w.heap.size, 0, none⟩) 0 0) [] (w.alloc (.cells #[] 3)) :=
  ⟨h.2.1.1.lt, by simp, h.below (below1 _ _), lit0 w⟩
theorem SW.low (h : SW W0 M s B v l w) : Below W0.heap.size W0 w := h.2.2.1.2.2
theorem SW.below (h : SW W0 M s B v l w) (k : Below w.heap.size w w') : SW W0 M s B v l w' := ⟨h.1, Nat.le_trans h.2.1 k.size, h.2.2.1.below k, owns_below h.2.2.2 k⟩
theorem SW.app (h : SW W0 M s B v l w) (hg : (w.alloc ob).grownBy w5 v.ownBlock) (ho : w5.ownsRow B 3 1 v' (l.length + 1) (cZ (l ++ [x]))) : SW W0 M s B v' (l ++ [x]) w5 := by
  obtain ⟨h0, h1, ⟨h2, ⟨h3, _⟩, h4⟩, h5⟩ := h
  have hm := grown_mov hg
  refine ⟨h0, Nat.le_trans h1 hm.size, ⟨h2, ⟨h3.keep (hm.block M h3.lt fun e => by have := (h5.lt M e).1; omega), fun _ q => q.elim⟩, ?_⟩, by simpa using ho⟩
  exact (h4.alloc h4.size ob).grown hg (by have := h4.size; simp; omega) (fun j hj => by have := (h5.lt j hj).1; omega)
/-- The row is none of the program's. -/
theorem SW.row (h : SW W0 M s B v l w) : Xs W0 M (fun j => v.ownBlock = some j) s w := by
  obtain ⟨h0, h1, ⟨h2, ⟨h3, _⟩, h4⟩, h5⟩ := h
  exact ⟨h2, ⟨h3, fun j hj => ⟨(h5.lt j hj).2, by have := (h5.lt j hj).1; omega⟩⟩, h4⟩
theorem o_send (hO : Okp s) (hl : s.l.length ≤ 1000) (y : Int) (h : SW W0 M s B v l w) : Calls Try.prog 11 #[.pointer (some ⟨M, 0, none⟩), .int .i64 y] w fun e w' => e = .returned (.int .i64 0) ∧ SW W0 M (s.snd y) B v l w' :=
  (x_send hO hl y h.row).mono fun _ _ k => ⟨k.1, h.1, Nat.le_trans h.2.1 k.2.2.2, k.2.1.mono fun _ q => q.elim, owns_far h.2.2.2 fun j hj => k.2.2.1 j hj⟩
theorem o_recv (hO : Okp s) (hl : s.l.length ≤ 1000) (y : Int) (h : SW W0 M s B v l w) : Calls Try.prog 12 #[.pointer (some ⟨M, 0, none⟩), .int .i64 y] w fun e w' => e = .returned (.tuple #[.int .i64 (rcvV s y), .int .i64 (rcvL s y), .int .i64 (rcvA s y), .int .i64 (rcvE s y)]) ∧ SW W0 M s B v l w' :=
  (x_recv hO hl y h.2.2.1).mono fun _ _ k => ⟨k.1, h.below k.2.2⟩
end

set_option maxRecDepth 20000 in
set_option maxHeartbeats 8000000 in
theorem order_walk (n : Int) (a1 : Option Addr) (l1 c1 : Nat) (h1 : l1 ≤ c1) (g1 : c1 ≤ maxLen) (w : World) (hact1 : Acts w a1 l1) : Calls Try.prog 4 #[.int .i64 n, .slice a1 l1 c1] w fun e w' => e = .returned (.bool true) ∧ Below w.heap.size w w' := by
  have hl1 : l1 ≤ maxLen := Nat.le_trans h1 g1
  unfold maxLen at hl1
  clear h1 g1
  have HA1 := hide hact1
  clear hact1
  have HAW := hide awake_any
  go_enter Try.func4, Try.ntmps4
  go_wp2_with fail
  refine (x_new n).mono ?_
  rintro e w1 ⟨rfl, hA⟩
  have HW0 := hide hA.sw
  have HO0 : Hid (Okp (ps0 (cut8 n))) := hide (cut8_ok n)
  have HL0 : Hid ((ps0 (cut8 n)).l = []) := hide rfl
  rw [← HL0.out] at HW0
  have HS0 : Hid ((ps0 (cut8 n)).l.length = 0) := hide rfl
  clear hA HL0
  generalize ps0 (cut8 n) = s0 at *
  go_wp2_with fail
  generalize w.heap.size = M at HW0 ⊢
  generalize w1.heap.size = B at HW0 ⊢
  go_loopw [6, 7, 8, 9, 10] (fun v6 v7 v8 v9 v10 wr => ∃ (k p m : Nat) (g l : Int) (a : Option Addr) (c : Nat) (s : Ps), v6 = .slice a m c ∧ v7 = .int .i64 (p : Int) ∧ v8 = .int .i64 g ∧ v9 = .int .i64 l ∧ v10 = .int .i64 (k : Int) ∧ k ≤ 100 ∧ k ≤ l1 ∧ p ≤ m ∧ m ≤ k ∧ g + l = (p : Int) ∧ 0 ≤ g ∧ g ≤ (k : Int) ∧ Hid (Okp s) ∧ Hid (s.l.length = m) ∧ Hid (SW w M s B (.slice a m c) s.l wr)) (fun _ _ _ _ v10 _ => 100 - (intOf v10).toNat)
  case atStart => exact ⟨0, 0, 0, 0, 0, _, _, s0, rfl, rfl, rfl, rfl, rfl, by omega, by omega, by omega, by omega, by omega, by omega, by omega, HO0, HS0, HW0⟩
  case round =>
    clear HW0 HO0 HS0
    obtain ⟨k, p, m, g, l, a, c, s, rfl, rfl, rfl, rfl, rfl, hk100, hkl, hpm, hmk, hgl, hg0, hgk, HO, HSL, HW⟩ := hrel
    by_cases q1 : k < l1
    · have q1' : (k : Int) < (l1 : Int) := by omega
      by_cases q2 : k < 100
      · have q2' : (k : Int) < 100 := by omega
        have q0' : (0 : Int) ≤ (k : Int) := by omega
        obtain ⟨b2, off2, r, v, rfl, hlt2, p0, p1⟩ := HA1.out k q1
        have d0 := ((bcell HW.out.low).1 _ _ hlt2).trans p0
        have d1 := ((bcell HW.out.low).1 _ _ hlt2).trans p1
        have HL2 : Hid (s.l.length ≤ 1000) := hide (by have := HSL.out; omega)
        cases r
        · have HO1 := hide HW.out.2.2.2
          rw [HSL.out] at HO1
          have hB := HW.out.2.1
          have HAP := hide (fun w5 v' => HW.out.app (ob := .cells #[.int .i64 v] 3) (w5 := w5) (v' := v') (x := v))
          rw [HSL.out] at HAP
          have HCE := hide (fun W v' (q : SW w M s B v' (s.l ++ [v]) W) => And.intro (((bcell q.low).1 _ _ hlt2).trans p1) (o_send HO.out HL2.out v q))
          have HO2 : Hid (Okp (s.snd v)) := HO
          have HS2 : Hid ((s.snd v).l.length = m + 1) := hide (by rw [snd_len, HSL.out])
          have HE2 : Hid (s.l ++ [v] = (s.snd v).l) := hide rfl
          clear HW HO HSL HL2
          generalize s.snd v = s2 at *
          generalize s.l = sl at *
          go_wp2_with (at_builtin; refine wpList_append_z _ rfl _ _ rfl B _ m sl rfl (HO1.out.alloc _) (some ⟨wr.heap.size, 0, none⟩) 1 1 [v] rfl rfl (one_z (by simp) (by simp)) (by omega) (by simp; omega) ?_)
          intro a5 c5 w5 ho5 hg5
          obtain ⟨d2, c2⟩ := HCE.out w5 _ (HAP.out w5 _ hg5 ho5)
          have C2 := hide c2
          clear ho5 hg5 HAP HO1 hB d0 d1 c2 HCE p0 p1
          go_wp2_with fail
          refine C2.out.mono ?_
          rintro e w6 ⟨rfl, hW6⟩
          rw [HE2.out] at hW6
          have HW6 := hide hW6
          clear hW6 C2 d2
          go_wp2_with fail
          go_roundw
          case rel => exact ⟨k + 1, p, m + 1, g, l, a5, c5, s2, rfl, rfl, rfl, rfl, by go_num, by omega, by omega, by omega, by omega, hgl, hg0, by omega, HO2, HS2, HW6⟩
          case measure => simp [intOf]; omega
        · have C1 := hide (o_recv HO.out HL2.out (p : Int) HW.out)
          clear p0 p1
          by_cases q3 : p = m
          · subst q3
            obtain ⟨e1, e2, e3, e4⟩ := rcv_end (s := s) (x := (p : Int)) (by rw [HSL.out])
            rw [e1, e2, e3, e4] at C1
            clear e1 e2 e3 e4 HW HL2
            have tp : ((p : Int) == (p : Int)) = true := by simp
            go_wp2_with fail
            refine C1.out.mono ?_
            rintro e w5 ⟨rfl, hW5⟩
            have HW5 := hide hW5
            clear hW5 C1 d0 d1
            go_wp2_with fail
            go_roundw
            case rel => exact ⟨k + 1, p, p, g, l, a, c, s, rfl, rfl, rfl, rfl, by go_num, by omega, by omega, by omega, by omega, hgl, hg0, by omega, HO, HSL, HW5⟩
            case measure => simp [intOf]; omega
          · have hpl : p < s.l.length := by have := HSL.out; omega
            obtain ⟨e1, e2, e3, e4⟩ := rcv_yes (in_at hpl)
            have hfp : p ≤ rcvF s (p : Int) ∧ rcvF s (p : Int) < s.l.length := by have := HO.out.1; unfold rcvF; omega
            rw [HSL.out] at hfp
            rw [e1, e2, e3, e4] at C1
            have HROW : Hid (∀ W, SW w M s B (.slice a m c) s.l W → ∃ gb, a = some ⟨gb, 0, none⟩ ∧ W.cell? ⟨gb, rcvF s (p : Int), none⟩ = some (.int .i64 (gz s.l (rcvF s (p : Int))))) := hide fun W q => by
              obtain ⟨gb, cb, hv, _, _, hc, _⟩ := row_open q.2.2.2 (by omega)
              injection hv with hv1
              exact ⟨gb, hv1, (hc _ (by have := HSL.out; omega)).1⟩
            clear e1 e2 e3 e4 HW HL2 hpl
            generalize gz s.l (rcvF s (p : Int)) = V at *
            generalize rcvF s (p : Int) = f at *
            obtain ⟨D, hD⟩ : ∃ D : Int, D = (f : Int) - (p : Int) := ⟨_, rfl⟩
            rw [← hD] at C1
            have hpD : (p : Int) + D = (f : Int) := by omega
            have hgD : g + 1 + (l + D) = (f : Int) + 1 := by omega
            have hD0 : 0 ≤ D ∧ D ≤ 100 := by omega
            have hD1 : ¬ D < 0 := by omega
            have hl2 : -100 ≤ l ∧ l ≤ 100 := by omega
            have hf2 : ¬ (m : Int) < (f : Int) + 1 := by omega
            have hf3 : (f : Int) < (m : Int) := by omega
            have hf0 : (0 : Int) ≤ (f : Int) := by omega
            have tv : (V == V) = true := by simp
            clear hD
            go_wp2_with fail
            refine C1.out.mono ?_
            rintro e w5 ⟨rfl, hW5⟩
            have HW5 := hide hW5
            obtain ⟨gb, ha, dv⟩ := HROW.out _ hW5
            subst ha
            clear hW5 C1 d0 d1 HROW
            go_wp2_with fail
            go_roundw
            case rel => exact ⟨k + 1, f + 1, m, g + 1, l + D, _, c, s, rfl, by go_num, by go_num, by go_num, by go_num, by omega, by omega, by omega, by omega, by omega, by omega, by omega, HO, HSL, HW5⟩
            case measure => simp [intOf]; omega
      · have q2' : ¬ (k : Int) < 100 := by omega
        have HBB := hide HW.out.low
        clear HW HO HSL HA1
        go_wp2_with fail
        refine (HAW.out _).mono ?_
        rintro e w3 ⟨rfl, hb⟩
        have HF := hide (below_next HBB.out hb)
        clear hb HBB HAW
        go_wp2
        go_ret
        exact ⟨rfl, HF.out⟩
    · have q1' : ¬ (k : Int) < (l1 : Int) := by omega
      have HBB := hide HW.out.low
      clear HW HO HSL HA1
      go_wp2_with fail
      refine (HAW.out _).mono ?_
      rintro e w3 ⟨rfl, hb⟩
      have HF := hide (below_next HBB.out hb)
      clear hb HBB HAW
      go_wp2
      go_ret
      exact ⟨rfl, HF.out⟩

end Go.Proofs.Ytkjiompjfolipaa
