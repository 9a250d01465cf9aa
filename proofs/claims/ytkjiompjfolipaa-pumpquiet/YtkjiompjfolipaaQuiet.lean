/-
  What the law PumpQuiet asks comes out true at any two lists of numbers.
-/
import Derived.Test.YtkjiompjfolipaaAwake
import Derived.Test.YtkjiompjfolipaaMem
namespace Go.Proofs.Ytkjiompjfolipaa
open Go.RowKit

/-- Two of the program's, behind a world in which there was none of them. -/
def Two (W0 : World) (M N : Nat) (s q : Ps) (w : World) : Prop := (W0.heap.size ≤ M ∧ W0.heap.size ≤ N ∧ M ≠ N) ∧ (AtM w M s ∧ AtM w N q) ∧ Below W0.heap.size W0 w
section
variable {W0 w w' : World} {M N : Nat} {s q s2 : Ps}
theorem Two.below (h : Two W0 M N s q w) (k : Below w.heap.size w w') : Two W0 M N s q w' := ⟨h.1, ⟨h.2.1.1.below k, h.2.1.2.below k⟩, below_next h.2.2 k⟩
theorem Two.setM (h : Two W0 M N s q w) (k : NowM M s2 w w') : Two W0 M N s2 q w' := by
  obtain ⟨⟨h1, h2, h3⟩, ⟨h4, h5⟩, h6⟩ := h
  exact ⟨⟨h1, h2, h3⟩, ⟨k.1, h5.keep (k.2.block N h5.lt fun e => h3 e.symm)⟩, h6.trans (k.low h1 h6.size)⟩
theorem Two.setN (h : Two W0 M N s q w) (k : NowM N s2 w w') : Two W0 M N s s2 w' := by
  obtain ⟨⟨h1, h2, h3⟩, ⟨h4, h5⟩, h6⟩ := h
  exact ⟨⟨h1, h2, h3⟩, ⟨h4.keep (k.2.block M h4.lt fun e => h3 e), k.1⟩, h6.trans (k.low h2 h6.size)⟩
theorem t_new (n : Int) (h : Xs W0 M none0 s w) : Calls Try.prog 8 #[.int .i64 n] w fun e w' => e = .returned (.pointer (some ⟨w.heap.size, 0, none⟩)) ∧ Two W0 M w.heap.size s (ps0 (cut8 n)) w' := by
  obtain ⟨h1, ⟨h2, _⟩, h4⟩ := h
  refine (new_any n w).mono fun e w' k => ?_
  obtain ⟨k1, k2, k3⟩ := k
  exact ⟨k1, ⟨h1, h4.size, Nat.ne_of_lt h2.lt⟩, ⟨h2.below k3, k2⟩, below_next h4 k3⟩
theorem t_sendM (hO : Okp s) (hl : s.l.length ≤ 1000) (v : Int) (h : Two W0 M N s q w) : Calls Try.prog 11 #[.pointer (some ⟨M, 0, none⟩), .int .i64 v] w fun e w' => e = .returned (.int .i64 0) ∧ Two W0 M N (s.snd v) q w' :=
  (send_any M s hO hl v w h.2.1.1).mono fun _ _ k => ⟨k.1, h.setM k.2⟩
theorem t_sendN (hO : Okp q) (hl : q.l.length ≤ 1000) (v : Int) (h : Two W0 M N s q w) : Calls Try.prog 11 #[.pointer (some ⟨N, 0, none⟩), .int .i64 v] w fun e w' => e = .returned (.int .i64 0) ∧ Two W0 M N s (q.snd v) w' :=
  (send_any N q hO hl v w h.2.1.2).mono fun _ _ k => ⟨k.1, h.setN k.2⟩
theorem t_recvM (hO : Okp s) (hl : s.l.length ≤ 1000) (x : Int) (h : Two W0 M N s q w) : Calls Try.prog 12 #[.pointer (some ⟨M, 0, none⟩), .int .i64 x] w fun e w' => e = .returned (.tuple #[.int .i64 (rcvV s x), .int .i64 (rcvL s x), .int .i64 (rcvA s x), .int .i64 (rcvE s x)]) ∧ Two W0 M N s q w' :=
  (recv_any M s hO hl x w h.2.1.1).mono fun _ _ k => ⟨k.1, h.below k.2⟩
theorem t_recvN (hO : Okp q) (hl : q.l.length ≤ 1000) (x : Int) (h : Two W0 M N s q w) : Calls Try.prog 12 #[.pointer (some ⟨N, 0, none⟩), .int .i64 x] w fun e w' => e = .returned (.tuple #[.int .i64 (rcvV q x), .int .i64 (rcvL q x), .int .i64 (rcvA q x), .int .i64 (rcvE q x)]) ∧ Two W0 M N s q w' :=
  (recv_any N q hO hl x w h.2.1.2).mono fun _ _ k => ⟨k.1, h.below k.2⟩
theorem t_totM (h : Two W0 M N s q w) : Calls Try.prog 14 #[.pointer (some ⟨M, 0, none⟩)] w fun e w' => e = .returned (.int .i64 (s.l.length : Int)) ∧ w' = w := total_any M s w h.2.1.1
theorem t_totN (h : Two W0 M N s q w) : Calls Try.prog 14 #[.pointer (some ⟨N, 0, none⟩)] w fun e w' => e = .returned (.int .i64 (q.l.length : Int)) ∧ w' = w := total_any N q w h.2.1.2
end

set_option maxRecDepth 20000 in
set_option maxHeartbeats 8000000 in
theorem quiet_walk (n : Int) (a1 : Option Addr) (l1 c1 : Nat) (h1 : l1 ≤ c1) (g1 : c1 ≤ maxLen) (a2 : Option Addr) (l2 c2 : Nat) (h2 : l2 ≤ c2) (g2 : c2 ≤ maxLen) (next : Int) (w : World) (hi1 : Ints w a1 l1) (hi2 : Ints w a2 l2) : Calls Try.prog 6 #[.int .i64 n, .slice a1 l1 c1, .slice a2 l2 c2, .int .i64 next] w fun e w' => e = .returned (.bool true) ∧ Below w.heap.size w w' := by
  have hl1 : l1 ≤ maxLen := Nat.le_trans h1 g1
  have hl2 : l2 ≤ maxLen := Nat.le_trans h2 g2
  unfold maxLen at hl1 hl2
  clear h1 g1 h2 g2
  have HI1 := hide hi1
  have HI2 := hide hi2
  clear hi1 hi2
  have HAW := hide awake_any
  go_enter Try.func6, Try.ntmps6
  go_wp2_with fail
  refine (x_new n).mono ?_
  rintro e w1 ⟨rfl, hA⟩
  obtain ⟨M, hMe⟩ : ∃ M, M = w.heap.size := ⟨_, rfl⟩
  rw [← hMe] at hA ⊢
  have HA := hide hA
  clear hA hMe
  go_wp2_with fail
  refine (t_new n HA.out).mono ?_
  rintro e w2 ⟨rfl, hB⟩
  obtain ⟨N, hNe⟩ : ∃ N, N = w1.heap.size := ⟨_, rfl⟩
  rw [← hNe] at hB ⊢
  have HT0 := hide hB
  have HO0 : Hid (Okp (ps0 (cut8 n))) := hide (cut8_ok n)
  have HL0 : Hid ((ps0 (cut8 n)).l.length ≤ 0) := hide (by simp [ps0])
  clear hB hNe HA
  generalize ps0 (cut8 n) = s0 at *
  go_wp2_with fail
  go_loopw [11] (fun i wr => ∃ k s, i = .int .i64 ((k : Nat) : Int) ∧ k ≤ 40 ∧ k ≤ l1 ∧ Hid (Okp s) ∧ Hid (s.l.length ≤ k) ∧ Hid (Two w M N s s wr)) (fun i _ => 40 - (intOf i).toNat)
  case atStart => exact ⟨0, s0, rfl, by omega, by omega, HO0, HL0, HT0⟩
  case round =>
    clear HT0 HO0 HL0
    obtain ⟨k, s, rfl, hk40, hkl, HO, HLN, HT⟩ := hrel
    have HL2 : Hid (s.l.length ≤ 1000) := hide (by have := HLN.out; omega)
    by_cases q1 : k < l1
    · have q1' : (k : Int) < (l1 : Int) := by omega
      by_cases q2 : k < 40
      · have q2' : (k : Int) < 40 := by omega
        have q0' : (0 : Int) ≤ (k : Int) := by omega
        obtain ⟨b1, off1, v, rfl, hlt1, p1⟩ := HI1.out k q1
        have d1 := ((bcell HT.out.2.2).1 _ _ hlt1).trans p1
        have C1 := hide (t_sendM HO.out HL2.out v HT.out)
        have C2 := hide (fun W (q : Two w M N (s.snd v) s W) => And.intro (((bcell q.2.2).1 _ _ hlt1).trans p1) (t_sendN HO.out HL2.out v q))
        have HO2 : Hid (Okp (s.snd v)) := HO
        have HLK : Hid ((s.snd v).l.length ≤ k + 1) := hide (by have := HLN.out; rw [snd_len]; omega)
        have HL3 : Hid ((s.snd v).l.length ≤ 1000) := hide (by have := HLK.out; omega)
        clear p1 HT HO HLN HL2
        generalize s.snd v = s2 at *
        go_wp2_with fail
        refine C1.out.mono ?_
        rintro e w5 ⟨rfl, hT5⟩
        obtain ⟨d2, c2⟩ := C2.out _ hT5
        have C3 := hide c2
        clear hT5 C1 C2 c2 d1
        go_wp2_with fail
        refine C3.out.mono ?_
        rintro e w6 ⟨rfl, hT6⟩
        have HT6 := hide hT6
        clear hT6 C3 d2
        by_cases q3 : k < l2
        · have q3' : (k : Int) < (l2 : Int) := by omega
          obtain ⟨b2, off2, x, rfl, hlt2, p2⟩ := HI2.out k q3
          have d3 := ((bcell HT6.out.2.2).1 _ _ hlt2).trans p2
          have C4 := hide (t_recvM HO2.out HL3.out x HT6.out)
          clear p2 HT6 HL3
          go_wp2_with fail
          refine C4.out.mono ?_
          rintro e w7 ⟨rfl, hT7⟩
          have HT7 := hide hT7
          clear hT7 C4 d3
          go_wp2_with fail
          go_roundw
          case rel => exact ⟨k + 1, s2, by go_num, by omega, by omega, HO2, HLK, HT7⟩
          case measure => simp [intOf]; omega
        · have q3' : ¬ (k : Int) < (l2 : Int) := by omega
          go_wp2_with fail
          go_roundw
          case rel => exact ⟨k + 1, s2, by go_num, by omega, by omega, HO2, HLK, HT6⟩
          case measure => simp [intOf]; omega
      · have q2' : ¬ (k : Int) < 40 := by omega
        have C1 := hide (t_recvM HO.out HL2.out next HT.out)
        have C2 := hide (fun W (q : Two w M N s s W) => t_recvN HO.out HL2.out next q)
        have CB := hide (fun W W' (q : Two w M N s s W) (b : Below W.heap.size W W') => And.intro (q.below b) (q.below b).2.2)
        have CM := hide (fun W (q : Two w M N s s W) => t_totM q)
        have CN := hide (fun W (q : Two w M N s s W) => t_totN q)
        clear HT HO HL2 HLN HI1 HI2
        generalize rcvV s next = V at *
        generalize rcvL s next = L at *
        generalize rcvA s next = A at *
        generalize rcvE s next = E0 at *
        have tv : (V == V) = true := by simp
        have tl : (L == L) = true := by simp
        have ta : (A == A) = true := by simp
        have te : (E0 == E0) = true := by simp
        go_wp2_with fail
        refine C1.out.mono ?_
        rintro e w5 ⟨rfl, hT5⟩
        have HT5 := hide hT5
        clear hT5 C1
        go_wp2_with fail
        refine (C2.out _ HT5.out).mono ?_
        rintro e w6 ⟨rfl, hT6⟩
        have HT6 := hide hT6
        clear hT6 C2 HT5
        go_wp2_with fail
        refine (HAW.out _).mono ?_
        rintro e w7 ⟨rfl, hb⟩
        have HT7 := hide (CB.out _ _ HT6.out hb)
        clear hb HAW CB HT6
        go_wp2_with fail
        refine (CM.out _ HT7.out.1).mono ?_
        rintro e w8 ⟨rfl, hw8⟩
        subst hw8
        clear CM
        go_wp2_with fail
        refine (CN.out _ HT7.out.1).mono ?_
        rintro e w8 ⟨rfl, hw8⟩
        subst hw8
        clear CN
        have HF := hide HT7.out.2
        clear HT7
        go_wp2
        go_ret
        exact ⟨by first | rfl | simp, HF.out⟩
    · have q1' : ¬ (k : Int) < (l1 : Int) := by omega
      have C1 := hide (t_recvM HO.out HL2.out next HT.out)
      have C2 := hide (fun W (q : Two w M N s s W) => t_recvN HO.out HL2.out next q)
      have CB := hide (fun W W' (q : Two w M N s s W) (b : Below W.heap.size W W') => And.intro (q.below b) (q.below b).2.2)
      have CM := hide (fun W (q : Two w M N s s W) => t_totM q)
      have CN := hide (fun W (q : Two w M N s s W) => t_totN q)
      clear HT HO HL2 HLN HI1 HI2
      generalize rcvV s next = V at *
      generalize rcvL s next = L at *
      generalize rcvA s next = A at *
      generalize rcvE s next = E0 at *
      have tv : (V == V) = true := by simp
      have tl : (L == L) = true := by simp
      have ta : (A == A) = true := by simp
      have te : (E0 == E0) = true := by simp
      go_wp2_with fail
      refine C1.out.mono ?_
      rintro e w5 ⟨rfl, hT5⟩
      have HT5 := hide hT5
      clear hT5 C1
      go_wp2_with fail
      refine (C2.out _ HT5.out).mono ?_
      rintro e w6 ⟨rfl, hT6⟩
      have HT6 := hide hT6
      clear hT6 C2 HT5
      go_wp2_with fail
      refine (HAW.out _).mono ?_
      rintro e w7 ⟨rfl, hb⟩
      have HT7 := hide (CB.out _ _ HT6.out hb)
      clear hb HAW CB HT6
      go_wp2_with fail
      refine (CM.out _ HT7.out.1).mono ?_
      rintro e w8 ⟨rfl, hw8⟩
      subst hw8
      clear CM
      go_wp2_with fail
      refine (CN.out _ HT7.out.1).mono ?_
      rintro e w8 ⟨rfl, hw8⟩
      subst hw8
      clear CN
      have HF := hide HT7.out.2
      clear HT7
      go_wp2
      go_ret
      exact ⟨by first | rfl | simp, HF.out⟩

end Go.Proofs.Ytkjiompjfolipaa
