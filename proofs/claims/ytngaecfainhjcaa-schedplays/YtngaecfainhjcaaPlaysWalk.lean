/-
  The walk of the law SchedPlays.
-/
import Derived.Test.YtngaecfainhjcaaPlays
import Derived.Deep.DeepCutAuto
namespace Go.Proofs.Ytngaecfainhjcaa
open Go.RowKit A

/-- The same, with what lay there at the call kept. -/
theorem row_on2 {W0 : World} {f : Nat} {args : Array Value} {L : List Nat} (hc : ∀ W, Below W0.heap.size W0 W → Calls Try.prog f args W fun e w' => Owned L W e w') :
    ∀ W, Below W0.heap.size W0 W → Calls Try.prog f args W fun e w' => ∃ a c, e = .returned (.slice a L.length c) ∧ w'.ownsRow W0.heap.size 3 1 (.slice a L.length c) L.length (cI L) ∧ Below W0.heap.size W0 w' ∧ Below W.heap.size W w' := fun W hW => by
  refine (hc W hW).mono ?_
  rintro e w' ⟨u, rfl, ho, hb⟩
  obtain ⟨a, c, rfl⟩ := owns_slice ho
  exact ⟨a, c, rfl, owns_base ho hW.size, below_next hW hb, hb⟩

/-- What holds at each round's head. -/
def PlaysAt (w : World) (S B P Q R b2 K : Nat) (wr : World) : Prop := ∃ s, Okc K s ∧ PlA w S B P Q R b2 K s s.run s.a wr
theorem spawn_a (s : Sc) : (spawnOf s).a = takeOf s.a := by
  unfold spawnOf
  cases hb : takeB s.a
  · show s.a = _; rw [(take_no _ hb).2]
  · rfl
theorem ready_a (s : Sc) (t : Int) : (readyOf s t).a = s.a := by unfold readyOf; split <;> rfl
theorem yield_a (s : Sc) (t : Int) : (yieldOf s t).a = s.a := by unfold yieldOf; split <;> rfl
theorem exit_a (s : Sc) (t : Int) : (exitOf s t).a = if isB s.a t = true then freeOf s.a t else s.a := by unfold exitOf; split <;> rfl

set_option maxHeartbeats 8000000 in
set_option maxRecDepth 100000 in
theorem schedPlays_walk (quota : Int) (ad : Option Addr) (len cap : Nat) (hcap : len ≤ cap) (hmax : cap ≤ maxLen) (w : World) (hact : Acts w ad len) :
    Calls Try.prog 3 #[.int .i64 quota, .slice ad len cap] w fun e w' => e = .returned (.bool true) ∧ Below w.heap.size w w' := by
  have hlen63 : len ≤ 9223372036854775807 := by unfold maxLen at hmax; omega
  clear hmax
  have HAC := hide hact
  clear hact
  have K0 := hide (ok_newS quota)
  go_enter Try.func3, Try.ntmps3
  go_wp2_with fail
  refine (snew_any quota _).mono ?_
  rintro e w1 ⟨S, B, P, v, rfl, hl, hA, hb⟩
  have HA := hide hA
  clear hA
  go_wp2_with fail
  refine (rnew_any quota _).mono ?_
  rintro e w2 ⟨Q, R, v1, v2, v3, u, r, rfl, hl2, hQ, hsim, hbk, hb2⟩
  have hlq : w.heap.size ≤ w1.heap.size ∧ w1.heap.size ≤ Q ∧ w1.heap.size ≤ R := ⟨hb.size, hl2.1, hl2.2⟩
  have H0 : Hid (PlaysAt w S B P Q R w1.heap.size 0 w2) := by
    refine ⟨newS quota, K0.out, r, v, v1, v2, v3, u, hsim, by omega, ⟨HA.out.below hb2, hQ, fun j hj hm => ?_⟩, below_next hb hb2⟩
    have h1 := HA.out.mine_lt hj
    have h2 := hQ.mine_ge hl2.1 hl2.2 hm
    omega
  generalize w1.heap.size = b2 at *
  clear HA hQ hsim hbk hb hb2 hl2 K0
  go_wp2
  go_loopw [7] (fun i wr => ∃ k : Nat, k ≤ len ∧ k ≤ 60 ∧ i = .int .i64 k ∧ PlaysAt w S B P Q R b2 k wr) (fun i _ => len - (intOf i).toNat)
  case atStart => exact ⟨0, Nat.zero_le _, Nat.zero_le _, rfl, H0.out⟩
  case round =>
    clear H0
    obtain ⟨k, hk, hk60, rfl, s, hok, hpl⟩ := hrel
    have HOk := hide hok
    have HPl := hide hpl
    clear hok hpl
    by_cases hlt : k < len ∧ k < 60
    · obtain ⟨hk1, hk2⟩ := hlt
      have hk1' : (k : Int) < (len : Int) := by omega
      have hk2' : (k : Int) < 60 := by omega
      obtain ⟨b, off, d, h, nn, rfl, hbw, q0, q1, q2, hd255, hh64, hn255⟩ := HAC.out k hk1
      have hbW : Below w.heap.size w wr := by obtain ⟨_, _, _, _, _, _, _, _, _, h4⟩ := HPl.out; exact h4
      have c0 : wr.cell? ⟨b, off + k * 3, none⟩ = some (.int .u8 d) := (hbW.cell (p := ⟨b, _, none⟩) hbw).trans q0
      have c1 : wr.cell? ⟨b, off + k * 3 + 1, none⟩ = some (.int .i64 h) := (hbW.cell (p := ⟨b, _, none⟩) hbw).trans q1
      have c2 : wr.cell? ⟨b, off + k * 3 + 2, none⟩ = some (.int .u8 nn) := (hbW.cell (p := ⟨b, _, none⟩) hbw).trans q2
      have HH := hide hh64
      have HN := hide hn255
      obtain ⟨r8, hr8⟩ : ∃ r8 : Int, d.tmod 8 = r8 := ⟨_, rfl⟩
      have HR8 := hide hr8
      clear hbw q0 q1 q2 hbW hh64 hn255 hd255 hr8
      go_upto_region 6 with fail
      have hW1 : Below wr.heap.size wr (wr.alloc (.cells #[.int .u8 d, .int .i64 h, .int .u8 nn] 28)) := (Below.refl _ _).alloc (Nat.le_refl _) _
      have x0 : (wr.alloc (.cells #[.int .u8 d, .int .i64 h, .int .u8 nn] 28)).cell? ⟨wr.heap.size, 0, none⟩ = some (.int .u8 d) := by simp [go_sem]
      have x1 : (wr.alloc (.cells #[.int .u8 d, .int .i64 h, .int .u8 nn] 28)).cell? ⟨wr.heap.size, 1, none⟩ = some (.int .i64 h) := by simp [go_sem]
      have x2 : (wr.alloc (.cells #[.int .u8 d, .int .i64 h, .int .u8 nn] 28)).cell? ⟨wr.heap.size, 2, none⟩ = some (.int .u8 nn) := by simp [go_sem]
      have hbx : wr.heap.size < (wr.alloc (.cells #[.int .u8 d, .int .i64 h, .int .u8 nn] 28)).heap.size := by simp
      generalize wr.alloc (.cells #[.int .u8 d, .int .i64 h, .int .u8 nn] 28) = W1 at *
      have HP1 := hide (HPl.out.below hW1)
      generalize wr.heap.size = bx at *
      clear HPl hW1 c0 c1 c2
      have HC1 : Hid (∀ W, Below W1.heap.size W1 W → W.cell? ⟨bx, 0, none⟩ = some (.int .u8 d) ∧ W.cell? ⟨bx, 1, none⟩ = some (.int .i64 h) ∧ W.cell? ⟨bx, 2, none⟩ = some (.int .u8 nn)) :=
        fun W hW => ⟨(hW.cell (p := ⟨bx, _, none⟩) hbx).trans x0, (hW.cell (p := ⟨bx, _, none⟩) hbx).trans x1, (hW.cell (p := ⟨bx, _, none⟩) hbx).trans x2⟩
      obtain ⟨r, v, v1, v2, v3, u, hsim, hbk, hPQ, hbW1⟩ := HP1.out
      obtain ⟨z0, _, _⟩ := hPQ.q.cells
      have hQl := hPQ.q.ltQ
      have HC2 : Hid (∀ W, Below W1.heap.size W1 W → W.cell? ⟨Q, 0, none⟩ = some (.pointer (some ⟨R, 0, none⟩))) := fun W hW => (hW.cell (p := ⟨Q, _, none⟩) hQl).trans z0
      have Lv : ∀ W, Below W1.heap.size W1 W → Calls Try.prog 11 #[.pointer (some ⟨R, 0, none⟩)] W fun e w' => Owned (liveTo s.a s.a.n) W e w' := fun W hW => by
        have := refLive_any R b2 v1 v2 v3 r (by rw [hsim.nl]; exact hsim.n16) W (hPQ.q.below hW).ar
        rw [hsim.nl, ← hsim.live s.a.n (Nat.le_refl _)] at this
        exact this
      have HLv := hide (row_on Lv)
      have HW := hide (who_on (wr := W1) (d := d) HH.out HN.out (live_le' HOk.out.fit (by omega)))
      generalize liveTo s.a s.a.n = L at HLv HW
      have hb0 : Below W1.heap.size W1 W1 := Below.refl _ _
      have HB0 := hide hb0
      have HB1 := hide (below_drew1 W1)
      clear hsim hbk hPQ hbW1 Lv hb0 hbx
      go_region_held3 (fun w' => w'.cell? ⟨bx, 0, none⟩ = some (.int .u8 d) ∧ w'.cell? ⟨bx, 1, none⟩ = some (.int .i64 h) ∧ w'.cell? ⟨bx, 2, none⟩ = some (.int .u8 nn) ∧ w'.cell? ⟨Q, 0, none⟩ = some (.pointer (some ⟨R, 0, none⟩))) (first | (refine ⟨?_, ?_, ?_, ?_⟩ <;> assumption) | go_keep) (first | (go_at_call 11; refine (HLv.out _ (by first | exact HB1.out | exact HB0.out)).mono ?_; rintro e w3 ⟨a3, k3, rfl, ho3, hb3⟩; obtain ⟨y0, y1, y2⟩ := HC1.out _ hb3; have y3 := HC2.out _ hb3) | (go_at_call 10; refine (HW.out _ _ _ ho3 hb3).mono ?_; rintro e w4 ⟨t, rfl, ht, hb4⟩; obtain ⟨p0, p1, p2⟩ := HC1.out _ hb4; have p3 := HC2.out _ hb4))
      have HP4 := hide (HP1.out.below hb4)
      have HT := hide ht
      clear HC1 HC2 HLv HW HB0 HB1 HP1 hb3 hb4 ho3 y0 y1 y2 y3 x0 x1 x2 z0 ht
      go_upto_region 8 with fail
      go_cut [46] (fun v wx => v = .int .u8 r8 ∧ wx = w4)
      case first =>
        have hr8 := HR8.out
        go_wp2_with fail
        go_meet
        exact ⟨rfl, rfl⟩
      case rest =>
        obtain ⟨rfl, hwc⟩ := hcut
        have hwc' := hwc.symm
        clear hwc
        subst hwc'
        rename_i hBlk
        refine hBlk _ _ ?_
        go_cut [10] (fun c wx => c = .bool true ∧ ∃ s', Okc (k + 1) s' ∧ PlA w S B P Q R b2 (k + 1) s' s'.run s'.a wx)
        case first =>
          by_cases g0 : r8 = 0
          · have e0 : (r8 == 0) = true := by simp [g0]
            clear g0
            have T1 := plS (w := w) (S := S) (B := B) (P := P) (Q := Q) (R := R) (b2 := b2) (K := k) (s := s) (s' := spawnOf s) (l := s.run) (a := s.a) hl (fun v W hA hz => spawn_any S B P _ k v s (by have := HOk.out.len8; omega) (by omega) HOk.out.fit W hA hz)
            have T2 := plQ (w := w) (S := S) (B := B) (P := P) (Q := Q) (R := R) (b2 := b2) (K := k) (K' := k + 1) (s := spawnOf s) (l := s.run) (l' := (spawnOf s).run) (a := s.a) (a' := (spawnOf s).a) hlq (fun r v1 v2 v3 u W h1 h2 h3 h4 => (rspawn_any Q R b2 k v1 v2 v3 u r s h1 HOk.out.fit (by omega) (by omega) (by have := HOk.out.len8; omega) W h4 h3).mono fun e w' ⟨he, r', k1, k2, k3⟩ => ⟨he, r', by rw [spawn_a]; exact k1, by omega, k3⟩)
            have HT1 := hide T1
            have HT2 := hide T2
            have ok2 := hide (show Okc (k + 1) (spawnOf s) from HOk.out.spawn.mono (by omega))
            clear T1 T2
            generalize takeH s.a = tH at *
            generalize takeB s.a = bb at *
            have hbb : (bb == bb) = true := by cases bb <;> rfl
            have htH : (tH == tH) = true := by simp
            go_wp2_with fail
            refine (HT1.out _ HP4.out).mono ?_
            rintro e w5 ⟨rfl, hP5⟩
            have HP5 := hide hP5
            clear hP5 HP4 HT1 p0 p1 p2 p3
            go_wp2_with fail
            refine (HT2.out _ HP5.out).mono ?_
            rintro e w6 ⟨rfl, hP6⟩
            have HP6 := hide hP6
            clear hP6 HP5 HT2
            go_wp2_with fail
            go_meet
            exact ⟨rfl, _, ok2.out, HP6.out⟩
          · have e0 : (r8 == 0) = false := by simp [g0]
            clear g0
            by_cases g1 : r8 = 1
            · have e1 : (r8 == 1) = true := by simp [g1]
              clear g1
              have T1 := plS (w := w) (S := S) (B := B) (P := P) (Q := Q) (R := R) (b2 := b2) (K := k) (s := s) (s' := spawnOf s) (l := s.run) (a := s.a) hl (fun v W hA hz => spawn_any S B P _ k v s (by have := HOk.out.len8; omega) (by omega) HOk.out.fit W hA hz)
              have T2 := plQ (w := w) (S := S) (B := B) (P := P) (Q := Q) (R := R) (b2 := b2) (K := k) (K' := k + 1) (s := spawnOf s) (l := s.run) (l' := (spawnOf s).run) (a := s.a) (a' := (spawnOf s).a) hlq (fun r v1 v2 v3 u W h1 h2 h3 h4 => (rspawn_any Q R b2 k v1 v2 v3 u r s h1 HOk.out.fit (by omega) (by omega) (by have := HOk.out.len8; omega) W h4 h3).mono fun e w' ⟨he, r', k1, k2, k3⟩ => ⟨he, r', by rw [spawn_a]; exact k1, by omega, k3⟩)
              have HT1 := hide T1
              have HT2 := hide T2
              have ok2 := hide (show Okc (k + 1) (spawnOf s) from HOk.out.spawn.mono (by omega))
              clear T1 T2
              generalize takeH s.a = tH at *
              generalize takeB s.a = bb at *
              have hbb : (bb == bb) = true := by cases bb <;> rfl
              have htH : (tH == tH) = true := by simp
              go_wp2_with fail
              refine (HT1.out _ HP4.out).mono ?_
              rintro e w5 ⟨rfl, hP5⟩
              have HP5 := hide hP5
              clear hP5 HP4 HT1 p0 p1 p2 p3
              go_wp2_with fail
              refine (HT2.out _ HP5.out).mono ?_
              rintro e w6 ⟨rfl, hP6⟩
              have HP6 := hide hP6
              clear hP6 HP5 HT2
              go_wp2_with fail
              go_meet
              exact ⟨rfl, _, ok2.out, HP6.out⟩
            · have e1 : (r8 == 1) = false := by simp [g1]
              clear g1
              by_cases g2 : r8 = 2
              · have e2 : (r8 == 2) = true := by simp [g2]
                clear g2
                have T1 := plS (w := w) (S := S) (B := B) (P := P) (Q := Q) (R := R) (b2 := b2) (K := k) (s := s) (s' := exitOf s t) (l := s.run) (a := s.a) hl (fun v W hA hz => exit_any S B P _ k v s (by omega) HOk.out t HT.out.2 W hA)
                have T2 := plQ (w := w) (S := S) (B := B) (P := P) (Q := Q) (R := R) (b2 := b2) (K := k) (K' := k + 1) (s := exitOf s t) (l := s.run) (l' := (exitOf s t).run) (a := s.a) (a' := (exitOf s t).a) hlq (fun r v1 v2 v3 u W h1 h2 h3 h4 => (rexit_any Q R b2 k v1 v2 v3 u r s h1 HOk.out (by omega) (by omega) t W h4 h3).mono fun e w' ⟨he, r', k1, k2, k3⟩ => ⟨he, r', k1, by omega, k3⟩)
                have HT1 := hide T1
                have HT2 := hide T2
                have ok2 := hide (show Okc (k + 1) (exitOf s t) from HOk.out.exit t)
                clear T1 T2
                generalize isB s.a t = bb at *
                have hbb : (bb == bb) = true := by cases bb <;> rfl
                go_wp2_with fail
                refine (HT1.out _ HP4.out).mono ?_
                rintro e w5 ⟨rfl, hP5⟩
                have HP5 := hide hP5
                clear hP5 HP4 HT1 p0 p1 p2 p3
                go_wp2_with fail
                refine (HT2.out _ HP5.out).mono ?_
                rintro e w6 ⟨rfl, hP6⟩
                have HP6 := hide hP6
                clear hP6 HP5 HT2
                go_wp2_with fail
                go_meet
                exact ⟨rfl, _, ok2.out, HP6.out⟩
              · have e2 : (r8 == 2) = false := by simp [g2]
                clear g2
                by_cases g3 : r8 = 3
                · have e3 : (r8 == 3) = true := by simp [g3]
                  clear g3
                  have T1 := plS (w := w) (S := S) (B := B) (P := P) (Q := Q) (R := R) (b2 := b2) (K := k) (s := s) (s' := yieldOf s t) (l := s.run) (a := s.a) hl (fun v W hA hz => yield_any S B P _ k v s (by omega) HOk.out t HT.out.2 W hA hz)
                  have T2 := plQ (w := w) (S := S) (B := B) (P := P) (Q := Q) (R := R) (b2 := b2) (K := k) (K' := k + 1) (s := yieldOf s t) (l := s.run) (l' := (yieldOf s t).run) (a := s.a) (a' := (yieldOf s t).a) hlq (fun r v1 v2 v3 u W h1 h2 h3 h4 => (ryield_any Q R b2 k v1 v2 v3 u r s h1 HOk.out t W h4 h3).mono fun e w' ⟨he, k3⟩ => ⟨he, r, by rw [yield_a]; exact h1, by omega, k3⟩)
                  have HT1 := hide T1
                  have HT2 := hide T2
                  have ok2 := hide (show Okc (k + 1) (yieldOf s t) from (HOk.out.yield t).mono (by omega))
                  clear T1 T2
                  generalize inB s.run t = bb at *
                  have hbb : (bb == bb) = true := by cases bb <;> rfl
                  go_wp2_with fail
                  refine (HT1.out _ HP4.out).mono ?_
                  rintro e w5 ⟨rfl, hP5⟩
                  have HP5 := hide hP5
                  clear hP5 HP4 HT1 p0 p1 p2 p3
                  go_wp2_with fail
                  refine (HT2.out _ HP5.out).mono ?_
                  rintro e w6 ⟨rfl, hP6⟩
                  have HP6 := hide hP6
                  clear hP6 HP5 HT2
                  go_wp2_with fail
                  go_meet
                  exact ⟨rfl, _, ok2.out, HP6.out⟩
                · have e3 : (r8 == 3) = false := by simp [g3]
                  clear g3
                  by_cases g4 : r8 = 4
                  · have e4 : (r8 == 4) = true := by simp [g4]
                    clear g4
                    have T1 := plS (w := w) (S := S) (B := B) (P := P) (Q := Q) (R := R) (b2 := b2) (K := k) (s := s) (s' := blockOf s t) (l := s.run) (a := s.a) hl (fun v W hA hz => block_any S B P _ v s (by have := HOk.out.len8; omega) HOk.out.nd t W hA)
                    have T2 := plQ (w := w) (S := S) (B := B) (P := P) (Q := Q) (R := R) (b2 := b2) (K := k) (K' := k + 1) (s := blockOf s t) (l := s.run) (l' := (blockOf s t).run) (a := s.a) (a' := (blockOf s t).a) hlq (fun r v1 v2 v3 u W h1 h2 h3 h4 => (rblock_any Q R b2 v1 v2 v3 u r s.run (by have := HOk.out.len8; omega) t W h4 h3).mono fun e w' ⟨he, k3⟩ => ⟨he, r, h1, by omega, k3⟩)
                    have HT1 := hide T1
                    have HT2 := hide T2
                    have ok2 := hide (show Okc (k + 1) (blockOf s t) from (HOk.out.block t).mono (by omega))
                    clear T1 T2
                    generalize inB s.run t = bb at *
                    have hbb : (bb == bb) = true := by cases bb <;> rfl
                    go_wp2_with fail
                    refine (HT1.out _ HP4.out).mono ?_
                    rintro e w5 ⟨rfl, hP5⟩
                    have HP5 := hide hP5
                    clear hP5 HP4 HT1 p0 p1 p2 p3
                    go_wp2_with fail
                    refine (HT2.out _ HP5.out).mono ?_
                    rintro e w6 ⟨rfl, hP6⟩
                    have HP6 := hide hP6
                    clear hP6 HP5 HT2
                    go_wp2_with fail
                    go_meet
                    exact ⟨rfl, _, ok2.out, HP6.out⟩
                  · have e4 : (r8 == 4) = false := by simp [g4]
                    clear g4
                    by_cases g5 : r8 = 5
                    · have e5 : (r8 == 5) = true := by simp [g5]
                      clear g5
                      have T1 := plS (w := w) (S := S) (B := B) (P := P) (Q := Q) (R := R) (b2 := b2) (K := k) (s := s) (s' := readyOf s t) (l := s.run) (a := s.a) hl (fun v W hA hz => ready_any S B P _ k v s (by have := HOk.out.len8; omega) (by omega) HOk.out.fit t HT.out.2 W hA hz)
                      have T2 := plQ (w := w) (S := S) (B := B) (P := P) (Q := Q) (R := R) (b2 := b2) (K := k) (K' := k + 1) (s := readyOf s t) (l := s.run) (l' := (readyOf s t).run) (a := s.a) (a' := (readyOf s t).a) hlq (fun r v1 v2 v3 u W h1 h2 h3 h4 => (rready_any Q R b2 v1 v2 v3 u r s h1 (by have := HOk.out.len8; omega) t W h4 h3).mono fun e w' ⟨he, k3⟩ => ⟨he, r, by rw [ready_a]; exact h1, by omega, k3⟩)
                      have HT1 := hide T1
                      have HT2 := hide T2
                      have ok2 := hide (show Okc (k + 1) (readyOf s t) from (HOk.out.ready t).mono (by omega))
                      clear T1 T2
                      generalize readyB s t = bb at *
                      have hbb : (bb == bb) = true := by cases bb <;> rfl
                      go_wp2_with fail
                      refine (HT1.out _ HP4.out).mono ?_
                      rintro e w5 ⟨rfl, hP5⟩
                      have HP5 := hide hP5
                      clear hP5 HP4 HT1 p0 p1 p2 p3
                      go_wp2_with fail
                      refine (HT2.out _ HP5.out).mono ?_
                      rintro e w6 ⟨rfl, hP6⟩
                      have HP6 := hide hP6
                      clear hP6 HP5 HT2
                      go_wp2_with fail
                      go_meet
                      exact ⟨rfl, _, ok2.out, HP6.out⟩
                    · have e5 : (r8 == 5) = false := by simp [g5]
                      clear g5
                      have T1 : ∀ W, PlA w S B P Q R b2 k s s.run s.a W → Calls Try.prog 22 #[.pointer (some ⟨S, 0, none⟩), .int .i64 h] W fun e w' => e = .returned (.tuple #[.int .i64 (pickH s h), .bool (pickB s h)]) ∧ w' = W := fun W hp => by
                        obtain ⟨_, v, _, _, _, _, _, _, h3, _⟩ := hp
                        exact pick_any S B P _ v s (by have := HOk.out.len8; omega) h HH.out W h3.s
                      have T2 : ∀ W, PlA w S B P Q R b2 k s s.run s.a W → Calls Try.prog 23 #[.pointer (some ⟨Q, 0, none⟩), .int .i64 h] W fun e w' => e = .returned (.tuple #[.int .i64 (pickH s h), .bool (pickB s h)]) ∧ w' = W := fun W hp => by
                        obtain ⟨r, _, v1, v2, v3, u, _, _, h3, _⟩ := hp
                        exact rpick_any Q R b2 v1 v2 v3 u r s h HH.out W h3.q
                      have HT1 := hide T1
                      have HT2 := hide T2
                      have ok2 := hide (show Okc (k + 1) s from HOk.out.mono (by omega))
                      have HP5 := hide (HP4.out.mono (K' := k + 1) (by omega))
                      clear T1 T2
                      generalize pickH s h = tH at *
                      generalize pickB s h = bb at *
                      have hbb : (bb == bb) = true := by cases bb <;> rfl
                      have htH : (tH == tH) = true := by simp
                      go_wp2_with fail
                      refine (HT1.out _ HP4.out).mono ?_
                      rintro e w5 ⟨rfl, hw5⟩
                      subst hw5
                      go_wp2_with fail
                      refine (HT2.out _ HP4.out).mono ?_
                      rintro e w6 ⟨rfl, hw6⟩
                      subst hw6
                      go_wp2_with fail
                      go_meet
                      exact ⟨rfl, s, ok2.out, HP5.out⟩
        case rest =>
          clear HP4 p0 p1 p2 p3
          obtain ⟨rfl, s2, hok2, hpl2⟩ := hcut
          have HOk2 := hide hok2
          have HP2 := hide hpl2
          obtain ⟨r, v, v1, v2, v3, u, hsim, hbk, hPQ, hbw⟩ := hpl2
          obtain ⟨au, cu, huv⟩ := owns_slice hPQ.q.ro
          subst huv
          have hro := hPQ.q.ro
          obtain ⟨z0, z1, _⟩ := hPQ.q.cells
          have hQl := hPQ.q.ltQ
          have HC : Hid (∀ W, Below wc.heap.size wc W → W.cell? ⟨Q, 0, none⟩ = some (.pointer (some ⟨R, 0, none⟩)) ∧ W.cell? ⟨Q, 1, none⟩ = some (.slice au s2.run.length cu)) := fun W hW => ⟨(hW.cell (p := ⟨Q, _, none⟩) hQl).trans z0, (hW.cell (p := ⟨Q, _, none⟩) hQl).trans z1⟩
          have HRun := hide (row_on (W0 := wc) (fun W hW => run_any S B P _ v s2 (by have := hok2.len8; omega) W (hPQ.s.below hW)))
          have HTk := hide (row_on (W0 := wc) (fun W hW => tasks_any S B P _ (k + 1) v s2 (by omega) hok2.fit W (hPQ.s.below hW)))
          have Lv : ∀ W, Below wc.heap.size wc W → Calls Try.prog 11 #[.pointer (some ⟨R, 0, none⟩)] W fun e w' => Owned (liveTo s2.a s2.a.n) W e w' := fun W hW => by
            have := refLive_any R b2 v1 v2 v3 r (by rw [hsim.nl]; exact hsim.n16) W (hPQ.q.below hW).ar
            rw [hsim.nl, ← hsim.live s2.a.n (Nat.le_refl _)] at this
            exact this
          have HLv := hide (row_on2 Lv)
          have HI1 : Hid (∀ W a c, W.ownsRow wc.heap.size 3 1 (.slice a s2.run.length c) s2.run.length (cI s2.run) → Below wc.heap.size wc W → Calls Try.prog 24 #[.slice a s2.run.length c, .slice au s2.run.length cu] W fun e w' => e = .returned (.bool true) ∧ Below wc.heap.size wc w') :=
            fun W a c ho hW => ints_on (by have := hok2.len8; omega) W a c au cu _ _ ho (owns_below hro hW) hW
          have HI2 : Hid (∀ W a c a' c', W.ownsRow wc.heap.size 3 1 (.slice a (liveTo s2.a s2.a.n).length c) (liveTo s2.a s2.a.n).length (cI (liveTo s2.a s2.a.n)) → W.ownsRow wc.heap.size 3 1 (.slice a' (liveTo s2.a s2.a.n).length c') (liveTo s2.a s2.a.n).length (cI (liveTo s2.a s2.a.n)) → Below wc.heap.size wc W → Calls Try.prog 24 #[.slice a (liveTo s2.a s2.a.n).length c, .slice a' (liveTo s2.a s2.a.n).length c'] W fun e w' => e = .returned (.bool true) ∧ Below wc.heap.size wc w') :=
            fun W a c a' c' ho ho' hW => ints_on (by have := liveTo_len s2.a s2.a.n; have := hok2.n8; omega) W a c a' c' _ _ ho ho' hW
          have P1 : ∀ W, Below wc.heap.size wc W → Calls Try.prog 27 #[.pointer (some ⟨S, 0, none⟩), .int .i64 t] W fun e w' => e = .returned (.int .i64 (placeOf s2.a t)) ∧ w' = W := fun W hW => place_sany S B P _ (k + 1) v s2 t HT.out.2 (by omega) hok2.fit W (hPQ.s.below hW)
          have P2 : ∀ W, Below wc.heap.size wc W → Calls Try.prog 28 #[.pointer (some ⟨R, 0, none⟩), .int .i64 t] W fun e w' => e = .returned (.int .i64 (placeOf s2.a t)) ∧ w' = W := fun W hW => by
            have := refPlace_any R b2 v1 v2 v3 r t (by rw [hsim.nl]; exact hsim.n16) W (hPQ.q.below hW).ar
            rw [← hsim.place t] at this
            exact this
          generalize placeOf s2.a t = pl at P1 P2
          have HPl1 := hide P1
          have HPl2 := hide P2
          generalize liveTo s2.a s2.a.n = L at *
          generalize hrn : s2.run = l at *
          have HRn := hide hrn
          have hpp : (pl != pl) = false := by simp
          have HB0 : Hid (Below wc.heap.size wc wc) := Below.refl _ _
          have HB1 := hide (below_drew1 wc)
          clear hok2 hsim hbk hPQ hbw hro Lv P1 P2 hQl hrn
          go_wp2_with fail
          go_region_held3 (fun w' => w'.cell? ⟨Q, 0, none⟩ = some (.pointer (some ⟨R, 0, none⟩)) ∧ w'.cell? ⟨Q, 1, none⟩ = some (.slice au l.length cu)) (first | (constructor <;> assumption) | go_keep) (first
            | (go_at_call 25; (with_reducible refine (HRun.out _ (by first | exact HB1.out | exact HB0.out)).mono ?_); rintro e w13 ⟨a3, k3, rfl, ho3, hb3⟩; obtain ⟨y0, y1⟩ := HC.out _ hb3)
            | (go_at_call 24; (with_reducible refine (HI1.out _ _ _ ho3 hb3).mono ?_); rintro e w14 ⟨rfl, hb4⟩; obtain ⟨m0, m1⟩ := HC.out _ hb4)
            | (go_at_call 26; (with_reducible refine (HTk.out _ hb4).mono ?_); rintro e w15 ⟨a5, k5, rfl, ho5, hb5⟩; obtain ⟨n0, n1⟩ := HC.out _ hb5)
            | (go_at_call 11; (with_reducible refine (HLv.out _ hb5).mono ?_); rintro e w16 ⟨a6, k6, rfl, ho6, hb6, hb65⟩; have ho5' := owns_below ho5 hb65; obtain ⟨o0, o1⟩ := HC.out _ hb6)
            | (go_at_call 24; (with_reducible refine (HI2.out _ _ _ _ _ ho5' ho6 hb6).mono ?_); rintro e w17 ⟨rfl, hb7⟩; obtain ⟨j0, j1⟩ := HC.out _ hb7)
            | (go_at_call 27; (with_reducible refine (HPl1.out _ hb7).mono ?_); rintro e w18 ⟨rfl, hw18⟩; have hw18' := hw18.symm; clear hw18; subst hw18')
            | (go_at_call 28; (with_reducible refine (HPl2.out _ hb7).mono ?_); rintro e w19 ⟨rfl, hw19⟩; have hw19' := hw19.symm; clear hw19; subst hw19'))
          have HPf := hide (HP2.out.below hb7)
          clear hb3 hb4 hb5 hb6 hb65 hb7 ho3 ho5 ho5' ho6 y0 y1 m0 m1 n0 n1 o0 o1 j0 j1 HRun HTk HLv HI1 HI2 HPl1 HPl2 HB0 HB1 HC HP2 z0 z1
          go_wp2
          go_roundw
          case rel => exact ⟨k + 1, by omega, by omega, by go_num, s2, HOk2.out, by rw [HRn.out]; exact HPf.out⟩
          case measure => simp [intOf]; omega
    · by_cases hk1 : k < len
      all_goals
        have hk1' := hk1
        go_wp2_with fail
        refine (sawake_any _).mono ?_
        rintro e w2 ⟨rfl, hb2⟩
        have HB := hide (HPl.out.below hb2)
        go_wp2
        go_ret
        obtain ⟨_, _, _, _, _, _, _, _, _, h4⟩ := HB.out
        exact ⟨rfl, h4⟩

end Go.Proofs.Ytngaecfainhjcaa
