/-
  The walk of the law SchedRuns: those that can run are tasks that there are, each once.
-/
import Derived.Test.YtngaecfainhjcaaSWho
import Derived.Deep.RegionHeld3
namespace Go.Proofs.Ytngaecfainhjcaa
open Go.RowKit A

theorem live_le {K : Nat} {s : Ar} (hf : Fit K s) : ∀ k, k ≤ s.n → ∀ x ∈ liveTo s k, x ≤ 17 + 16 * K
  | 0, _, x, hx => by simp [liveTo] at hx
  | k + 1, hk, x, hx => by
    unfold liveTo at hx
    rcases List.mem_append.1 hx with h | h
    · exact live_le hf k (by omega) x h
    · split at h
      · simp at h
        have h1 := hf.n16
        have h2 := hf.backs k (by omega)
        subst h
        unfold hd
        omega
      · simp at h
theorem live_le' {K : Nat} {s : Ar} (hf : Fit K s) (hK : K ≤ 1000000) : ∀ j, j < (liveTo s s.n).length → ((gs_ (liveTo s s.n) j : Nat) : Int) ≤ 9223372036854775807 := fun j hj => by
  have := live_le hf s.n (Nat.le_refl _) _ (gs_mem hj)
  omega
theorem nodup_ne {l : List Nat} (h : l.Nodup) {a b : Nat} (hab : a < b) (hb : b < l.length) : gs_ l a ≠ gs_ l b := by
  have h2 := List.pairwise_iff_getElem.1 h a b (by omega) hb hab
  simpa [gs_, hb, show a < l.length by omega] using h2
theorem below_drew1 (w : World) : Below w.heap.size w w.drew := ⟨rfl, rfl, rfl, Nat.le_refl _, fun _ _ => rfl⟩

/-- What an act makes of the tasks. -/
def RunsAt (w : World) (S B P K : Nat) (wr : World) : Prop := ∃ s v, Okc K s ∧ AtS wr S B P w.heap.size v s ∧ Below w.heap.size w wr

/-- The tasks that there are, and the one of an act, with all that lies there kept. -/
theorem tasks_on {w wr : World} {S B P K : Nat} {v : Value} {s : Sc} (hK : K ≤ 1000000) (hf : Fit K s.a) (hA : AtS wr S B P w.heap.size v s) :
    ∀ W, Below wr.heap.size wr W → Calls Try.prog 26 #[.pointer (some ⟨S, 0, none⟩)] W fun e w' => ∃ a c, e = .returned (.slice a (liveTo s.a s.a.n).length c) ∧ w'.ownsRow wr.heap.size 3 1 (.slice a (liveTo s.a s.a.n).length c) (liveTo s.a s.a.n).length (cI (liveTo s.a s.a.n)) ∧ Below wr.heap.size wr w' := fun W hW => by
  refine (tasks_any S B P w.heap.size K v s hK hf W (hA.below hW)).mono ?_
  rintro e w' ⟨u, rfl, ho, hb⟩
  obtain ⟨a, c, rfl⟩ := owns_slice ho
  exact ⟨a, c, rfl, owns_base ho hW.size, below_next hW hb⟩
theorem who_on {wr : World} {d h nn : Int} (hh : -9223372036854775808 ≤ h ∧ h ≤ 9223372036854775807) (hnn : 0 ≤ nn ∧ nn ≤ 255) {L : List Nat} (hL : ∀ j, j < L.length → ((gs_ L j : Nat) : Int) ≤ 9223372036854775807) :
    ∀ W a c, W.ownsRow wr.heap.size 3 1 (.slice a L.length c) L.length (cI L) → Below wr.heap.size wr W → Calls Try.prog 10 #[.agg #[.int .u8 d, .int .i64 h, .int .u8 nn], .slice a L.length c] W fun e w' => ∃ t : Int, e = .returned (.int .i64 t) ∧ (-9223372036854775808 ≤ t ∧ t ≤ 9223372036854775807) ∧ Below wr.heap.size wr w' := fun W a c ho hW => by
  refine (who_any d h nn hh hnn wr.heap.size _ L hL W ho).mono ?_
  rintro e w' ⟨⟨t, rfl, ht⟩, hb⟩
  exact ⟨t, rfl, ht, below_next hW hb⟩

set_option maxHeartbeats 8000000 in
set_option maxRecDepth 100000 in
theorem schedRuns_walk (x : Int) (hx : 0 ≤ x ∧ x ≤ 255) (ad : Option Addr) (len cap : Nat) (hcap : len ≤ cap) (hmax : cap ≤ maxLen) (w : World) (hact : Acts w ad len) :
    Calls Try.prog 4 #[.int .u8 x, .slice ad len cap] w fun e w' => e = .returned (.bool true) ∧ Below w.heap.size w w' := by
  have hlen63 : len ≤ 9223372036854775807 := by unfold maxLen at hmax; omega
  clear hmax
  have HAC := hide hact
  clear hact
  obtain ⟨m, hm, hm8, hmw, hm64⟩ := u8_mod hx 10 (by omega) (by omega)
  have hm' : x.tmod 10 = (m : Int) := hm
  have N0 := hide (snew_any (m : Int) w)
  have K0 := hide (ok_newS (m : Int))
  clear hm hm8 hx
  go_enter Try.func4, Try.ntmps4
  go_wp2_with fail
  clear hm' hmw hm64
  refine N0.out.mono ?_
  rintro e w1 ⟨S, B, P, v, rfl, hl, hA, hb⟩
  have HR := hide (show RunsAt w S B P 0 w1 from ⟨_, v, K0.out, hA, hb⟩)
  clear hA hb N0 K0
  go_wp2
  go_loopw [6] (fun i wr => ∃ k : Nat, k ≤ len ∧ k ≤ 50 ∧ i = .int .i64 k ∧ RunsAt w S B P k wr) (fun i _ => len - (intOf i).toNat)
  case atStart => exact ⟨0, Nat.zero_le _, Nat.zero_le _, rfl, HR.out⟩
  case round =>
    clear HR
    obtain ⟨k, hk, hk50, rfl, s, v, hok, hA, hb⟩ := hrel
    have HA := hide hA
    have HOk := hide hok
    by_cases hlt : k < len ∧ k < 50
    · obtain ⟨hk1, hk2⟩ := hlt
      have hk1' : (k : Int) < (len : Int) := by omega
      have hk2' : (k : Int) < 50 := by omega
      obtain ⟨b, off, d, h, nn, rfl, hbw, q0, q1, q2, hd255, hh64, hn255⟩ := HAC.out k hk1
      have c0 : wr.cell? ⟨b, off + k * 3, none⟩ = some (.int .u8 d) := (hb.cell (p := ⟨b, _, none⟩) hbw).trans q0
      have c1 : wr.cell? ⟨b, off + k * 3 + 1, none⟩ = some (.int .i64 h) := (hb.cell (p := ⟨b, _, none⟩) hbw).trans q1
      have c2 : wr.cell? ⟨b, off + k * 3 + 2, none⟩ = some (.int .u8 nn) := (hb.cell (p := ⟨b, _, none⟩) hbw).trans q2
      have hbr : b < wr.heap.size := Nat.lt_of_lt_of_le hbw hb.size
      have HC : Hid (∀ W, Below wr.heap.size wr W → W.cell? ⟨b, off + k * 3, none⟩ = some (.int .u8 d) ∧ W.cell? ⟨b, off + k * 3 + 1, none⟩ = some (.int .i64 h) ∧ W.cell? ⟨b, off + k * 3 + 2, none⟩ = some (.int .u8 nn)) :=
        fun W hW => ⟨(hW.cell (p := ⟨b, _, none⟩) hbr).trans c0, (hW.cell (p := ⟨b, _, none⟩) hbr).trans c1, (hW.cell (p := ⟨b, _, none⟩) hbr).trans c2⟩
      have T := tasks_on (by omega) hok.fit hA
      have Wh := who_on (wr := wr) (d := d) hh64 hn255 (live_le' hok.fit (by omega))
      generalize liveTo s.a s.a.n = L at T Wh
      have HT := hide T
      have HW := hide Wh
      have hb0 : Below wr.heap.size wr wr := Below.refl _ _
      have hb1 := below_drew1 wr
      have HB0 := hide hb0
      have HB1 := hide hb1
      have HB := hide hb
      have HD : Hid (0 ≤ d ∧ d ≤ 255) := hd255
      clear hA hok T Wh q0 q1 q2 hb0 hb1 hb hh64 hn255 hd255 hbw hbr
      go_wp2_with fail
      go_region_held3 (fun w' => w'.cell? ⟨b, off + k * 3, none⟩ = some (.int .u8 d) ∧ w'.cell? ⟨b, off + k * 3 + 1, none⟩ = some (.int .i64 h) ∧ w'.cell? ⟨b, off + k * 3 + 2, none⟩ = some (.int .u8 nn)) (first | (refine ⟨?_, ?_, ?_⟩ <;> assumption) | go_keep) (first | (go_at_call 26; refine (HT.out _ (by first | exact HB1.out | exact HB0.out)).mono ?_; rintro e w3 ⟨a3, c3, rfl, ho3, hb3⟩; obtain ⟨z0, z1, z2⟩ := HC.out _ hb3) | (go_at_call 10; refine (HW.out _ _ _ ho3 hb3).mono ?_; rintro e w4 ⟨t, rfl, ht, hb4⟩; obtain ⟨y0, y1, y2⟩ := HC.out _ hb4))
      have hb5 := below_next HB.out hb4
      have HA4 := hide (HA.out.below hb4)
      have HT2 := hide ht
      obtain ⟨r6, hr6⟩ : ∃ r6 : Int, d.tmod 6 = r6 := ⟨_, rfl⟩
      clear HC HT HW HB0 HB1 HB hb3 ho3 hb4 z0 z1 z2 c0 c1 c2
      by_cases g0 : r6 = 0
      · have e0 : (r6 == 0) = true := by simp [g0]
        clear g0
        have C1 := spawn_any S B P _ k v s (by have := HOk.out.len8; omega) (by omega) HOk.out.fit w4 HA4.out hb5.size
        have HC1 := hide C1
        have ok2 := hide (show Okc (k + 1) (spawnOf s) from HOk.out.spawn.mono (by omega))
        clear C1
        generalize takeH s.a = tH at *
        generalize takeB s.a = tB at *
        go_wp2_with fail
        refine HC1.out.mono ?_
        rintro e w5 ⟨rfl, hN⟩
        have hst := hN.step HA4.out hl hb5
        obtain ⟨⟨v5, hA5⟩, hb6⟩ := hst
        have HF := hide (show RunsAt w S B P (k + 1) w5 from ⟨_, v5, ok2.out, hA5, hb6⟩)
        clear hN hA5 hb6 HC1 HA4 HA
        go_wp2
        go_roundw
        case rel => exact ⟨k + 1, by omega, by omega, by go_num, HF.out⟩
        case measure => simp [intOf]; omega
      · have e0 : (r6 == 0) = false := by simp [g0]
        clear g0
        by_cases g1 : r6 = 1
        · have e1 : (r6 == 1) = true := by simp [g1]
          clear g1
          have C1 := spawn_any S B P _ k v s (by have := HOk.out.len8; omega) (by omega) HOk.out.fit w4 HA4.out hb5.size
          have HC1 := hide C1
          have ok2 := hide (show Okc (k + 1) (spawnOf s) from HOk.out.spawn.mono (by omega))
          clear C1
          generalize takeH s.a = tH at *
          generalize takeB s.a = tB at *
          go_wp2_with fail
          refine HC1.out.mono ?_
          rintro e w5 ⟨rfl, hN⟩
          have hst := hN.step HA4.out hl hb5
          obtain ⟨⟨v5, hA5⟩, hb6⟩ := hst
          have HF := hide (show RunsAt w S B P (k + 1) w5 from ⟨_, v5, ok2.out, hA5, hb6⟩)
          clear hN hA5 hb6 HC1 HA4 HA
          go_wp2
          go_roundw
          case rel => exact ⟨k + 1, by omega, by omega, by go_num, HF.out⟩
          case measure => simp [intOf]; omega
        · have e1 : (r6 == 1) = false := by simp [g1]
          clear g1
          by_cases g2 : r6 = 2
          · have e2 : (r6 == 2) = true := by simp [g2]
            clear g2
            have C1 := exit_any S B P _ k v s (by omega) HOk.out t ht.2 w4 HA4.out
            have HC1 := hide C1
            have ok2 := hide (show Okc (k + 1) (exitOf s t) from HOk.out.exit t)
            clear C1
            generalize isB s.a t = bb at *
            go_wp2_with fail
            refine HC1.out.mono ?_
            rintro e w5 ⟨rfl, hN⟩
            have hst := hN.step HA4.out hl hb5
            obtain ⟨⟨v5, hA5⟩, hb6⟩ := hst
            have HF := hide (show RunsAt w S B P (k + 1) w5 from ⟨_, v5, ok2.out, hA5, hb6⟩)
            clear hN hA5 hb6 HC1 HA4 HA
            go_wp2
            go_roundw
            case rel => exact ⟨k + 1, by omega, by omega, by go_num, HF.out⟩
            case measure => simp [intOf]; omega
          · have e2 : (r6 == 2) = false := by simp [g2]
            clear g2
            by_cases g3 : r6 = 3
            · have e3 : (r6 == 3) = true := by simp [g3]
              clear g3
              have C1 := yield_any S B P _ k v s (by omega) HOk.out t ht.2 w4 HA4.out hb5.size
              have HC1 := hide C1
              have ok2 := hide (show Okc (k + 1) (yieldOf s t) from (HOk.out.yield t).mono (by omega))
              clear C1
              generalize inB s.run t = bb at *
              go_wp2_with fail
              refine HC1.out.mono ?_
              rintro e w5 ⟨rfl, hN⟩
              have hst := hN.step HA4.out hl hb5
              obtain ⟨⟨v5, hA5⟩, hb6⟩ := hst
              have HF := hide (show RunsAt w S B P (k + 1) w5 from ⟨_, v5, ok2.out, hA5, hb6⟩)
              clear hN hA5 hb6 HC1 HA4 HA
              go_wp2
              go_roundw
              case rel => exact ⟨k + 1, by omega, by omega, by go_num, HF.out⟩
              case measure => simp [intOf]; omega
            · have e3 : (r6 == 3) = false := by simp [g3]
              clear g3
              by_cases g4 : r6 = 4
              · have e4 : (r6 == 4) = true := by simp [g4]
                clear g4
                have C1 := block_any S B P _ v s (by have := HOk.out.len8; omega) HOk.out.nd t w4 HA4.out
                have HC1 := hide C1
                have ok2 := hide (show Okc (k + 1) (blockOf s t) from (HOk.out.block t).mono (by omega))
                clear C1
                generalize inB s.run t = bb at *
                go_wp2_with fail
                refine HC1.out.mono ?_
                rintro e w5 ⟨rfl, hN⟩
                have hst := hN.step HA4.out hl hb5
                obtain ⟨⟨v5, hA5⟩, hb6⟩ := hst
                have HF := hide (show RunsAt w S B P (k + 1) w5 from ⟨_, v5, ok2.out, hA5, hb6⟩)
                clear hN hA5 hb6 HC1 HA4 HA
                go_wp2
                go_roundw
                case rel => exact ⟨k + 1, by omega, by omega, by go_num, HF.out⟩
                case measure => simp [intOf]; omega
              · have e4 : (r6 == 4) = false := by simp [g4]
                clear g4
                have C1 := ready_any S B P _ k v s (by have := HOk.out.len8; omega) (by omega) HOk.out.fit t ht.2 w4 HA4.out hb5.size
                have HC1 := hide C1
                have ok2 := hide (show Okc (k + 1) (readyOf s t) from (HOk.out.ready t).mono (by omega))
                clear C1
                generalize readyB s t = bb at *
                go_wp2_with fail
                refine HC1.out.mono ?_
                rintro e w5 ⟨rfl, hN⟩
                have hst := hN.step HA4.out hl hb5
                obtain ⟨⟨v5, hA5⟩, hb6⟩ := hst
                have HF := hide (show RunsAt w S B P (k + 1) w5 from ⟨_, v5, ok2.out, hA5, hb6⟩)
                clear hN hA5 hb6 HC1 HA4 HA
                go_wp2
                go_roundw
                case rel => exact ⟨k + 1, by omega, by omega, by go_num, HF.out⟩
                case measure => simp [intOf]; omega
    · obtain ⟨a, l⟩ := s
      have hl8 : l.length ≤ 8 := hok.len8
      have hnd : l.Nodup := hok.nd
      have hlen : l.length ≤ (liveTo a a.n).length := hok.len
      have hll : (liveTo a a.n).length ≤ 8 := Nat.le_trans (liveTo_len _ _) hok.n8
      have R : Hid (∀ W, AtS W S B P w.heap.size v ⟨a, l⟩ → Calls Try.prog 25 #[.pointer (some ⟨S, 0, none⟩)] W fun e w' => Owned l W e w') := fun W h => run_any S B P _ v ⟨a, l⟩ (by show l.length ≤ 1000; omega) W h
      have HT : Hid (∀ W, AtS W S B P w.heap.size v ⟨a, l⟩ → Calls Try.prog 26 #[.pointer (some ⟨S, 0, none⟩)] W fun e w' => Owned (liveTo a a.n) W e w') := fun W h => tasks_any S B P _ k v ⟨a, l⟩ (by omega) hok.fit W h
      have HP : Hid (∀ q : Nat, q < l.length → ∀ W, AtS W S B P w.heap.size v ⟨a, l⟩ → Calls Try.prog 22 #[.pointer (some ⟨S, 0, none⟩), .int .i64 (q : Int)] W fun e w' => e = .returned (.tuple #[.int .i64 ((gs_ l q : Nat) : Int), .bool true]) ∧ w' = W) := fun q hq W h => by
        have h2 : (0 : Int) ≤ (q : Int) ∧ (q : Int) < ((Sc.run ⟨a, l⟩).length : Int) := ⟨by omega, by show (q : Int) < (l.length : Int); omega⟩
        have := pick_any S B P _ v ⟨a, l⟩ (by show l.length ≤ 1000; omega) (q : Int) (by omega) W h
        rw [show pickH ⟨a, l⟩ (q : Int) = ((gs_ l q : Nat) : Int) from if_pos h2, show pickB ⟨a, l⟩ (q : Int) = true from decide_eq_true h2] at this
        exact this
      have HPl : Hid (∀ q : Nat, q < l.length → ∀ W, AtS W S B P w.heap.size v ⟨a, l⟩ → Calls Try.prog 27 #[.pointer (some ⟨S, 0, none⟩), .int .i64 ((gs_ l q : Nat) : Int)] W fun e w' => (∃ pl : Nat, e = .returned (.int .i64 (pl : Int))) ∧ w' = W) := fun q hq W h => by
        have hh : hits a ((gs_ l q : Nat) : Int) := hok.live _ (gs_mem hq)
        have := place_sany S B P _ k v ⟨a, l⟩ ((gs_ l q : Nat) : Int) (hits_le hh hok.fit (by omega)) (by omega) hok.fit W h
        rw [show placeOf (Sc.a ⟨a, l⟩) ((gs_ l q : Nat) : Int) = ((kOf ((gs_ l q : Nat) : Int) : Nat) : Int) from place_hit hh] at this
        exact this.mono fun e w' ⟨h1, h2⟩ => ⟨⟨_, h1⟩, h2⟩
      have HP1 : Hid (∀ n : Int, (n < 0 ∨ (l.length : Int) ≤ n) → (-9223372036854775808 ≤ n ∧ n ≤ 9223372036854775807) → ∀ W, AtS W S B P w.heap.size v ⟨a, l⟩ → Calls Try.prog 22 #[.pointer (some ⟨S, 0, none⟩), .int .i64 n] W fun e w' => e = .returned (.tuple #[.int .i64 0, .bool false]) ∧ w' = W) := fun n hn hb W h => by
        have h2 : ¬ ((0 : Int) ≤ n ∧ n < ((Sc.run ⟨a, l⟩).length : Int)) := by show ¬ ((0 : Int) ≤ n ∧ n < (l.length : Int)); omega
        have := pick_any S B P _ v ⟨a, l⟩ (by show l.length ≤ 1000; omega) n hb W h
        rw [show pickH ⟨a, l⟩ n = 0 from if_neg h2, show pickB ⟨a, l⟩ n = false from decide_eq_false h2] at this
        exact this
      have HNd := hide hnd
      clear hok hA HOk hnd
      by_cases hk1 : k < len
      all_goals
        have hk1' := hk1
        go_wp2_with fail
        refine (R.out _ HA.out).mono ?_
        rintro e w3 ⟨r, rfl, ho, hb3⟩
        obtain ⟨ar, cr, hrv⟩ := owns_slice ho
        subst hrv
        have HS := hide (HA.out.beside ho hb3 hb.size)
        have hb4 := below_next hb hb3
        have HB4 := hide hb4
        clear ho hb3 HA hb hb4
        go_wp2
        go_loopw [9] (fun i wr => ∃ q : Nat, q ≤ l.length ∧ i = .int .i64 q ∧ Below w3.heap.size w3 wr) (fun i _ => l.length - (intOf i).toNat)
        case atStart => exact ⟨0, Nat.zero_le _, rfl, Below.refl _ _⟩
        case round =>
          obtain ⟨q, hq, rfl, hnx⟩ := hrel
          have HS2 := hide (HS.out.below hnx)
          have HNX := hide hnx
          clear hnx
          by_cases hlq : q < l.length
          · have hlq' : (q : Int) < (l.length : Int) := by omega
            have hq0 : (0 : Int) ≤ (q : Int) := by omega
            obtain ⟨g, c, hv, _, _, hcell, _⟩ := row_open HS2.out.ro (by omega)
            simp only [Value.slice.injEq, true_and] at hv
            obtain ⟨rfl, rfl⟩ := hv
            obtain ⟨q1, _⟩ := hcell q hlq
            have P1 := hide (HP.out q hlq _ HS2.out.s)
            have P2 := hide (HPl.out q hlq _ HS2.out.s)
            have HNe : Hid (∀ p, p < q → gs_ l p ≠ gs_ l q) := fun p hp => nodup_ne HNd.out hp hlq
            clear hcell
            generalize hX : gs_ l q = X at *
            have HX := hide hX
            clear hX
            have hXX : ((X : Int) != (X : Int)) = false := by simp
            go_wp2_with fail
            refine P1.out.mono ?_
            rintro e w5 ⟨rfl, hw5⟩
            subst hw5
            go_wp2_with fail
            refine P2.out.mono ?_
            rintro e w5 ⟨⟨pl, rfl⟩, hw5⟩
            subst hw5
            have hpl : ¬ (pl : Int) < 0 := by omega
            clear P1 P2
            go_wp2
            go_loopw [12] (fun i wr => ∃ p : Nat, p ≤ q ∧ i = .int .i64 p ∧ Below w3.heap.size w3 wr) (fun i _ => q - (intOf i).toNat)
            case atStart => exact ⟨0, Nat.zero_le _, rfl, HNX.out⟩
            case round =>
              clear q1
              obtain ⟨p, hp, rfl, hnx⟩ := hrel
              by_cases hlp : p < q
              · have hlp' : (p : Int) < (q : Int) := by omega
                have hp0 : (0 : Int) ≤ (p : Int) := by omega
                have hpl' : (p : Int) < (l.length : Int) := by omega
                obtain ⟨g2, c2, hv2, _, _, hcell, _⟩ := row_open (HS.out.below hnx).ro (by omega)
                simp only [Value.slice.injEq, true_and] at hv2
                obtain ⟨hv2a, rfl⟩ := hv2
                obtain rfl : g = g2 := by simpa using hv2a
                obtain ⟨z1, _⟩ := hcell q hlq
                obtain ⟨z2, _⟩ := hcell p (by omega)
                have hne := HNe.out p hlp
                rw [HX.out] at z1
                clear hcell
                generalize gs_ l p = Y at *
                have hne' : ((Y : Int) == (X : Int)) = false := beq_eq_false_iff_ne.2 (fun e => hne (by omega))
                have hnx2 := hide hnx
                clear hne hnx
                go_wp2_with fail
                go_quiet (fail)
                go_wp2
                go_roundw
                case rel => exact ⟨p + 1, by omega, by go_num, hnx2.out.trans ((A.below_drewN _ _).mono hnx2.out.size)⟩
                case measure => simp [intOf]; omega
              · have hlp' : ¬ (p : Int) < (q : Int) := by omega
                go_wp2
                go_roundw
                case rel => exact ⟨q + 1, by omega, by go_num, hnx⟩
                case measure => simp [intOf]; omega
          · have hlq' : ¬ (q : Int) < (l.length : Int) := by omega
            go_wp2_with fail
            refine (HP1.out (l.length : Int) (Or.inr (Int.le_refl _)) (by omega) _ HS2.out.s).mono ?_
            rintro e w5 ⟨rfl, hw5⟩
            subst hw5
            go_wp2_with fail
            refine (HP1.out (-1) (Or.inl (by decide)) (by decide) _ HS2.out.s).mono ?_
            rintro e w5 ⟨rfl, hw5⟩
            subst hw5
            go_wp2_with fail
            refine (sawake_any _).mono ?_
            rintro e w6 ⟨rfl, hb6⟩
            have HS6 := hide (HS2.out.below hb6)
            have hb7 := below_next (below_next HB4.out HNX.out) hb6
            have HB7 := hide hb7
            clear hb6 hb7 HS2
            go_wp2_with fail
            refine (HT.out _ HS6.out.s).mono ?_
            rintro e w7 ⟨u7, rfl, ho7, hb8⟩
            obtain ⟨a7, c7, hv7⟩ := owns_slice ho7
            subst hv7
            have HS7 := hide (HS6.out.below hb8)
            have HB9 := hide (below_next HB7.out hb8)
            have hle : ((l.length : Nat) : Int) ≤ (((liveTo a a.n).length : Nat) : Int) := by omega
            clear ho7 hb8 HS6 HB7
            go_wp2_with fail
            refine (HT.out _ HS7.out.s).mono ?_
            rintro e w8 ⟨u8, rfl, ho8, hb10⟩
            obtain ⟨a8, c8, hv8⟩ := owns_slice ho8
            subst hv8
            have HB11 := hide (below_next HB9.out hb10)
            have hle8 : (((liveTo a a.n).length : Nat) : Int) ≤ 8 := by omega
            clear ho8 hb10 HS7 HB9
            go_wp2
            go_ret
            refine ⟨?_, HB11.out⟩
            simp

end Go.Proofs.Ytngaecfainhjcaa
