/-
  The walk of the law ArenaStale.
-/
import Derived.Test.YtceghlmleamlgaaMem
import Derived.Deep.RegionHeld3
import Derived.Deep.DeepCutAuto
import Derived.Deep.DrawnRows
namespace Go.Proofs.Ytceghlmleamlgaa
open Go.RowKit
attribute [local go_sem ↓] Go.wp_at_zero Go.wp_at_succ

theorem newN_le (m : Nat) : newN (m : Int) ≤ 16 ∧ newN (m : Int) ≤ m := by unfold newN; omega

theorem takeOf_n (s : Ar) : (takeOf s).n = s.n := by unfold takeOf; split <;> rfl
theorem freeOf_n (s : Ar) (h : Int) : (freeOf s h).n = s.n := by unfold freeOf freeAt; split <;> (try split) <;> rfl

theorem Hist.small {s : Ar} {gs : List Nat} {bk : List Bool} {K : Nat} (h : Hist s gs bk) (hf : Fit K s) (hK : K ≤ 1000) {k : Nat} (hk : k < gs.length) : gs_ gs k ≤ 100000 := by
  obtain ⟨p, g, hp, e, h1⟩ := h.each k hk
  have h16 := h.n16
  have hb := hf.backs p hp
  rw [e]
  unfold hd
  rcases h1 with ⟨_, _, h2⟩ | ⟨_, h2⟩ <;> omega
theorem there_le (bk : List Bool) : ∀ k, there bk k ≤ k
  | 0 => Nat.le_refl _
  | k + 1 => by have := there_le bk k; simp only [there]; split <;> omega
theorem tmod_nat {n : Int} {l : Nat} (h : 0 ≤ n) (hl : 0 < l) : ∃ k : Nat, n.tmod (l : Int) = (k : Int) ∧ k < l := by
  rw [Int.tmod_eq_emod_of_nonneg h]
  have h1 := Int.emod_nonneg n (show (l : Int) ≠ 0 by omega)
  have h2 := Int.emod_lt_of_pos n (show (0 : Int) < l by omega)
  exact ⟨(n % (l : Int)).toNat, by omega, by omega⟩

/-- What holds at each round's head. -/
def StaleAt (w : World) (B P n k : Nat) (gv bv : Value) (wr : World) : Prop :=
  ∃ s gs bk, Fit (2 * k) s ∧ s.n = n ∧ Hist s gs bk ∧ St wr w.heap.size B P s gv bv gs bk ∧ gs.length ≤ k ∧ Below w.heap.size w wr

set_option maxHeartbeats 8000000 in
set_option maxRecDepth 100000 in
theorem arenaStale_walk (x : Int) (hx : 0 ≤ x ∧ x ≤ 255) (ad : Option Addr) (len cap : Nat) (hcap : len ≤ cap) (hmax : cap ≤ maxLen) (w : World) (hact : Acts w ad len) :
    Calls Try.prog 4 #[.int .u8 x, .slice ad len cap] w fun e w' => e = .returned (.bool true) ∧ Below w.heap.size w w' := by
  obtain ⟨i3, hi, hz0, hz1, hz2⟩ := info_parts info3
  obtain ⟨i4, hj, hy0, hy1, hy2⟩ := info_parts info4
  have hlmax : len ≤ maxLen := Nat.le_trans hcap hmax
  have HLM : Hid (len ≤ maxLen) := hlmax
  have hlen63 : len ≤ 9223372036854775807 := by unfold maxLen at hlmax; omega
  clear hmax hlmax
  obtain ⟨m, hm⟩ : ∃ m : Nat, (m : Int) = x % 20 := ⟨(x % 20).toNat, by omega⟩
  have hm20 : m < 20 := by omega
  have ht : x.tmod 20 = (m : Int) := by rw [Int.tmod_eq_emod_of_nonneg (by omega)]; exact hm.symm
  have hw64 : wrap64 (m : Int) = (m : Int) := by unfold wrap64; omega
  obtain ⟨n, hn⟩ : ∃ n : Nat, n = newN (m : Int) := ⟨_, rfl⟩
  have hn16 : n ≤ 16 ∧ n ≤ m := by rw [hn]; exact newN_le m
  obtain ⟨B, hB⟩ : ∃ B, B = w.heap.size + 1 := ⟨_, rfl⟩
  obtain ⟨P, hP⟩ : ∃ P, P = w.heap.size := ⟨_, rfl⟩
  have hBl : w.heap.size ≤ B := by omega
  have hPl : w.heap.size ≤ P := by omega
  have N0 : Hid (Calls Try.prog 7 #[.int .i64 (m : Int)] w fun e w' => e = .returned (.pointer (some ⟨B, 0, none⟩)) ∧ AtA w' B P (newOf n) ∧ Below w.heap.size w w') := by
    have := new_any (m : Int) w
    rw [← hn] at this
    rw [hB, hP]; exact this
  have HAC : Hid (Acts w ad len) := hact
  clear hm hn hB hP hx hact
  go_enter Try.func4, Try.ntmps4
  go_wp2_with fail
  refine N0.out.mono ?_
  rintro e w1 ⟨rfl, hA, hb⟩
  have HA : Hid (AtA w1 B P (newOf n)) := hA
  clear hA N0
  have hz := hb.size
  go_wp2
  go_loopw [6, 7, 8] (fun gv bv i wr => ∃ k : Nat, k ≤ len ∧ k ≤ 80 ∧ i = .int .i64 k ∧ StaleAt w B P n k gv bv wr) (fun _ _ i _ => len - (intOf i).toNat)
  case atStart =>
    refine ⟨0, Nat.zero_le _, Nat.zero_le _, rfl, newOf n, [], [], newOf_fit hn16.1, rfl, hist_new hn16.1, ⟨?_, ?_, ?_⟩, Nat.le_refl _, ?_⟩
    · exact (HA.out.below ((Below.refl _ _).alloc (Nat.le_refl _) _)).below ((Below.refl _ _).alloc (Nat.le_refl _) _)
    · exact (World.ownsRow_lit w1 #[] 0 hz (by unfold maxLen; omega) rfl).alloc _
    · have h := World.ownsRow_lit (base := w.heap.size) (size := 1) (e := 4) (w1.alloc (.cells #[] 3)) #[] 0 (by simp; omega) (by unfold maxLen; omega) rfl
      simp only [World.size_alloc] at h
      exact h
    · exact (hb.alloc hz _).alloc (by simp; omega) _
  case round =>
    clear HA hb hz
    obtain ⟨k, hk, hk80, rfl, s, gs, bk, hF, hsn, hH, hS, hgl, hb⟩ := hrel
    by_cases hlt : k < len ∧ k < 80
    · obtain ⟨hk1, hk2⟩ := hlt
      have hk1' : (k : Int) < (len : Int) := by omega
      have hk2' : (k : Int) < 80 := by omega
      have T1 : Hid (∀ W, AtA W B P s → Calls Try.prog 9 #[.pointer (some ⟨B, 0, none⟩)] W fun e w' => e = .returned (.tuple #[.int .i64 (takeH s), .bool (takeB s)]) ∧ Now B P (takeOf s) W w') := fun W h => take_any B P (2 * k) s (by omega) W hF h
      have HF : Hid (Fit (2 * k) s) := hF
      have HH : Hid (Hist s gs bk) := hH
      have HS : Hid (St wr w.heap.size B P s u6 u7 gs bk) := hS
      obtain ⟨av, ac, hgv⟩ := owns_slice hS.g
      obtain ⟨bv, bc, hbv⟩ := owns_slice hS.b
      subst hgv hbv
      clear hF hH hS
      obtain ⟨th, hth⟩ : ∃ th, th = takeH s := ⟨_, rfl⟩
      obtain ⟨tb, htb⟩ : ∃ tb, tb = takeB s := ⟨_, rfl⟩
      have HT : Hid (th = takeH s ∧ tb = takeB s) := ⟨hth, htb⟩
      rw [← hth, ← htb] at T1
      clear hth htb
      obtain ⟨b, off, d, h, nn, rfl, hbw, q0, q1, q2, hd255, _, hn255⟩ := HAC.out k hk1
      go_wp2_with fail
      refine (T1.out _ HS.out.a).mono ?_
      rintro e w2 ⟨rfl, hN⟩
      have HS2 : Hid _ := HS.out.now hN
      replace hb := turn_next hb hN.2 hBl hPl
      have c0 : w2.cell? ⟨b, off + k * 3, none⟩ = some (.int .u8 d) := (hb.cell (p := ⟨b, _, none⟩) hbw).trans q0
      have c2 : w2.cell? ⟨b, off + k * 3 + 2, none⟩ = some (.int .u8 nn) := (hb.cell (p := ⟨b, _, none⟩) hbw).trans q2
      clear hN HS T1 q0 q1 q2
      obtain ⟨r, hr⟩ : ∃ r : Int, d.tmod 3 = r := ⟨_, rfl⟩
      go_upto_region 8 with fail
      go_cut [47] (fun c wx => ∃ bb : Bool, c = .bool bb ∧ (bb = true → 0 < gs.length) ∧ wx = w2)
      case first =>
        as_aux_lemma =>
          by_cases hr0 : r = 0
          · have hr1 : (r != 0) = false := by simp [hr0]
            clear hr0
            go_wp2_with fail
            go_meet
            exact ⟨_, rfl, fun h => by simp at h, rfl⟩
          · have hr1 : (r != 0) = true := by simp [hr0]
            clear hr0
            by_cases hg0 : 0 < gs.length
            · have hg1 : (0 : Int) < (gs.length : Int) := by omega
              go_wp2_with fail
              go_meet
              exact ⟨_, rfl, fun _ => hg0, rfl⟩
            · have hg1 : ¬ (0 : Int) < (gs.length : Int) := by omega
              go_wp2_with fail
              go_meet
              exact ⟨_, rfl, fun h => by simp at h, rfl⟩
      case rest =>
        obtain ⟨bb, rfl, hbb, hwc⟩ := hcut
        subst hwc
        go_upto_if 47 with fail
        go_cut [6, 7] (fun v6 v7 wx => StaleAt w B P n (k + 1) v6 v7 wx)
        case first =>
          have hbl : bk.length ≤ 80 := by have := HH.out.len; omega
          have hzc := hb.size
          cases bb
          · as_aux_lemma =>
              cases tb
              · go_wp2_with fail
                go_meet
                obtain ⟨l, hl⟩ := HH.out.ok
                have hS := HS2.out
                rw [ok_back hl HT.out.2.symm] at hS
                exact ⟨s, gs, bk, HF.out.mono (by omega), hsn, HH.out, hS, by omega, hb⟩
              · obtain ⟨H, hH1, hH2⟩ := HH.out.take HT.out.2.symm
                have hth : th = (H : Int) := HT.out.1.trans hH1
                have HH2 : Hid (Hist (takeOf s) (gs ++ [H]) (bk ++ [false])) := hH2
                clear hH1 hH2 HT
                subst hth
                have hS3 := HS2.out
                clear HS2 c0 c2
                go_wp2_with (at_builtin; refine wpList_append_own _ rfl _ _ 27 rfl w.heap.size 3 i3 (.int .i64 0) 1 8 Try.underlying27 hi hz0 hz1 hz2 rfl (by decide) _ _ _ rfl (hS3.g.alloc _) ⟨wc.heap.size, 0, none⟩ 1 1 [.int .i64 (H : Int)] rfl rfl ?c1 ?c2 ?c3 ?c4 ?c5 ?_)
                case c1 =>
                  intro j u hj
                  match j, hj with
                  | 0, hj => simp at hj; subst hj; simp [Addr.add, go_sem]
                case c2 => intro u hu; simp at hu; subst hu; rfl
                case c3 => unfold maxLen; omega
                case c4 => omega
                case c5 => simp; omega
                intro v3 w3 hown3 hgrow3 _
                have hz3 := hgrow3.size
                simp at hz3
                have hS4 := hS3.app_g hown3 hgrow3
                replace hb := below_owns hb hb.size hS3.g (Nat.le_refl _) hgrow3
                clear hown3 hgrow3 hS3
                obtain ⟨v3a, v3c, hv3⟩ := owns_slice hS4.g
                subst hv3
                go_wp2_with (at_builtin; refine wpList_append_own _ rfl _ _ 38 rfl w.heap.size 4 i4 (.bool false) 1 1 Try.underlying38 hj hy0 hy1 hy2 rfl (by decide) _ _ _ rfl (hS4.b.alloc _) ⟨w3.heap.size, 0, none⟩ 1 1 [.bool false] rfl rfl ?d1 ?d2 ?d3 ?d4 ?d5 ?_)
                case d1 =>
                  intro j u hj
                  match j, hj with
                  | 0, hj => simp at hj; subst hj; simp [Addr.add, go_sem]
                case d2 => intro u hu; simp at hu; subst hu; rfl
                case d3 => unfold maxLen; omega
                case d4 => omega
                case d5 => simp; omega
                intro v4 w4 hown4 hgrow4 _
                have hS5 := hS4.app_b hown4 hgrow4
                rw [show (gs ++ [H]).length = gs.length + 1 by simp] at hS5
                replace hb := below_owns hb hb.size hS4.b (Nat.le_refl _) hgrow4
                clear hown4 hgrow4 hS4
                go_wp2_with fail
                go_meet
                exact ⟨takeOf s, gs ++ [H], bk ++ [false], (takeOf_fit HF.out).mono (by omega), by rw [takeOf_n]; exact hsn, HH2.out, hS5, by simp; omega, hb⟩
          · have hg0 := hbb rfl
            have hg0' : (0 : Int) < (gs.length : Int) := by omega
            have hgne : ((gs.length : Int) == 0) = false := beq_eq_false_iff_ne.2 (by omega)
            obtain ⟨kk, hkk, hkl⟩ := tmod_nat hn255.1 hg0
            have hw64n : wrap64 nn = nn := by unfold wrap64; omega
            go_upto_if 57 with fail
            go_cut [6, 7] (fun v6 v7 wx => ∃ s1 gs1 bk1, Fit (2 * k + 1) s1 ∧ s1.n = n ∧ Hist s1 gs1 bk1 ∧ St wx w.heap.size B P s1 v6 v7 gs1 bk1 ∧ gs1.length ≤ k + 1 ∧ kk < gs1.length ∧ Below w.heap.size w wx)
            case first =>
              as_aux_lemma =>
                cases tb
                · go_wp2_with fail
                  go_meet
                  obtain ⟨l, hl⟩ := HH.out.ok
                  have hS := HS2.out
                  rw [ok_back hl HT.out.2.symm] at hS
                  exact ⟨s, gs, bk, HF.out.mono (by omega), hsn, HH.out, hS, by omega, hkl, hb⟩
                · obtain ⟨H, hH1, hHi, hH2⟩ := HH.out.both HT.out.2.symm
                  have hth : th = (H : Int) := HT.out.1.trans hH1
                  have HH2 : Hid (Hist (freeOf (takeOf s) (H : Int)) (gs ++ [H]) (bk ++ [true])) := hH2
                  have hsm := hH2.small (freeOf_fit (takeOf_fit HF.out) _) (by omega) (k := gs.length) (by simp)
                  rw [gs_snoc] at hsm
                  have hFr := fun W h => free_any B P (2 * k) (takeOf s) (H : Int) (by omega) (by omega) W (takeOf_fit HF.out) h
                  rw [hHi] at hFr
                  clear hH1 hH2 HT hHi
                  subst hth
                  have HFr := hide hFr
                  clear hFr
                  go_wp2_with fail
                  refine (HFr.out _ HS2.out.a).mono ?_
                  rintro e w5 ⟨rfl, hN⟩
                  have hS3 := HS2.out.now hN
                  replace hb := turn_next hb hN.2 hBl hPl
                  clear HS2 c0 c2 HFr hN hzc
                  have hzc := hb.size
                  go_wp2_with (at_builtin; refine wpList_append_own _ rfl _ _ 27 rfl w.heap.size 3 i3 (.int .i64 0) 1 8 Try.underlying27 hi hz0 hz1 hz2 rfl (by decide) _ _ _ rfl (hS3.g.alloc _) ⟨w5.heap.size, 0, none⟩ 1 1 [.int .i64 (H : Int)] rfl rfl ?c1 ?c2 ?c3 ?c4 ?c5 ?_)
                  case c1 =>
                    intro j u hj
                    match j, hj with
                    | 0, hj => simp at hj; subst hj; simp [Addr.add, go_sem]
                  case c2 => intro u hu; simp at hu; subst hu; rfl
                  case c3 => unfold maxLen; omega
                  case c4 => omega
                  case c5 => simp; omega
                  intro v3 w3 hown3 hgrow3 _
                  have hz3 := hgrow3.size
                  simp at hz3
                  have hS4 := hS3.app_g hown3 hgrow3
                  replace hb := below_owns hb hb.size hS3.g (Nat.le_refl _) hgrow3
                  clear hown3 hgrow3 hS3
                  obtain ⟨v3a, v3c, hv3⟩ := owns_slice hS4.g
                  subst hv3
                  go_wp2_with (at_builtin; refine wpList_append_own _ rfl _ _ 38 rfl w.heap.size 4 i4 (.bool false) 1 1 Try.underlying38 hj hy0 hy1 hy2 rfl (by decide) _ _ _ rfl (hS4.b.alloc _) ⟨w3.heap.size, 0, none⟩ 1 1 [.bool true] rfl rfl ?d1 ?d2 ?d3 ?d4 ?d5 ?_)
                  case d1 =>
                    intro j u hj
                    match j, hj with
                    | 0, hj => simp at hj; subst hj; simp [Addr.add, go_sem]
                  case d2 => intro u hu; simp at hu; subst hu; rfl
                  case d3 => unfold maxLen; omega
                  case d4 => omega
                  case d5 => simp; omega
                  intro v4 w4 hown4 hgrow4 _
                  have hS5 := hS4.app_b hown4 hgrow4
                  rw [show (gs ++ [H]).length = gs.length + 1 by simp] at hS5
                  replace hb := below_owns hb hb.size hS4.b (Nat.le_refl _) hgrow4
                  clear hown4 hgrow4 hS4
                  go_wp2_with fail
                  go_meet
                  exact ⟨freeOf (takeOf s) (H : Int), gs ++ [H], bk ++ [true], freeOf_fit (takeOf_fit HF.out) _, by rw [freeOf_n, takeOf_n]; exact hsn, HH2.out, hS5, by simp; omega, by simp; omega, hb⟩
            case rest =>
              as_aux_lemma =>
                clear HS2 HT HH HF c0 c2 hzc hb
                obtain ⟨s1, gs1, bk1, hF1, hn1, hH1, hS1, hgl1, hkk1, hb⟩ := hcut
                have hbl1 : kk < bk1.length := by have := hH1.len; omega
                obtain ⟨g1, c1, g2, c2, rfl, rfl, _, hgb2, hgl', hgl2, n1, n2, n3, n4, n5, hcells⟩ := hS1.open hH1.len (by omega)
                obtain ⟨e1, e2, e3⟩ := hcells kk hkk1
                clear hcells
                have hsm := hH1.small hF1 (by omega) hkk1
                have hFr := fun W h => free_any B P (2 * k + 1) s1 ((gs_ gs1 kk : Nat) : Int) (by omega) (by omega) W hF1 h
                rw [hH1.is hkk1] at hFr
                have HH1 : Hid (Hist (freeOf s1 ((gs_ gs1 kk : Nat) : Int)) gs1 (bk1.set kk true)) := hH1.free hkk1
                have HF1 : Hid (Fit (2 * (k + 1)) (freeOf s1 ((gs_ gs1 kk : Nat) : Int))) := freeOf_fit hF1 _
                have HS1 := hide hS1
                clear hH1 hF1 hS1
                generalize gs_ gs1 kk = X at *
                generalize bk_ bk1 kk = y at *
                have hyy : ((!y) == y) = false := by cases y <;> rfl
                have HFr := hide hFr
                clear hFr
                have hi1 : (kk : Int) < (gs1.length : Int) := by omega
                have hi2 : (kk : Int) < (bk1.length : Int) := by omega
                have hi0 : (0 : Int) ≤ (kk : Int) := by omega
                go_upto_region 13 with fail
                go_cut [78] (fun c wx => c = .bool false ∧ St wx w.heap.size B P (freeOf s1 (X : Int)) (.slice (some ⟨g1, 0, none⟩) gs1.length c1) (.slice (some ⟨g2, 0, none⟩) bk1.length c2) gs1 bk1 ∧ Below w.heap.size w wx)
                case first =>
                  go_region_held3 (fun w' => w'.cell? ⟨g1, kk, none⟩ = some (.int .i64 (X : Int)) ∧ w'.cell? ⟨g2, kk, none⟩ = some (.bool y)) (first | (constructor <;> assumption) | go_keep)
                    (first | (go_at_call 14; refine (HFr.out _ (HS1.out.a.below (by first | exact Below.refl _ _ | exact ⟨rfl, rfl, rfl, Nat.le_refl _, fun _ _ => rfl⟩))).mono ?_; rintro e w6 ⟨rfl, hN⟩; have q1 := (hN.2.cell (o := kk) (by exact hgl') n1 n2).trans e1; have q2 := (hN.2.cell (o := kk) (by exact hgl2) n3 n4).trans e2))
                  go_wp2_with fail
                  go_meet
                  exact ⟨rfl, (HS1.out.below (Below.refl _ _).drew).now hN, turn_next (hb.drew) hN.2 hBl hPl⟩
                case rest =>
                  clear HS1 HFr e1 e2 e3 hb
                  obtain ⟨rfl, hS2, hb⟩ := hcut
                  have e3 := hS2.b.frozenAt kk
                  have e2 : ∃ z, wc.cell? ⟨g2, kk, none⟩ = some z := ⟨_, (hS2.b.cellAt kk (by omega)).trans (List.getElem?_eq_getElem (by simpa [cB] using hbl1))⟩
                  obtain ⟨z, e2⟩ := e2
                  have HS3 := hide (hS2.set kk)
                  clear hS2
                  go_wp2_with fail
                  go_meet
                  exact ⟨freeOf s1 (X : Int), gs1, bk1.set kk true, HF1.out, by rw [freeOf_n]; exact hn1, HH1.out, by simpa using HS3.out, hgl1, hb.setCell hgb2 _⟩
        case rest =>
          as_aux_lemma =>
            clear HS2 HT HH HF c0 c2 hb hgl hsn
            obtain ⟨s', gs', bk', hF, hsn, hH, hS, hgl, hb⟩ := hcut
            have HS := hide hS
            obtain ⟨av', ac', hgv⟩ := owns_slice hS.g
            obtain ⟨bv', bc', hbv⟩ := owns_slice hS.b
            subst hgv hbv
            have HF := hide hF
            have HH := hide hH
            clear hS hF hH
            go_wp2
            go_loopw [12, 13] (fun t i w2 => ∃ j : Nat, j ≤ gs'.length ∧ i = .int .i64 j ∧ t = .int .i64 ((there bk' j : Nat) : Int) ∧ Below wc.heap.size wc w2) (fun _ i _ => gs'.length - (intOf i).toNat)
            case atStart => exact ⟨0, Nat.zero_le _, rfl, rfl, Below.refl _ _⟩
            case round =>
              obtain ⟨j, hj1, rfl, rfl, hb2⟩ := hrel
              have htl : there bk' j ≤ 100 := by have := there_le bk' j; omega
              by_cases hjl : j < gs'.length
              · have hbl1 : j < bk'.length := by have := HH.out.len; omega
                obtain ⟨g1, c1, g2, c2, h6, h7, _, _, _, _, _, _, _, _, _, hcells⟩ := (HS.out.below hb2).open HH.out.len (by omega)
                simp only [Value.slice.injEq, true_and] at h6 h7
                obtain ⟨rfl, rfl⟩ := h6
                obtain ⟨rfl, rfl⟩ := h7
                obtain ⟨e1, e2, _⟩ := hcells j hjl
                clear hcells
                have hsm := HH.out.small HF.out (by omega) hjl
                have hIs := fun nq => is_any B P (2 * (k + 1)) s' ((gs_ gs' j : Nat) : Int) (by omega) (by omega) (wr.drewN nq) HF.out ((HS.out.below (hb2.trans ((below_drewN _ _).mono hb2.size))).a)
                have hPl' := fun nq => place_any B P (2 * (k + 1)) s' ((gs_ gs' j : Nat) : Int) (by omega) (by omega) (wr.drewN nq) HF.out ((HS.out.below (hb2.trans ((below_drewN _ _).mono hb2.size))).a)
                rw [HH.out.is hjl] at hIs
                have hgone := fun e => HH.out.gone hjl e
                have hth : there bk' (j + 1) = there bk' j + if bk_ bk' j then 0 else 1 := rfl
                have HX : Hid (∀ q, q < j → gs_ gs' q ≠ gs_ gs' j) := fun q hq => HH.out.one q j hq hjl
                generalize hy : bk_ bk' j = y at *
                generalize hXX : gs_ gs' j = X at *
                have HXX := hide hXX
                have HY := hide hy
                have HTH := hide hth
                clear hy hXX hth
                generalize there bk' j = T at *
                have hi1 : (j : Int) < (gs'.length : Int) := by omega
                have hi2 : (j : Int) < (bk'.length : Int) := by omega
                have hi0 : (0 : Int) ≤ (j : Int) := by omega
                have hTw : IntKind.i64.wrap ((T : Int) + 1) = ((T + 1 : Nat) : Int) := by rw [wrapB (by omega)]; rfl
                have HG := hide hgone
                have HIs := hide hIs
                have HPl' := hide hPl'
                clear hgone hIs hPl'
                cases y
                all_goals
                  simp only [Bool.not_false, Bool.not_true] at HIs
                  first | (have hPm := HPl'.out; rw [HG.out rfl] at hPm) | (have hPm := HPl'.out)
                  go_wp2_with fail
                  go_quiet (first | (go_at_call 13; exact Calls.quiet_of_same (HIs.out _)) | (go_at_call 11; exact Calls.quiet_of_same (hPm _)))
                  clear hPm HIs HG
                  go_wp2
                  clear e1 e2
                  go_loopw [14] (fun i w3 => ∃ q : Nat, q ≤ j ∧ i = .int .i64 q ∧ Below wc.heap.size wc w3) (fun i _ => j - (intOf i).toNat)
                  case atStart => exact ⟨0, Nat.zero_le _, rfl, hb2.trans ((below_drewN _ _).mono hb2.size)⟩
                  case round =>
                    obtain ⟨q, hq1, rfl, hb3⟩ := hrel
                    by_cases hql : q < j
                    · have hqg : q < gs'.length := by omega
                      have hqb : q < bk'.length := by omega
                      obtain ⟨g1', c1', g2', c2', h6, h7, _, _, _, _, _, _, _, _, _, hcells⟩ := (HS.out.below hb3).open HH.out.len (by omega)
                      simp only [Value.slice.injEq, true_and, Option.some.injEq, Addr.mk.injEq, and_true] at h6 h7
                      obtain ⟨rfl, rfl⟩ := h6
                      obtain ⟨rfl, rfl⟩ := h7
                      obtain ⟨e1, e2, _⟩ := hcells j hjl
                      obtain ⟨f1, f2, _⟩ := hcells q hqg
                      rw [HXX.out] at e1
                      rw [HY.out] at e2
                      clear hcells
                      have hsq := HH.out.small HF.out (by omega) hqg
                      have hPj := fun nq => place_any B P (2 * (k + 1)) s' (X : Int) (by omega) (by omega) (wr.drewN nq) HF.out ((HS.out.below (hb3.trans ((below_drewN _ _).mono hb3.size))).a)
                      have hPq := fun nq => place_any B P (2 * (k + 1)) s' ((gs_ gs' q : Nat) : Int) (by omega) (by omega) (wr.drewN nq) HF.out ((HS.out.below (hb3.trans ((below_drewN _ _).mono hb3.size))).a)
                      have hxne : (((gs_ gs' q : Nat) : Int) == (X : Int)) = false := beq_eq_false_iff_ne.2 (fun e => HX.out q hql (by omega))
                      have hpne : bk_ bk' q = false → bk_ bk' j = false → (placeOf s' ((gs_ gs' q : Nat) : Int) == placeOf s' (X : Int)) = false := fun a b => beq_eq_false_iff_ne.2 (by rw [← HXX.out]; exact HH.out.apart hql hjl a b)
                      rw [HY.out] at hpne
                      have hi3 : (q : Int) < (gs'.length : Int) := by omega
                      have hi4 : (q : Int) < (bk'.length : Int) := by omega
                      have hi5 : (0 : Int) ≤ (q : Int) := by omega
                      have hi6 : (q : Int) < (j : Int) := by omega
                      generalize gs_ gs' q = Xq at *
                      generalize bk_ bk' q = yq at *
                      generalize placeOf s' (Xq : Int) = pq at *
                      generalize placeOf s' (X : Int) = pj at *
                      have HPj := hide hPj
                      have HPq := hide hPq
                      have HPN := hide hpne
                      clear hPj hPq hpne
                      cases yq
                      · first
                          | (have hpn := HPN.out rfl rfl
                             go_wp2_with fail
                             refine wp_region_quiet_lit (by kernel_rfl) (by kernel_rfl) ?_
                             repeat (go_big_quiet_step (fail))
                             go_big_quiet_step (exact Calls.quiet_of_same (HPq.out _))
                             repeat (go_big_quiet_step (fail))
                             go_big_quiet_step (exact Calls.quiet_of_same (HPj.out _))
                             repeat (go_big_quiet_step (fail)))
                          | (go_wp2_with fail
                             refine wp_region_quiet_lit (by kernel_rfl) (by kernel_rfl) ?_
                             repeat (go_big_quiet_step (fail)))
                        refine wpQuiet_nil ?_
                        rintro _ ⟨nq2, rfl⟩
                        go_wp2
                        go_roundw
                        case rel =>
                          clear hTw hw64 ht hi0 hi1 hi2 hi3 hi4 hi5 hi6 hsm hsq hxne htl
                          exact ⟨q + 1, hql, by go_num, hb3.trans ((below_drewN _ _).mono hb3.size)⟩
                        case measure =>
                          clear hTw hw64 ht hi0 hi1 hi2 hi3 hi4 hi5 hi6 hsm hsq hxne htl
                          simp [intOf]
                          exact Nat.sub_lt_sub_left hql (Nat.lt_succ_self q)
                      · go_wp2_with fail
                        refine wp_region_quiet_lit (by kernel_rfl) (by kernel_rfl) ?_
                        repeat (go_big_quiet_step (fail))
                        refine wpQuiet_nil ?_
                        rintro _ ⟨nq2, rfl⟩
                        go_wp2
                        go_roundw
                        case rel =>
                          clear hTw hw64 ht hi0 hi1 hi2 hi3 hi4 hi5 hi6 hsm hsq hxne htl
                          exact ⟨q + 1, hql, by go_num, hb3.trans ((below_drewN _ _).mono hb3.size)⟩
                        case measure =>
                          clear hTw hw64 ht hi0 hi1 hi2 hi3 hi4 hi5 hi6 hsm hsq hxne htl
                          simp [intOf]
                          exact Nat.sub_lt_sub_left hql (Nat.lt_succ_self q)
                    · go_wp2
                      go_roundw
                      case rel => exact ⟨j + 1, by omega, by go_num, by rw [HTH.out]; rfl, hb3⟩
                      case measure => simp [intOf]; omega
              · obtain rfl : j = gs'.length := by omega
                have hL := fun W h => live_any B P (2 * (k + 1)) s' (by omega) W HF.out h
                have hTT : (liveTo s' s'.n).length = there bk' gs'.length := by rw [live_held, ← HH.out.sum, HH.out.len]
                have hTn : there bk' gs'.length ≤ n := by rw [← hTT, live_held, ← hsn]; exact held_le _ _
                have HL := hide hL
                have HTT := hide hTT
                clear hL hTT
                generalize there bk' gs'.length = T at *
                have hT1 : ¬ (16 : Int) < (T : Int) := by omega
                have hT2 : ¬ (m : Int) < (T : Int) := by omega
                go_wp2_with fail
                refine (HL.out _ (HS.out.below hb2).a).mono ?_
                rintro e w7 ⟨v7, rfl, ho7, hb7⟩
                rw [HTT.out] at ho7
                obtain ⟨a7, c7, rfl⟩ := owns_slice ho7
                have hb8 : Below wc.heap.size wc w7 := below_next hb2 hb7
                clear ho7
                go_wp2
                go_roundw
                case rel =>
                  exact ⟨k + 1, by omega, by omega, by go_num, s', gs', bk', HF.out, hsn, HH.out, HS.out.below hb8, hgl, below_next hb hb8⟩
                case measure => simp [intOf]; omega
    · by_cases hk1 : k < len
      all_goals
        have hk1' := hk1
        go_wp2_with fail
        refine (awake_any _).mono ?_
        rintro e w2 ⟨rfl, hb2⟩
        replace hb := below_next hb hb2
        go_wp2
        go_ret
        exact ⟨rfl, hb⟩

end Go.Proofs.Ytceghlmleamlgaa
