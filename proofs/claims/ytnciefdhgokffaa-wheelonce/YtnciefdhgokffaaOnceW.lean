/-
  What the law WheelOnce asks comes out true at any list of numbers and any list of bytes.
-/
import Derived.Test.YtnciefdhgokffaaOnceM
namespace Go.Proofs.Ytnciefdhgokffaa
open Go.RowKit

/-- Timers, and how often each was met. -/
structure MS (w : World) (B gm : Nat) (σ : Ws) (f : Nat → Nat) (W : World) : Prop where
  tim : AtW W B σ
  met : HasR W gm 16 16 f
  bel : Below w.heap.size w W
  ge : w.heap.size ≤ gm
theorem MS.ne {w : World} {B gm : Nat} {σ : Ws} {f : Nat → Nat} {W : World} (h : MS w B gm σ f W) : B ≠ gm := by
  intro e
  subst e
  obtain ⟨cs, h1, _⟩ := h.met
  obtain ⟨cs', h2, _⟩ := h.tim.box
  rw [h1] at h2
  simp at h2
theorem MS.below {w : World} {B gm : Nat} {σ : Ws} {f : Nat → Nat} {W W' : World} (h : MS w B gm σ f W) (k : Below W.heap.size W W') : MS w B gm σ f W' :=
  ⟨h.tim.below k, h.met.same (k.block _ h.met.lt), below_next h.bel k, h.ge⟩
theorem MS.now {w : World} {B gm : Nat} {σ σ' : Ws} {f : Nat → Nat} {W W' : World} (h : MS w B gm σ f W) (hB : w.heap.size ≤ B) (k : Now B σ' W W') : MS w B gm σ' f W' :=
  ⟨k.1, h.met.same (k.2.block _ h.met.lt h.ne.symm), turn_next h.bel k.2 hB, h.ge⟩
theorem MS.put {w : World} {B gm : Nat} {σ : Ws} {f : Nat → Nat} {W : World} (h : MS w B gm σ f W) {i : Nat} (hi : i < 16) (v : Nat) : MS w B gm σ (fun j => if j = i then v else f j) (W.setCell ⟨gm, i, none⟩ (.int .i64 (v : Int))) :=
  ⟨h.tim.same (Below.heap_setCell _ _ _ _ h.ne), h.met.set hi v, h.bel.setCell h.ge _, h.ge⟩
theorem MS.to {w : World} {B gm : Nat} {σ : Ws} {f g : Nat → Nat} {W : World} (h : MS w B gm σ f W) (e : g = f) : MS w B gm σ g W := by rw [e]; exact h

/-- .. and what is due. -/
structure IS (w : World) (B gm base : Nat) (σ : Ws) (f : Nat → Nat) (v : Value) (l : List Nat) (W : World) : Prop where
  ms : MS w B gm σ f W
  row : W.ownsRow base 3 1 v l.length (cI l)
  lt : gm < base
theorem IS.put {w : World} {B gm base : Nat} {σ : Ws} {f : Nat → Nat} {v : Value} {l : List Nat} {W : World} (h : IS w B gm base σ f v l W) {i : Nat} (hi : i < 16) (n : Nat) : IS w B gm base σ (fun j => if j = i then n else f j) v l (W.setCell ⟨gm, i, none⟩ (.int .i64 (n : Int))) := by
  refine ⟨h.ms.put hi n, ⟨h.row.1, ?_⟩, h.lt⟩
  rcases h.row.2 with h3 | ⟨g, cap, cur, rfl, hb, hh, r⟩
  · exact Or.inl h3
  · refine Or.inr ⟨g, cap, cur, rfl, hb, (Below.heap_setCell _ ⟨gm, i, none⟩ _ _ ?_).trans hh, r⟩
    have := h.lt
    show g ≠ gm
    omega
theorem IS.cell {w : World} {B gm base : Nat} {σ : Ws} {f : Nat → Nat} {g c : Nat} {l : List Nat} {W : World} (h : IS w B gm base σ f (.slice (some ⟨g, 0, none⟩) l.length c) l W) {j : Nat} (hj : j < l.length) : W.cell? ⟨g, j, none⟩ = some (.int .i64 ((l.getD j 0 : Nat) : Int)) := (HasR.of_owns h.row).cell hj
theorem made16 (W : World) : HasR (W.alloc (.cells (madeCells #[Value.int .i64 0] 16) 3)) W.heap.size 16 16 (fun _ => 0) := by
  refine ⟨_, heap_alloc_new _ _, by simp [size_madeCells], Nat.le_refl _, by unfold maxLen; omega, fun k hk => ?_⟩
  simp [madeCells, hk, Nat.mod_one]
theorem add_facts {a d n : Nat} (h : n = a + d) (hn : n ≤ 2000) : IntKind.i64.wrap ((a : Int) + (d : Int)) = (n : Int) ∧ wrap64 ((a : Int) + (d : Int)) = (n : Int) :=
  ⟨by rw [wrapB (by omega)]; omega, by rw [IntWalk.wrap64_in _ (by omega)]; omega⟩

set_option maxHeartbeats 8000000 in
set_option maxRecDepth 100000 in
theorem wheelOnce_walk (ad ad2 : Option Addr) (len cap len2 cap2 : Nat) (hcap : len ≤ cap) (hmax : cap ≤ maxLen) (hcap2 : len2 ≤ cap2) (hmax2 : cap2 ≤ maxLen) (X Z : Nat → Nat) (w : World) (hy : NumsAt .u16 65535 w ad len X) (hz : NumsAt .u8 255 w ad2 len2 Z) :
    Calls Try.prog 4 #[.slice ad len cap, .slice ad2 len2 cap2] w fun e w' => e = .returned (.bool true) ∧ Below w.heap.size w w' := by
  have hl : len ≤ 9223372036854775807 := by unfold maxLen at hmax; omega
  have hl2 : len2 ≤ 9223372036854775807 := by unfold maxLen at hmax2; omega
  have HY := hide hy
  have HZ := hide hz
  clear hmax hmax2 hy hz
  obtain ⟨i0, hi, hz0, hz1, hz2⟩ := info_parts info3
  have hmk : ∀ W : World, (Instr.makeSlice 30 (.int .i64 16) (.int .i64 16)).run Try.prog W = .ok (.slice (some ⟨W.heap.size, 0, none⟩) 16 16) (W.alloc (.cells (madeCells #[Value.int .i64 0] 16) 3)) := fun W => by
    have h := run_make (P := Try.prog) W 30 3 i0 _ Try.underlying30 hi hz0 .i64 .i64 16 16 (by omega) (by omega) (by rw [hz2]; omega) (by omega)
    simp only [hz1] at h
    exact h
  obtain ⟨cs, hcs⟩ : ∃ cs, cs = madeCells #[Value.int .i64 0] 16 := ⟨_, rfl⟩
  have HCS := hide hcs
  rw [← hcs] at hmk
  clear hcs hi hz0 hz1 hz2
  obtain ⟨Y, hYd⟩ : ∃ Y : Nat → Nat, Y = fun i => X i % 300 := ⟨_, rfl⟩
  have hYi : ∀ i, Y i = X i % 300 := fun i => by rw [hYd]
  have HYM : Hid (∀ i, ((X i : Nat) : Int).tmod 300 = ((Y i : Nat) : Int)) := fun i => by rw [hYi]; exact tmod_nat (X i) 300
  have HYK : Hid (∀ i, Y i ≤ 1000) := fun i => by rw [hYi]; omega
  obtain ⟨D, hDd⟩ : ∃ D : Nat → Nat, D = fun i => Z i % 40 := ⟨_, rfl⟩
  have hDi : ∀ i, D i = Z i % 40 := fun i => by rw [hDd]
  have HDM : Hid (∀ i, ((Z i : Nat) : Int).tmod 40 = ((D i : Nat) : Int)) := fun i => by rw [hDi]; exact tmod_nat (Z i) 40
  have HDK : Hid (∀ i, D i ≤ 39) := fun i => by rw [hDi]; omega
  clear hYd hYi hDd hDi
  have HN : Hid (∀ W : World, Calls Try.prog 8 #[.int .i64 16] W fun e w' => e = .returned (.pointer (some ⟨W.heap.size, 0, none⟩)) ∧ AtW w' W.heap.size (newOf 16) ∧ Below W.heap.size W w') := fun W => new_any 16 W
  go_enter Try.func4, Try.ntmps4
  go_wp2_with fail
  refine (HN.out _).mono ?_
  rintro e w1 ⟨rfl, hA, hb⟩
  obtain ⟨B, hB⟩ : ∃ B, B = w.heap.size := ⟨_, rfl⟩
  rw [← hB] at hA ⊢
  have HA := hide hA
  have hBl : w.heap.size ≤ B := by omega
  clear hA hB HN
  go_upto_block 0 with fail
  go_cut [] (fun w' => ∃ k : Nat, k ≤ 16 ∧ k ≤ len ∧ (len ≤ k ∨ 16 ≤ k) ∧ Hid (AtW w' B (seto Y k)) ∧ Below w.heap.size w w')
  case first =>
    go_wp2_with fail
    go_loopw [6] (fun v wr => ∃ k : Nat, v = .int .i64 (k : Int) ∧ k ≤ 16 ∧ k ≤ len ∧ Hid (AtW wr B (seto Y k)) ∧ Below w.heap.size w wr) (fun v _ => 16 - (intOf v).toNat)
    case atStart => exact ⟨0, rfl, by omega, by omega, HA, hb⟩
    case round =>
      clear HA hb
      obtain ⟨k, rfl, hk16, hkl, HA, hb⟩ := hrel
      by_cases h1 : k < len
      · have h1' : (k : Int) < (len : Int) := by omega
        by_cases h2 : k < 16
        · have h2' : (k : Int) < 16 := by omega
          obtain ⟨b, off, rfl, c0, hx⟩ := HY.out.at h1 hb
          have ym := HYM.out k
          have HS := hide (set_any k (by omega) B (seto Y k) (k : Int) ((Y k : Nat) : Int) wr (seto_ok Y k) HA.out)
          rw [(seto_is Y HYK.out k (by omega)).2.2.2 h2] at HS
          have HE : Hid (seto Y (k + 1) = setOf (seto Y k) (k : Int) ((Y k : Nat) : Int)) := hide rfl
          have y7 := HYK.out k
          generalize Y k = yk at *
          generalize X k = xk at *
          clear HA
          go_wp2_with (go_at_call 15; refine HS.out.mono ?_; rintro e w2 ⟨rfl, hA2, ht⟩)
          have HA2 : Hid (AtW w2 B (seto Y (k + 1))) := hide (by rw [HE.out]; exact hA2)
          replace hb := turn_next hb ht hBl
          clear hA2 ht HS
          go_wp2_with fail
          go_roundw
          case rel => exact ⟨k + 1, by go_num, by omega, by omega, HA2, hb⟩
          case measure => simp [intOf]; omega
        · have h2' : ¬ (k : Int) < 16 := by omega
          go_wp2_with fail
          go_meet
          exact ⟨k, hk16, hkl, Or.inr (by omega), HA, hb⟩
      · have h1' : ¬ (k : Int) < (len : Int) := by omega
        go_wp2_with fail
        go_meet
        exact ⟨k, hk16, hkl, Or.inl (by omega), HA, hb⟩
  case rest =>
    clear HA hb
    obtain ⟨L, hL16, hLl, hLd, HA, hb⟩ := hcut
    have hz := hb.size
    go_upto_block 2 with fail
    obtain ⟨gm, hgm⟩ : ∃ gm, gm = wc.heap.size := ⟨_, rfl⟩
    have HM0 : Hid (MS w B gm (sk Y L D 0) (mt Y L D 0 [] 0) (wc.alloc (.cells cs 3))) := hide (by
      rw [hgm, HCS.out]
      refine MS.to ⟨HA.out.below ((Below.refl _ _).alloc (Nat.le_refl _) _), made16 wc, hb.alloc hz _, hz⟩ ?_
      funext i
      exact if_neg (fun c => by
        rcases c with c | c
        · have := c.1; omega
        · simp at c))
    rw [← hgm]
    clear hgm HA hb hz hmk
    go_cut [8] (fun v w' => ∃ k : Nat, v = .int .i64 ((nw D k : Nat) : Int) ∧ k ≤ 40 ∧ (len2 = 0 → k = 0) ∧ (0 < len2 → 0 < k) ∧ Hid (MS w B gm (sk Y L D k) (mt Y L D k [] 0) w'))
    case first =>
      go_wp2_with fail
      go_loopw [8, 9] (fun v i wr => ∃ k : Nat, v = .int .i64 ((nw D k : Nat) : Int) ∧ i = .int .i64 (k : Int) ∧ k ≤ 40 ∧ k ≤ len2 ∧ Hid (Ok 16 (sk Y L D k)) ∧ Hid (MS w B gm (sk Y L D k) (mt Y L D k [] 0) wr)) (fun _ i _ => 40 - (intOf i).toNat)
      case atStart => exact ⟨0, rfl, rfl, by omega, by omega, hide ((seto_ok Y L).more hL16), HM0⟩
      case round =>
        clear HM0
        obtain ⟨k, rfl, rfl, hk40, hkl, HOK, HM⟩ := hrel
        by_cases h1 : k < len2
        · have h1' : (k : Int) < (len2 : Int) := by omega
          by_cases h2 : k < 40
          · have h2' : (k : Int) < 40 := by omega
            obtain ⟨b2, off2, rfl, c0, hx⟩ := HZ.out.at h1 HM.out.bel
            have dm := HDM.out k
            have hnn : nw D (k + 1) = nw D k + D k := rfl
            have hnw := nw_le D HDK.out (k + 1)
            have HDU := hide (due_any 16 (by omega) B (sk Y L D k) ((nw D (k + 1) : Nat) : Int) wr HOK.out HM.out.tim)
            have HNOW := hide (fun l (h : DueIs (sk Y L D k) ((nw D (k + 1) : Nat) : Int) l) => And.intro (sk_due Y HYK.out L hL16 D HDK.out k h2 h) (dueOf_ok HOK.out _ h))
            have hN2000 : nw D (k + 1) ≤ 2000 := by omega
            have hmono : nw D k ≤ nw D (k + 1) := by omega
            have HMONO := hide hmono
            have HT : Hid (∀ W l, Now B (dueOf (sk Y L D k) ((nw D (k + 1) : Nat) : Int)) wr W → MS w B gm (sk Y L D (k + 1)) (mt Y L D k l 0) W) := hide (fun W l h => MS.to (HM.out.now hBl h) (by funext i; simp [mt]))
            have HWAS : Hid (∀ i, was Y L D (k + 1) i ∧ ¬ was Y L D k i → i < L ∧ Y i ≤ nw D (k + 1) ∧ (0 < k → nw D k < Y i)) := hide (fun i h => ⟨h.1.2.1, h.1.2.2, fun h0 => Nat.lt_of_not_le (fun h3 => h.2 ⟨h0, h.1.2.1, h3⟩)⟩)
            have hgl := HM.out.met.lt
            have HK1 : Hid (k + 1 ≤ 40 ∧ k + 1 ≤ len2 ∧ 40 - (k + 1) < 40 - k) := hide ⟨by omega, by omega, by omega⟩
            have hdk := HDK.out k
            have hN0' : nw D k ≤ 2000 := by omega
            have hci : ((nw D (k + 1) : Nat) : Int) = ((nw D k : Nat) : Int) + ((D k : Nat) : Int) := by rw [hnn]; rfl
            have HCI := hide hci
            rw [hci] at HDU HNOW HT
            rw [hnn] at HWAS
            obtain ⟨N0, hN0⟩ : ∃ N0, N0 = nw D k := ⟨_, rfl⟩
            obtain ⟨dk, hd0⟩ : ∃ dk, dk = D k := ⟨_, rfl⟩
            have HN0 := hide hN0
            have HD0 := hide hd0
            rw [← hN0] at HDU HNOW HT HWAS hN0' ⊢
            rw [← hd0] at HDU HNOW HT HWAS hdk dm
            generalize Z k = zk at c0 dm hx
            clear hN0 hd0 hnn hnw hN2000 hmono HM hk40 hkl hci hx
            go_wp2_with (go_at_call 11; refine HDU.out.mono ?_; rintro e w2 hh; obtain ⟨l, v, rfl, hdu, hrow, hN⟩ := hh; obtain ⟨a, c, rfl⟩ := owns_slice hrow)
            have HSD := hide (HNOW.out l hdu).1
            have HOK1 : Hid (Ok 16 (sk Y L D (k + 1))) := hide (by have h := (HNOW.out l hdu).2; rw [HN0.out, HD0.out, ← HCI.out] at h; exact h)
            have HI : Hid (IS w B gm wr.heap.size (sk Y L D (k + 1)) (mt Y L D k l 0) (.slice a l.length c) l w2) := hide ⟨HT.out w2 l hN, hrow, hgl⟩
            have hll : l.length ≤ 16 := by
              have h1 := dueIs_len hdu
              have h2 := dueTo_len (sk Y L D k) (holdN ((N0 : Int) + (dk : Int))) (sk Y L D k).n
              have h3 := HOK.out.n16
              omega
            clear hdu hrow hN HDU HNOW HT c0
            obtain ⟨base, hbase⟩ : ∃ base, base = wr.heap.size := ⟨_, rfl⟩
            rw [← hbase] at HI
            clear hbase hgl
            go_loopw [12] (fun v wq => ∃ j : Nat, v = .int .i64 (j : Int) ∧ j ≤ l.length ∧ Hid (IS w B gm base (sk Y L D (k + 1)) (mt Y L D k l j) (.slice a l.length c) l wq)) (fun v _ => l.length - (intOf v).toNat)
            case atStart => exact ⟨0, rfl, Nat.zero_le _, HI⟩
            case round =>
              clear HI
              obtain ⟨j, rfl, hj, HI⟩ := hrel
              by_cases hjl : j < l.length
              · obtain ⟨g, c', hv, _⟩ := owns_block HI.out.row (by omega)
                simp only [Value.slice.injEq, true_and] at hv
                obtain ⟨rfl, rfl⟩ := hv
                have q1 := HI.out.cell hjl
                have hst := mt_step HSD.out.1 HSD.out.2 hjl
                have hmem : l.getD j 0 ∈ l := by rw [List.getD_eq_getElem?_getD, List.getElem?_eq_getElem hjl]; exact List.getElem_mem hjl
                obtain ⟨hI1, hI2, hI3⟩ := HWAS.out _ ((HSD.out.1 _).1 hmem)
                have m1 := HI.out.ms.met.cell (k := l.getD j 0) (by omega)
                rw [hst.1] at m1
                have m2 := HI.out.ms.met.frozen (l.getD j 0)
                have HP := hide (HI.out.put (i := l.getD j 0) (by omega) 1)
                rw [← hst.2] at HP
                have b1 : (j : Int) < (l.length : Int) := by omega
                have HJ : Hid (j + 1 ≤ l.length ∧ l.length - (j + 1) < l.length - j) := hide ⟨by omega, by omega⟩
                have HBE := hide HI.out.ms.bel
                clear hst hmem HI
                generalize l.getD j 0 = I at *
                obtain ⟨b, off, rfl, c1, hx1⟩ := HY.out.at (i := I) (by omega) HBE.out
                have ym := HYM.out I
                have yk := HYK.out I
                have d1 : decide (len ≤ I) = false := by simp; omega
                have d2 : decide (16 ≤ I) = false := by simp; omega
                have i1 : (I : Int) < (len : Int) := by omega
                have i2 : (I : Int) < 16 := by omega
                have i3 : I < len := by omega
                have i4 : I < 16 := by omega
                generalize Y I = yI at *
                generalize X I = xI at *
                have d3 : decide (N0 + dk < yI) = false := by simp; omega
                have d3' : decide ((N0 : Int) + (dk : Int) < (yI : Int)) = false := by simp; omega
                by_cases hk0 : k = 0
                · have d4 : decide (0 < k) = false := by simp; omega
                  have HK0 := hide hk0
                  clear hk0 hI1 hI2 hI3
                  go_wp2_with fail
                  go_roundw
                  case rel => exact ⟨j + 1, by go_num, HJ.out.1, HP⟩
                  case measure => simp only [intOf]; have := HJ.out.2; omega
                · have d4 : decide (0 < k) = true := by simp; omega
                  have d5 : decide (yI ≤ N0) = false := by have := hI3 (by omega); simp; omega
                  clear hk0 hI1 hI2 hI3
                  go_wp2_with fail
                  go_roundw
                  case rel => exact ⟨j + 1, by go_num, HJ.out.1, HP⟩
                  case measure => simp only [intOf]; have := HJ.out.2; omega
              · have hjl' : j = l.length := by omega
                have HM1 : Hid (MS w B gm (sk Y L D (k + 1)) (mt Y L D (k + 1) [] 0) wr) := hide (by
                  have h := HI.out.ms
                  rw [hjl', mt_next HSD.out.1 HMONO.out []] at h
                  exact h)
                clear hjl' HI
                go_wp2_with fail
                go_roundw
                case rel => exact ⟨k + 1, by rw [HCI.out, HN0.out, HD0.out], by go_num, HK1.out.1, HK1.out.2.1, HOK1, HM1⟩
                case measure => simp only [intOf]; have := HK1.out.2.2; omega
          · have h2' : ¬ (k : Int) < 40 := by omega
            go_wp2_with fail
            go_meet
            exact ⟨k, rfl, hk40, fun h => by omega, fun h => by omega, HM⟩
        · have h1' : ¬ (k : Int) < (len2 : Int) := by omega
          go_wp2_with fail
          go_meet
          exact ⟨k, rfl, hk40, fun h => by omega, fun h => by omega, HM⟩
    case rest =>
      clear HM0
      obtain ⟨k, rfl, hk40, hk0, hk1, HM⟩ := hcut
      have HSK := hide (sk_is Y HYK.out L hL16 D HDK.out k (by omega))
      obtain ⟨N, hN⟩ : ∃ N, N = nw D k := ⟨_, rfl⟩
      have HNN := hide hN
      rw [← hN]
      clear hN
      go_wp2_with fail
      go_loopw [14] (fun v wr => ∃ i : Nat, v = .int .i64 (i : Int) ∧ i ≤ 16 ∧ i ≤ len ∧ Hid (MS w B gm (sk Y L D k) (mt Y L D k [] 0) wr)) (fun v _ => 16 - (intOf v).toNat)
      case atStart => exact ⟨0, rfl, by omega, by omega, HM⟩
      case round =>
        clear HM
        obtain ⟨i, rfl, hi16, hil, HM⟩ := hrel
        by_cases h1 : i < len
        · have h1' : (i : Int) < (len : Int) := by omega
          by_cases h2 : i < 16
          · have h2' : (i : Int) < 16 := by omega
            have hiL : i < L := by omega
            obtain ⟨b, off, rfl, c0, hx⟩ := HY.out.at h1 HM.out.bel
            have ym := HYM.out i
            have yk := HYK.out i
            have T := at_any B (sk Y L D k) (i : Int) (by rw [HSK.out.1]; omega) wr HM.out.tim
            have m1 := HM.out.met.cell (k := i) h2
            have hf := HSK.out.2 i
            have HI1 : Hid (i + 1 ≤ 16 ∧ i + 1 ≤ len ∧ 16 - (i + 1) < 16 - i) := hide ⟨by omega, by omega, by omega⟩
            by_cases hw : was Y L D k i
            · rw [if_pos hw] at hf
              have e2 : stopB (sk Y L D k) (i : Int) = false := decide_eq_false (fun h => by have h3 : 0 < ((sk Y L D k).f i).set := h.2; rw [hf] at h3; simp at h3)
              rw [e2] at T
              rw [show mt Y L D k [] 0 i = 1 from if_pos (Or.inl hw)] at m1
              have d1 : decide (Y i ≤ N) = true := decide_eq_true (by rw [HNN.out]; exact hw.2.2)
              have d2 : decide (0 < len2) = true := by
                have := hw.1
                by_cases z : len2 = 0
                · have := hk0 z; omega
                · simp; omega
              generalize atX (sk Y L D k) (i : Int) = ax at T
              generalize Y i = yi at ym yk d1
              generalize X i = xi at c0 ym hx
              clear hf e2 hk0 hk1 hLd hw
              go_wp2_with (go_at_call 17; refine T.mono ?_; rintro e w3 ⟨rfl, hw3⟩; subst hw3)
              go_roundw
              case rel => exact ⟨i + 1, by go_num, HI1.out.1, HI1.out.2.1, HM⟩
              case measure => simp only [intOf]; have := HI1.out.2.2; omega
            · rw [if_neg hw, if_pos hiL] at hf
              have e2 : stopB (sk Y L D k) (i : Int) = true := decide_eq_true ⟨⟨by omega, by rw [HSK.out.1]; omega⟩, by show 0 < ((sk Y L D k).f i).set; rw [hf]; exact Nat.succ_pos _⟩
              rw [e2] at T
              rw [show mt Y L D k [] 0 i = 0 from if_neg (fun h => by rcases h with h | h; exact hw h; simp at h)] at m1
              by_cases z : len2 = 0
              · have d2 : decide (0 < len2) = false := by simp; omega
                have HZ0 := hide z
                generalize atX (sk Y L D k) (i : Int) = ax at T
                generalize Y i = yi at ym yk
                generalize X i = xi at c0 ym hx
                clear hf e2 hk0 hk1 hLd z hw
                go_wp2_with (go_at_call 17; refine T.mono ?_; rintro e w3 ⟨rfl, hw3⟩; subst hw3)
                go_roundw
                case rel => exact ⟨i + 1, by go_num, HI1.out.1, HI1.out.2.1, HM⟩
                case measure => simp only [intOf]; have := HI1.out.2.2; omega
              · have d2 : decide (0 < len2) = true := by simp; omega
                have d1 : decide (Y i ≤ N) = false := decide_eq_false (fun h => hw ⟨hk1 (by omega), hiL, by rw [← HNN.out]; exact h⟩)
                generalize atX (sk Y L D k) (i : Int) = ax at T
                generalize Y i = yi at ym yk d1
                generalize X i = xi at c0 ym hx
                clear hf e2 hk0 hk1 hLd z hw
                go_wp2_with (go_at_call 17; refine T.mono ?_; rintro e w3 ⟨rfl, hw3⟩; subst hw3)
                go_roundw
                case rel => exact ⟨i + 1, by go_num, HI1.out.1, HI1.out.2.1, HM⟩
                case measure => simp only [intOf]; have := HI1.out.2.2; omega
          · have h2' : ¬ (i : Int) < 16 := by omega
            have hbe := HM.out.bel
            go_wp2_with fail
            refine (awake_any _).mono ?_
            rintro e w4 ⟨rfl, hb4⟩
            replace hbe := below_next hbe hb4
            go_wp2
            go_ret
            exact ⟨rfl, hbe⟩
        · have h1' : ¬ (i : Int) < (len : Int) := by omega
          have hbe := HM.out.bel
          go_wp2_with fail
          refine (awake_any _).mono ?_
          rintro e w4 ⟨rfl, hb4⟩
          replace hbe := below_next hbe hb4
          go_wp2
          go_ret
          exact ⟨rfl, hbe⟩

end Go.Proofs.Ytnciefdhgokffaa
