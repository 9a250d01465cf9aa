/-
  What the law WheelOrder asks comes out true at any list of bytes and any byte.
-/
import Derived.Test.YtnciefdhgokffaaNums
import Derived.Deep.CutBlock
namespace Go.Proofs.Ytnciefdhgokffaa
open Go.RowKit

theorem tmod_nat (x m : Nat) : (x : Int).tmod (m : Int) = ((x % m : Nat) : Int) := by rw [Int.tmod_eq_emod_of_nonneg (by omega)]; omega
/-- What is due of timers that were set one by one is in order. -/
theorem ord_pair {Y : Nat → Nat} (hY : ∀ i, Y i ≤ 1000) {L : Nat} (hL : L ≤ 16) {t : Int} {l : List Nat} (h : DueIs (seto Y L) t l) : (∀ j, j < l.length → l.getD j 0 < L ∧ Y (l.getD j 0) ≤ holdN t) ∧ ∀ m, m + 1 < l.length → Y (l.getD m 0) < Y (l.getD (m + 1) 0) ∨ Y (l.getD m 0) = Y (l.getD (m + 1) 0) ∧ l.getD m 0 < l.getD (m + 1) 0 := by
  obtain ⟨hn, _, hf, _⟩ := seto_is Y hY L hL
  have hm : ∀ j, j < l.length → l.getD j 0 < L ∧ Y (l.getD j 0) ≤ holdN t := fun j hj => by
    rw [List.getD_eq_getElem?_getD, List.getElem?_eq_getElem hj, Option.getD_some]
    have := (perm_ids h.1 l[j] (List.getElem_mem hj)).2
    rw [isDue, hf] at this
    by_cases c : l[j] < L
    · rw [if_pos c] at this; exact ⟨c, this.2⟩
    · rw [if_neg c] at this; exact absurd this.1 (by simp)
  refine ⟨hm, fun m h1 => ?_⟩
  have hk := (List.pairwise_iff_getElem.1 h.2) m (m + 1) (by omega) h1 (by omega)
  have a := hm m (by omega)
  have b := hm (m + 1) h1
  rw [List.getD_eq_getElem?_getD, List.getElem?_eq_getElem (by omega : m < l.length), Option.getD_some] at a ⊢
  rw [List.getD_eq_getElem?_getD, List.getElem?_eq_getElem h1, Option.getD_some] at b ⊢
  unfold key at hk
  rw [hf, hf, if_pos a.1, if_pos b.1] at hk
  simp only at hk
  omega
/-- What is left is due later. -/
theorem next_later {σ : Ws} {t : Int} (h : (nx (dueOf σ t) (dueOf σ t).n).2 = true) : holdN t < (nx (dueOf σ t) (dueOf σ t).n).1 := by
  obtain ⟨⟨i, h1, h2, h3⟩, _⟩ := (nx_spec (dueOf σ t) (dueOf σ t).n).2 h
  have hi : i < σ.n := h1
  have e : (dueOf σ t).f i = if i < σ.n ∧ isDue σ (holdN t) i then ⟨0, 0⟩ else σ.f i := rfl
  by_cases c : i < σ.n ∧ isDue σ (holdN t) i
  · rw [e, if_pos c] at h2; simp at h2
  · rw [e, if_neg c] at h2 h3
    rw [← h3]
    have : ¬ (σ.f i).due ≤ holdN t := fun k => c ⟨hi, h2, k⟩
    omega

structure OS (w : World) (B : Nat) (σ : Ws) (v : Value) (l : List Nat) (W : World) : Prop where
  tim : AtW W B σ
  row : W.ownsRow w.heap.size 3 1 v l.length (cI l)
  bel : Below w.heap.size w W
theorem OS.below {w : World} {B : Nat} {σ : Ws} {v : Value} {l : List Nat} {W W' : World} (h : OS w B σ v l W) (k : Below W.heap.size W W') : OS w B σ v l W' := ⟨h.tim.below k, owns_below h.row k, below_next h.bel k⟩
theorem OS.cell {w : World} {B : Nat} {σ : Ws} {g c : Nat} {l : List Nat} {W : World} (h : OS w B σ (.slice (some ⟨g, 0, none⟩) l.length c) l W) {j : Nat} (hj : j < l.length) : W.cell? ⟨g, j, none⟩ = some (.int .i64 ((l.getD j 0 : Nat) : Int)) := (HasR.of_owns h.row).cell hj
theorem owns_up {W : World} {b b' e s n : Nat} {v : Value} {xs : List Value} (h : W.ownsRow b' e s v n xs) (hb : b ≤ b') : W.ownsRow b e s v n xs := by
  refine ⟨h.1, ?_⟩
  rcases h.2 with h3 | ⟨g, cap, cur, rfl, k, r⟩
  · exact Or.inl h3
  · exact Or.inr ⟨g, cap, cur, rfl, Nat.le_trans hb k, r⟩

set_option maxHeartbeats 8000000 in
set_option maxRecDepth 100000 in
theorem wheelOrder_walk (ad : Option Addr) (len cap : Nat) (hcap : len ≤ cap) (hmax : cap ≤ maxLen) (X : Nat → Nat) (now : Nat) (w : World) (hy : NumsAt .u8 255 w ad len X) :
    Calls Try.prog 5 #[.slice ad len cap, .int .u8 (now : Int)] w fun e w' => e = .returned (.bool true) ∧ Below w.heap.size w w' := by
  have hl : len ≤ 9223372036854775807 := by unfold maxLen at hmax; omega
  have HY := hide hy
  clear hmax hy
  obtain ⟨Y, hYd⟩ : ∃ Y : Nat → Nat, Y = fun i => X i % 8 := ⟨_, rfl⟩
  have hYi : ∀ i, Y i = X i % 8 := fun i => by rw [hYd]
  have HYM : Hid (∀ i, ((X i : Nat) : Int).tmod 8 = ((Y i : Nat) : Int)) := fun i => by rw [hYi]; exact tmod_nat (X i) 8
  have HY8 : Hid (∀ i, Y i ≤ 7) := fun i => by rw [hYi]; omega
  have HYK : Hid (∀ i, Y i ≤ 1000) := fun i => by have := HY8.out i; omega
  clear hYd hYi
  have HN : Hid (∀ W : World, Calls Try.prog 8 #[.int .i64 16] W fun e w' => e = .returned (.pointer (some ⟨W.heap.size, 0, none⟩)) ∧ AtW w' W.heap.size (newOf 16) ∧ Below W.heap.size W w') := fun W => new_any 16 W
  obtain ⟨T, hT⟩ : ∃ T, T = now % 10 := ⟨_, rfl⟩
  have hTm : (now : Int).tmod 10 = (T : Int) := by rw [hT]; exact tmod_nat now 10
  have hT10 : T < 10 := by omega
  have HTH : Hid (holdN (T : Int) = T) := hide (holdN_nat (by omega))
  clear hT
  go_enter Try.func5, Try.ntmps5
  go_wp2_with fail
  refine (HN.out _).mono ?_
  rintro e w1 ⟨rfl, hA, hb⟩
  obtain ⟨B, hB⟩ : ∃ B, B = w.heap.size := ⟨_, rfl⟩
  rw [← hB] at hA ⊢
  have HA := hide hA
  have hBl : w.heap.size ≤ B := by omega
  clear hA hB HN
  go_upto_block 0 with fail
  go_cut [] (fun w' => ∃ k : Nat, k ≤ 16 ∧ k ≤ len ∧ Hid (AtW w' B (seto Y k)) ∧ Below w.heap.size w w')
  case first =>
    go_wp2_with fail
    go_loopw [6] (fun v wr => ∃ k : Nat, v = .int .i64 (k : Int) ∧ k ≤ 16 ∧ k ≤ len ∧ Hid (AtW wr B (seto Y k)) ∧ Below w.heap.size w wr) (fun v _ => 16 - (intOf v).toNat)
    case atStart => exact ⟨0, rfl, by omega, by omega, HA, hb⟩
    case round =>
      clear HA hb
      obtain ⟨k, rfl, hk16, hkl, HA, hb⟩ := hrel
      by_cases h1 : k < len
      · have h1' : (k : Int) < (len : Int) := by omega
        by_cases h2 : k < 16
        · have h2' : (k : Int) < 16 := by omega
          obtain ⟨b, off, rfl, c0, hx⟩ := HY.out.at h1 hb
          have ym := HYM.out k
          have HS := hide (set_any k (by omega) B (seto Y k) (k : Int) ((Y k : Nat) : Int) wr (seto_ok Y k) HA.out)
          rw [(seto_is Y HYK.out k (by omega)).2.2.2 h2] at HS
          have HE : Hid (seto Y (k + 1) = setOf (seto Y k) (k : Int) ((Y k : Nat) : Int)) := hide rfl
          have y7 := HY8.out k
          generalize Y k = yk at *
          generalize X k = xk at *
          clear HA
          go_wp2_with (go_at_call 15; refine HS.out.mono ?_; rintro e w2 ⟨rfl, hA2, ht⟩)
          have HA2 : Hid (AtW w2 B (seto Y (k + 1))) := hide (by rw [HE.out]; exact hA2)
          replace hb := turn_next hb ht hBl
          clear hA2 ht HS
          go_wp2_with fail
          go_roundw
          case rel => exact ⟨k + 1, by go_num, by omega, by omega, HA2, hb⟩
          case measure => simp [intOf]; omega
        · have h2' : ¬ (k : Int) < 16 := by omega
          go_wp2_with fail
          go_meet
          exact ⟨k, hk16, hkl, HA, hb⟩
      · have h1' : ¬ (k : Int) < (len : Int) := by omega
        go_wp2_with fail
        go_meet
        exact ⟨k, hk16, hkl, HA, hb⟩
  case rest =>
    clear HA hb
    obtain ⟨L, hL16, hLl, HA, hb⟩ := hcut
    have hz := hb.size
    have HD := hide (due_any 16 (by omega) B (seto Y L) (T : Int) wc ((seto_ok Y L).more hL16) HA.out)
    clear HA
    go_wp2_with (go_at_call 11; refine HD.out.mono ?_; rintro e w2 hh; obtain ⟨l, v, rfl, hdu, hrow, hN⟩ := hh; obtain ⟨a, c, rfl⟩ := owns_slice hrow)
    have HP := hide (ord_pair HYK.out hL16 hdu)
    have HO : Hid (OS w B (dueOf (seto Y L) (T : Int)) (.slice a l.length c) l w2) := hide ⟨hN.1, owns_up hrow hz, turn_next hb hN.2 hBl⟩
    have hll : l.length ≤ 16 := by
      have h1 := dueIs_len hdu
      have h2 := dueTo_len (seto Y L) (holdN (T : Int)) (seto Y L).n
      have h3 := (seto_ok Y L).n16
      omega
    clear hdu hrow hN hb HD
    go_loopw [8] (fun v wr => ∃ k : Nat, v = .int .i64 (k : Int) ∧ k ≤ l.length ∧ Hid (OS w B (dueOf (seto Y L) (T : Int)) (.slice a l.length c) l wr)) (fun v _ => l.length - (intOf v).toNat)
    case atStart => exact ⟨0, rfl, Nat.zero_le _, HO⟩
    case round =>
      clear HO
      obtain ⟨k, rfl, hk, HO⟩ := hrel
      by_cases hlt : k < l.length
      · obtain ⟨g, c', hv, _⟩ := owns_block HO.out.row (by omega)
        simp only [Value.slice.injEq, true_and] at hv
        obtain ⟨rfl, rfl⟩ := hv
        have q1 := HO.out.cell hlt
        have hI := (HP.out.1 k hlt).1
        have b1 : (k : Int) < (l.length : Int) := by omega
        by_cases hk0 : k = 0
        · have d0 : decide (0 < k) = false := by simp; omega
          have HK0 := hide hk0
          generalize l.getD k 0 = I at *
          have d1 : decide (len ≤ I) = false := by simp; omega
          clear hk0 hI
          go_wp2
          go_roundw
          case rel => exact ⟨k + 1, by go_num, by omega, HO⟩
          case measure => simp [intOf]; omega
        · obtain ⟨m, hm1, hm2⟩ : ∃ m, k ≤ m + 1 ∧ m + 1 ≤ k := ⟨k - 1, by omega, by omega⟩
          have hkm : k = m + 1 := by omega
          have q2 := HO.out.cell (j := m) (by omega)
          have hJ := (HP.out.1 m (by omega)).1
          have hpair := HP.out.2 m (by omega)
          rw [← hkm] at hpair
          clear hkm
          generalize l.getD k 0 = I at *
          generalize l.getD m 0 = J at *
          obtain ⟨b, off, rfl, c1, hx1⟩ := HY.out.at (i := I) (by omega) HO.out.bel
          obtain ⟨b', off', hbb, c2, hx2⟩ := HY.out.at (i := J) (by omega) HO.out.bel
          simp only [Option.some.injEq, Addr.mk.injEq, and_true] at hbb
          obtain ⟨rfl, rfl⟩ := hbb
          have y1 := HYM.out I
          have y2 := HYM.out J
          have d0 : decide (0 < k) = true := by simp; omega
          have d1 : decide (len ≤ I) = false := by simp; omega
          have i1 : (I : Int) < (len : Int) := by omega
          have i2 : (J : Int) < (len : Int) := by omega
          have i3 : I < len := by omega
          have i4 : J < len := by omega
          have i5 : (m : Int) < (l.length : Int) := by omega
          have i6 : m < l.length := by omega
          have hk100 : k ≤ 100 := by omega
          have n1 := HY8.out I
          have n2 := HY8.out J
          generalize Y I = yI at *
          generalize Y J = yJ at *
          generalize X I = xI at *
          generalize X J = xJ at *
          have d2 : decide (yI < yJ) = false := by simp; omega
          have HM : Hid (k + 1 ≤ l.length ∧ l.length - (k + 1) < l.length - k) := hide ⟨by omega, by omega⟩
          by_cases heq : yJ = yI
          · have d3 : decide (I ≤ J) = false := by simp; omega
            subst heq
            obtain ⟨a3, a4⟩ := pred_facts hm1 hm2 hk100
            clear hpair hJ hI hlt hk0 hm1 hm2 hk100 hk
            go_wp2_with fail
            go_quiet (fail)
            go_wp2_with fail
            go_quiet (fail)
            go_wp2
            go_roundw
            case rel => exact ⟨k + 1, by go_num, HM.out.1, hide (HO.out.below (below_drewN _ _))⟩
            case measure => simp only [intOf]; have := HM.out.2; omega
          · have d3 : (yJ == yI) = false := by simp [heq]
            have d4 : ((yJ : Int) == (yI : Int)) = false := by simp; omega
            obtain ⟨a3, a4⟩ := pred_facts hm1 hm2 hk100
            clear hpair hJ hI hlt hk0 hm1 hm2 hk100 hk heq
            go_wp2_with fail
            go_quiet (fail)
            go_wp2_with fail
            go_quiet (fail)
            go_wp2
            go_roundw
            case rel => exact ⟨k + 1, by go_num, HM.out.1, hide (HO.out.below (below_drewN _ _))⟩
            case measure => simp only [intOf]; have := HM.out.2; omega
      · have hn : (dueOf (seto Y L) (T : Int)).n ≤ 16 := (seto_ok Y L).n16
        have HX := hide (next_is B (dueOf (seto Y L) (T : Int)) hn wr HO.out.tim)
        have HLT : Hid ((nx (dueOf (seto Y L) (T : Int)) (dueOf (seto Y L) (T : Int)).n).2 = true → T < (nx (dueOf (seto Y L) (T : Int)) (dueOf (seto Y L) (T : Int)).n).1) := hide (fun h => by have := next_later h; rw [HTH.out] at this; exact this)
        obtain ⟨nn, bb, hnb⟩ : ∃ nn bb, nx (dueOf (seto Y L) (T : Int)) (dueOf (seto Y L) (T : Int)).n = (nn, bb) := ⟨_, _, rfl⟩
        rw [hnb] at HX HLT
        simp only at HX HLT
        have hbe := HO.out.bel
        clear hnb HO HP
        go_wp2_with (go_at_call 19; refine HX.out.mono ?_; rintro e w3 ⟨rfl, hw3⟩; subst hw3)
        refine (awake_any _).mono ?_
        rintro e w4 ⟨rfl, hb4⟩
        replace hbe := below_next hbe hb4
        clear hb4
        cases bb
        · go_wp2
          go_ret
          exact ⟨rfl, hbe⟩
        · have hd : decide (T < nn) = true := decide_eq_true (HLT.out rfl)
          go_wp2
          go_ret
          exact ⟨rfl, hbe⟩

end Go.Proofs.Ytnciefdhgokffaa
