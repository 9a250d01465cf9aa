/-
  What the law OnceOne asks comes out true at any list of acts.
-/
import Derived.Test.YtinipmandmhgnaaAwake
import Derived.Test.YtinipmandmhgnaaUp
import Derived.Test.YtinipmandmhgnaaMem
import Derived.Deep.DeepCutAuto
namespace Go.Proofs.Ytinipmandmhgnaa
open Go.RowKit

/-- N: how often it was done; D: who was told to do it. -/
def InvO (N D : Int) (l : List Int) (o : Bool) : Prop := (N = 0 ∧ o = false ∧ hold l = D) ∨ (N = 1 ∧ o = true ∧ l = [])
theorem begB_true {l : List Int} {o : Bool} {t : Int} (h : begB l o t = true) : ¬ t < 1 ∧ o = false ∧ l = [] := by
  unfold begB at h
  split at h
  · cases h
  split at h
  · cases h
  split at h
  · cases h
  split at h
  · rename_i h1 h2 _ h4
    exact ⟨h1, by simpa using h2, h4⟩
  · cases h
theorem begB_false {l : List Int} {o : Bool} {t : Int} (h : begB l o t = false) : hold (begL l o t) = hold l := by
  unfold begB at h
  unfold begL
  split
  · rfl
  split
  · rfl
  split
  · rfl
  rename_i h1 h2 h3
  rw [if_neg h1, if_neg h2, if_neg h3] at h
  by_cases hn : l = []
  · rw [if_pos hn] at h; cases h
  · exact (snoc_tail hn t).2
theorem begL_first {t : Int} (h1 : ¬ t < 1) : begL [] false t = [t] ∧ begE [] false t = 0 := ⟨(beg_new h1 rfl rfl).2.2, (beg_new h1 rfl rfl).2.1⟩
theorem dnE_no {l : List Int} {t : Int} (h : ¬ has l t) : (dnE l t == 0) = false := by
  unfold dnE
  rw [if_neg h]
  split <;> rfl

set_option maxRecDepth 20000 in
set_option maxHeartbeats 8000000 in
theorem one_walk (a1 : Option Addr) (l1 c1 : Nat) (h1 : l1 ≤ c1) (g1 : c1 ≤ maxLen) (w : World) (hact1 : Acts w a1 l1) : Calls Try.prog 4 #[.slice a1 l1 c1] w fun e w' => e = .returned (.bool true) ∧ Below w.heap.size w w' := by
  have hl1 : l1 ≤ maxLen := Nat.le_trans h1 g1
  unfold maxLen at hl1
  clear h1 g1
  have HA1 := hide hact1
  clear hact1
  have N0 := hide (x_new (w := w))
  have HAW := hide awake_any
  go_enter Try.func4, Try.ntmps4
  go_wp2_with fail
  refine N0.out.mono ?_
  rintro e w1 ⟨rfl, hA⟩
  have HX0 := hide hA
  clear hA N0
  generalize w.heap.size = M at HX0 ⊢
  go_wp2_with fail
  go_loopw [4, 5, 6] (fun v4 v5 v6 wr => ∃ (k : Nat) (l : List Int) (o : Bool) (D N : Int), v4 = .int .i64 D ∧ v5 = .int .i64 N ∧ v6 = .int .i64 (k : Int) ∧ k ≤ 60 ∧ k ≤ l1 ∧ Hid (InvO N D l o) ∧ Hid (Okz l) ∧ List.length l ≤ k ∧ Hid (Xs w M none0 l o wr)) (fun _ _ i _ => 60 - (intOf i).toNat)
  case atStart => exact ⟨0, [], false, 0, 0, rfl, rfl, rfl, by omega, by omega, Or.inl ⟨rfl, rfl, rfl⟩, Okz.nil, by simp, HX0⟩
  case round =>
    clear HX0
    obtain ⟨k, l, o, D, N, rfl, rfl, rfl, hk60, hkl, HI, HO, hlen, HX⟩ := hrel
    by_cases q1 : k < l1
    · have q1' : (k : Int) < (l1 : Int) := by omega
      by_cases q2 : k < 60
      · have q2' : (k : Int) < 60 := by omega
        have q0' : (0 : Int) ≤ (k : Int) := by omega
        obtain ⟨b2, off2, d, t, rfl, hlt2, p0, p1, hd, _⟩ := HA1.out k q1
        have p0' := ((bcell HX.out.2.2).1 _ _ hlt2).trans p0
        have p1' := ((bcell HX.out.2.2).1 _ _ hlt2).trans p1
        have hl9 : l.length ≤ 1000 := by omega
        have HLN := hide hlen
        have HKL := hide (show k + 1 ≤ 60 ∧ k + 1 ≤ l1 from by omega)
        clear p0 p1 hd hlen HAW
        by_cases hdz : d.tmod 4 = 0
        · rcases HI.out with ⟨rfl, rfl, hD⟩ | ⟨rfl, rfl, rfl⟩
          · by_cases hh : has l t
            · obtain ⟨e1, e2, e3, e4⟩ := dn_yes (o := false) hh
              have HC := x_dn t HX.out
              rw [e1, e2, e3, e4] at HC
              have eD : D = t := hD.symm.trans hh.2.2
              subst eD
              have tt : (D != D) = false := by simp
              have HC1 := hide HC
              clear HC hD hh e1 e2 e3 e4 HI HX
              go_wp2_with fail
              refine HC1.out.mono ?_
              rintro e w2 ⟨a2, c2, rfl, _, hA, _⟩
              have HX2 : Hid (Xs w M none0 [] true w2) := hide (hA.mono fun _ h => Or.inl h)
              clear hA HC1 p0' p1' hdz
              go_wp2_with fail
              refine (x_over HX2.out).mono ?_
              rintro e w3 ⟨rfl, hw⟩
              subst hw
              go_wp2_with fail
              go_roundw
              case rel => exact ⟨k + 1, [], true, _, 1, rfl, rfl, by go_num, HKL.out.1, HKL.out.2, Or.inr ⟨rfl, rfl, rfl⟩, Okz.nil, by simp, HX2⟩
              case measure => simp [intOf]; omega
            · obtain ⟨e1, e3, e4⟩ := dn_no (o := false) hh
              have HC := x_dn t HX.out
              have eE := dnE_no hh
              rw [e1, e3, e4] at HC
              have HC1 := hide HC
              have HD := hide hD
              clear HC hD hh e1 e3 e4 HI HX
              generalize dnE l t = E at *
              go_wp2_with fail
              refine HC1.out.mono ?_
              rintro e w2 ⟨a2, c2, rfl, _, hA, _⟩
              have HX2 : Hid (Xs w M none0 l false w2) := hide (hA.mono fun _ h => Or.inl h)
              clear hA HC1 p0' p1' hdz
              go_wp2_with fail
              refine (x_over HX2.out).mono ?_
              rintro e w3 ⟨rfl, hw⟩
              subst hw
              go_wp2_with fail
              refine (x_doer HX2.out).mono ?_
              rintro e w4 ⟨rfl, hw⟩
              subst hw
              rw [HD.out]
              have tt : (D != D) = false := by simp
              go_wp2_with fail
              go_roundw
              case rel => exact ⟨k + 1, l, false, _, 0, rfl, rfl, by go_num, HKL.out.1, HKL.out.2, Or.inl ⟨rfl, rfl, HD.out⟩, HO, Nat.le_succ_of_le HLN.out, HX2⟩
              case measure => simp [intOf]; omega
          · have hh : ¬ has [] t := fun h => h.2.1 rfl
            obtain ⟨e1, e3, e4⟩ := dn_no (o := true) hh
            have HC := x_dn t HX.out
            have eE := dnE_no hh
            rw [e1, e3, e4] at HC
            have HC1 := hide HC
            clear HC hh e1 e3 e4 HI HX
            generalize dnE [] t = E at *
            go_wp2_with fail
            refine HC1.out.mono ?_
            rintro e w2 ⟨a2, c2, rfl, _, hA, _⟩
            have HX2 : Hid (Xs w M none0 [] true w2) := hide (hA.mono fun _ h => Or.inl h)
            clear hA HC1 p0' p1' hdz
            go_wp2_with fail
            refine (x_over HX2.out).mono ?_
            rintro e w3 ⟨rfl, hw⟩
            subst hw
            go_wp2_with fail
            go_roundw
            case rel => exact ⟨k + 1, [], true, _, 1, rfl, rfl, by go_num, HKL.out.1, HKL.out.2, Or.inr ⟨rfl, rfl, rfl⟩, Okz.nil, by simp, HX2⟩
            case measure => simp [intOf]; omega
        · have hdf : (d.tmod 4 == 0) = false := by simpa using hdz
          rcases HI.out with ⟨rfl, rfl, hD⟩ | ⟨rfl, rfl, rfl⟩
          · have HC := x_beg HO.out hl9 t HX.out
            have HOn : Hid (Okz (begL l false t)) := hide (HO.out.beg false t)
            have HLn : Hid ((begL l false t).length ≤ k + 1) := hide (Nat.le_trans (beg_len l false t) (Nat.succ_le_succ HLN.out))
            cases hb : begB l false t
            · have HD : Hid (hold (begL l false t) = D) := hide ((begB_false hb).trans hD)
              rw [hb] at HC
              have HC1 := hide HC
              clear HC hD hb HI HX HO HLN hl9
              generalize begE l false t = E at *
              generalize begL l false t = L at *
              go_wp2_with fail
              refine HC1.out.mono ?_
              rintro e w2 ⟨rfl, hA, _⟩
              have HX2 := hide hA
              clear hA HC1 p0' p1' hdz hdf
              go_wp2_with fail
              refine (x_over HX2.out).mono ?_
              rintro e w3 ⟨rfl, hw⟩
              subst hw
              go_wp2_with fail
              refine (x_doer HX2.out).mono ?_
              rintro e w4 ⟨rfl, hw⟩
              subst hw
              rw [HD.out]
              have tt : (D != D) = false := by simp
              go_wp2_with fail
              go_roundw
              case rel => exact ⟨k + 1, L, false, _, 0, rfl, rfl, by go_num, HKL.out.1, HKL.out.2, Or.inl ⟨rfl, rfl, HD.out⟩, HOn, HLn.out, HX2⟩
              case measure => simp [intOf]; omega
            · obtain ⟨hb1, _, rfl⟩ := begB_true hb
              rw [hb, (begL_first hb1).1, (begL_first hb1).2] at HC
              rw [(begL_first hb1).1] at HOn HLn
              rw [hold_nil] at hD
              subst hD
              have HD : Hid (hold [t] = t) := hide rfl
              have HC1 := hide HC
              clear HC hb HI HX HO HLN hl9
              go_wp2_with fail
              refine HC1.out.mono ?_
              rintro e w2 ⟨rfl, hA, _⟩
              have HX2 := hide hA
              clear hA HC1 p0' p1' hdz hdf
              go_wp2_with fail
              refine (x_over HX2.out).mono ?_
              rintro e w3 ⟨rfl, hw⟩
              subst hw
              go_wp2_with fail
              refine (x_doer HX2.out).mono ?_
              rintro e w4 ⟨rfl, hw⟩
              subst hw
              rw [HD.out]
              have tt : (t != t) = false := by simp
              go_wp2_with fail
              go_roundw
              case rel => exact ⟨k + 1, [t], false, _, 0, rfl, rfl, by go_num, HKL.out.1, HKL.out.2, Or.inl ⟨rfl, rfl, rfl⟩, HOn, HLn.out, HX2⟩
              case measure => simp [intOf]; omega
          · have HC := x_beg Okz.nil (by decide) t HX.out
            have e1 : begB [] true t = false := by unfold begB; split <;> rfl
            have e2 : begL [] true t = [] := by unfold begL; split <;> rfl
            rw [e1, e2] at HC
            have HC1 := hide HC
            clear HC e1 e2 HI HX HO HLN hl9
            generalize begE [] true t = E at *
            go_wp2_with fail
            refine HC1.out.mono ?_
            rintro e w2 ⟨rfl, hA, _⟩
            have HX2 := hide hA
            clear hA HC1 p0' p1' hdz hdf
            go_wp2_with fail
            refine (x_over HX2.out).mono ?_
            rintro e w3 ⟨rfl, hw⟩
            subst hw
            go_wp2_with fail
            go_roundw
            case rel => exact ⟨k + 1, [], true, _, 1, rfl, rfl, by go_num, HKL.out.1, HKL.out.2, Or.inr ⟨rfl, rfl, rfl⟩, Okz.nil, by simp, HX2⟩
            case measure => simp [intOf]; omega
      · have q2' : ¬ (k : Int) < 60 := by omega
        have q1' : (k : Int) < (l1 : Int) := by omega
        go_wp2_with fail
        refine (HAW.out _).mono ?_
        rintro e w2 ⟨rfl, hb⟩
        have HB := hide (HX.out.below hb).2.2
        clear hb HX
        go_wp2
        go_ret
        exact ⟨rfl, HB.out⟩
    · have q1' : ¬ (k : Int) < (l1 : Int) := by omega
      go_wp2_with fail
      refine (HAW.out _).mono ?_
      rintro e w2 ⟨rfl, hb⟩
      have HB := hide (HX.out.below hb).2.2
      clear hb HX
      go_wp2
      go_ret
      exact ⟨rfl, HB.out⟩

end Go.Proofs.Ytinipmandmhgnaa
