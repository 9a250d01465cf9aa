/-
  What the document's own answer for the first thing that may not be comes to.
-/
import Derived.Test.YtmhjoomkeidcaaaDoorL3Wide
namespace Go.Proofs.YtmhjoomkeidcaaaDoor.L3
open Go.RowKit

theorem okC_take (a : UInt8) (t : List UInt8) : okC ((a :: t).take (far (a :: t))) = (decide (wide (a :: t) ≠ 0) && !(decide (a.toNat < 32) && decide (a.toNat ≠ 10) || decide (a.toNat = 127))) := by
  have htw := take_wide (a :: t) (by simp)
  have hfp := far_pos (a :: t)
  obtain ⟨n, hn⟩ : ∃ n, far (a :: t) = n + 1 := ⟨far (a :: t) - 1, by omega⟩
  have hc : (a :: t).take (far (a :: t)) = a :: t.take n := by rw [hn, List.take_succ_cons]
  rw [← htw, hc]; rfl
theorem take_is (a : UInt8) (t : List UInt8) (x : UInt8) (hx : x.toNat < 128) : (a :: t).take (far (a :: t)) = [x] ↔ a = x := by
  have hfp := far_pos (a :: t)
  obtain ⟨n, hn⟩ : ∃ n, far (a :: t) = n + 1 := ⟨far (a :: t) - 1, by omega⟩
  have hc : (a :: t).take (far (a :: t)) = a :: t.take n := by rw [hn, List.take_succ_cons]
  constructor
  · intro e; rw [hc] at e; injection e
  · intro e
    subst e
    have : far (a :: t) = 1 := by unfold far; rw [wide_low hx]; rfl
    rw [this]; rfl

/-- What the first rune of a text is to the place of what may not be. -/
theorem bad_first (a : UInt8) (t : List UInt8) (line col : Nat) :
    (wide (a :: t) = 0 → bad (chop (a :: t)) line col = (line, col)) ∧
    (a.toNat < 32 → a.toNat ≠ 10 → bad (chop (a :: t)) line col = (line, col)) ∧
    (a.toNat = 127 → bad (chop (a :: t)) line col = (line, col)) ∧
    (a.toNat = 10 → bad (chop (a :: t)) line col = bad (chop ((a :: t).drop (wide (a :: t)))) (line + 1) 1) ∧
    (wide (a :: t) ≠ 0 → ¬ a.toNat < 32 → a.toNat ≠ 127 → bad (chop (a :: t)) line col = bad (chop ((a :: t).drop (wide (a :: t)))) line (col + 1)) := by
  have hok := okC_take a t
  rw [chop_cons (a :: t) (by simp)]
  simp only [bad]
  refine ⟨fun h => ?_, fun h1 h2 => ?_, fun h => ?_, fun h => ?_, fun h1 h2 h3 => ?_⟩
  · rw [if_neg]; rw [hok, h]; simp
  · rw [if_neg]; rw [hok, decide_eq_true h1, decide_eq_true h2]; simp
  · rw [if_neg]; rw [hok, decide_eq_true h]; simp
  · have ha : a = 10 := UInt8.toNat_inj.1 h
    have hw : wide (a :: t) = 1 := wide_low (by omega)
    have hf : far (a :: t) = 1 := by unfold far; rw [hw]; rfl
    have hc := (take_is a t 10 (by decide)).2 ha
    rw [if_pos]
    · rw [hc, hf, hw]; rfl
    · rw [hok, hw, h]; rfl
  · have hf : far (a :: t) = wide (a :: t) := by unfold far; omega
    have hc : ¬ (a :: t).take (far (a :: t)) = [10] := fun e => by
      have := (take_is a t 10 (by decide)).1 e
      rw [this] at h2
      exact h2 (by decide)
    rw [if_pos]
    · unfold nextL nextC; rw [if_neg hc, if_neg hc, hf]
    · rw [hok, decide_eq_true h1, decide_eq_false h2, decide_eq_false h3]; rfl

set_option maxHeartbeats 1000000 in
theorem refBad_any (s : ByteArray) (hz : s.size ≤ 4096) (w : World) :
    Calls Tryd.prog 60 #[.string s] w fun e w' => e = .returned (.tuple #[.int .i64 ((bad (chop s.data.toList) 1 1).1 : Nat), .int .i64 ((bad (chop s.data.toList) 1 1).2 : Nat)]) ∧ w' = w := by
  obtain ⟨X, hX⟩ : ∃ X, bad (chop s.data.toList) 1 1 = X := ⟨_, rfl⟩
  rw [hX]
  go_enter Tryd.func60, Tryd.ntmps60
  go_wp2
  go_loop [4, 5, 6] (fun lv cv iv => ∃ (pos line col : Nat), lv = .int .i64 line ∧ cv = .int .i64 col ∧ iv = .int .i64 pos ∧ bad (chop (s.data.toList.drop pos)) line (col + 1) = X ∧ line ≤ pos + 1 ∧ col ≤ pos ∧ pos ≤ s.size) (fun _ _ i => s.size - (intOf i).toNat)
  case atStart => exact ⟨0, 1, 0, rfl, rfl, rfl, by rw [List.drop_zero]; exact hX, by omega, by omega, by omega⟩
  case round =>
    obtain ⟨pos, line, col, rfl, rfl, rfl, hbad, hl1, hc1, hps⟩ := hrel
    by_cases hp : (pos : Int) < s.size
    · have hps' : pos < s.size := by omega
      obtain ⟨b, hd, hb⟩ := byte_at hps'
      obtain ⟨t, ht⟩ : ∃ t, s.data.toList.drop (pos + 1) = t := ⟨_, rfl⟩
      rw [ht] at hd
      rw [hd] at hbad
      have hW := wide_any (s.extract pos s.size)
      rw [extract_rest, hd] at hW
      obtain ⟨n, hn⟩ : ∃ n, wide (b :: t) = n := ⟨_, rfl⟩
      have hwl := wide_length (b :: t)
      have hlen : (b :: t).length = s.size - pos := by rw [← hd, List.length_drop, size_list]
      obtain ⟨f1, f2, f3, f4, f5⟩ := bad_first b t line (col + 1)
      rw [hn] at hW f1 f4 f5 hwl
      rw [hlen] at hwl
      have hdn : (b :: t).drop n = s.data.toList.drop (pos + n) := by rw [← hd, List.drop_drop]
      rw [hdn, hbad] at f4 f5
      rw [hbad] at f1 f2 f3
      obtain ⟨x, hx⟩ : ∃ x, b.toNat = x := ⟨_, rfl⟩
      rw [hx] at hb f2 f3 f4 f5
      have hx1 : x = 10 → n ≠ 0 := fun e => by rw [← hn, wide_low (by omega)]; omega
      clear hbad hd ht hn hlen hdn hx
      by_cases hn0 : n = 0
      · subst hn0
        have hXe := f1 rfl
        subst hXe
        clear f1 f2 f3 f4 f5 hx1
        go_wp2_with fail
        refine (hW _).mono ?_
        rintro e w1 ⟨rfl, rfl⟩
        go_wp2
        go_ret2
        exact ⟨rfl, rfl⟩
      · have hnb : ((n : Int) == 0) = false := by rw [beq_eq_false_iff_ne]; omega
        by_cases hx10 : x = 10
        · have F := f4 hx10
          subst hx10
          have HF : Hid (X = bad (chop (s.data.toList.drop (pos + n))) (line + 1) 1) := F
          clear f1 f2 f3 f4 f5 F hx1
          go_wp2_with fail
          refine (hW _).mono ?_
          rintro e w1 ⟨rfl, rfl⟩
          go_wp2_with fail
          go_round
          case rel => exact ⟨pos + n, line + 1, 0, by go_num, rfl, by go_num, HF.out.symm, by omega, by omega, by omega⟩
          case measure => simp [intOf]; omega
        · have hxb : ((x : Int) != 10) = true := by simp; omega
          have hxb2 : ((x : Int) == 10) = false := by rw [beq_eq_false_iff_ne]; omega
          by_cases hx32 : (x : Int) < 32
          · have hXe := f2 (by omega) hx10
            subst hXe
            clear f1 f2 f3 f4 f5 hx1 hx10
            go_wp2_with fail
            refine (hW _).mono ?_
            rintro e w1 ⟨rfl, rfl⟩
            go_wp2
            go_ret2
            exact ⟨rfl, rfl⟩
          · by_cases hx127 : x = 127
            · have hXe := f3 hx127
              subst hXe
              subst hx127
              clear f1 f2 f3 f4 f5 hx1 hx10
              go_wp2_with fail
              refine (hW _).mono ?_
              rintro e w1 ⟨rfl, rfl⟩
              go_wp2
              go_ret2
              exact ⟨rfl, rfl⟩
            · have hxb3 : ((x : Int) == 127) = false := by rw [beq_eq_false_iff_ne]; omega
              have F := f5 hn0 (by omega) hx127
              have HF : Hid (X = bad (chop (s.data.toList.drop (pos + n))) line (col + 1 + 1)) := F
              clear f1 f2 f3 f4 f5 F hx1 hx10 hx127
              go_wp2_with fail
              refine (hW _).mono ?_
              rintro e w1 ⟨rfl, rfl⟩
              go_wp2_with fail
              go_round
              case rel => exact ⟨pos + n, line, col + 1, rfl, by go_num, by go_num, HF.out.symm, by omega, by omega, by omega⟩
              case measure => simp [intOf]; omega
    · have hX2 : X = (0, 0) := by
        rw [← hbad, List.drop_of_length_le (by rw [size_list]; omega), chop_nil]; rfl
      clear hbad
      subst hX2
      go_wp2
      go_ret2
      exact ⟨rfl, rfl⟩

end Go.Proofs.YtmhjoomkeidcaaaDoor.L3
