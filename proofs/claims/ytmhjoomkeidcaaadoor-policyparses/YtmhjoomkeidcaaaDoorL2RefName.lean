/-
  What the document's own answer for names comes to: the same texts.
-/
import Derived.Test.YtmhjoomkeidcaaaDoorL2Name
import Derived.Deep.QuietTactic
import Derived.BigQuiet
namespace Go.Proofs.YtmhjoomkeidcaaaDoor.L2
open Go.RowKit

theorem get_bang (s : ByteArray) (k : Nat) (h : k < s.size) : (s[k]'h) = s.get! k := by
  have h2 : k < s.data.size := h
  exact (getElem!_pos s.data k h2).symm

theorem drewN_below {B : Nat} {a w : World} (h : Below B a w) (n : Nat) : Below B a (w.drewN n) := h.trans ⟨rfl, rfl, rfl, Nat.le_refl _, fun _ _ => rfl⟩

/-- What stands at a place, letter or none, for the two bytes there. -/
theorem name_here (s : ByteArray) (p n : Nat) (h : p < s.size) (h1 : 97 ≤ (s.get! p).toNat ∧ (s.get! p).toNat ≤ 122) :
    nameOK (letters (s.data.toList.drop p)) n = nameOK (letters (s.data.toList.drop (p + 1))) (n + 1) := by
  rw [drop_cons h, letters_latin _ _ h1, nameOK_succ]
theorem name_two (s : ByteArray) (p n : Nat) (h : p + 1 < s.size) (h1 : ¬ (97 ≤ (s.get! p).toNat ∧ (s.get! p).toNat ≤ 122))
    (h2 : 0 ≤ greekB (s.get! p).toNat (s.get! (p + 1)).toNat ∧ greekB (s.get! p).toNat (s.get! (p + 1)).toNat ≤ 24) :
    nameOK (letters (s.data.toList.drop p)) n = nameOK (letters (s.data.toList.drop (p + 2))) (n + 1) := by
  rw [drop_cons (p := p) (by omega), drop_cons (p := p + 1) h, letters_greek _ _ _ h1 h2, nameOK_succ]
theorem name_no (s : ByteArray) (p n : Nat) (h : p < s.size) (h1 : ¬ (97 ≤ (s.get! p).toNat ∧ (s.get! p).toNat ≤ 122))
    (h2 : ¬ (p + 1 < s.size ∧ 0 ≤ greekB (s.get! p).toNat (s.get! (p + 1)).toNat ∧ greekB (s.get! p).toNat (s.get! (p + 1)).toNat ≤ 24)) :
    nameOK (letters (s.data.toList.drop p)) n = false := by
  rw [drop_cons h]
  by_cases h3 : p + 1 < s.size
  · rw [drop_cons h3, letters_other _ _ _ h1 (fun hg => h2 ⟨h3, hg⟩)]; rfl
  · rw [List.drop_of_length_le (by rw [Array.length_toList]; exact Nat.not_lt.1 h3)]
    simp only [letters, if_neg h1]; rfl

set_option maxHeartbeats 1000000 in
theorem refName_any (s : ByteArray) (hs : s.size ≤ 9223372036854775807) (w : World) :
    Calls Tryd.prog 27 #[.string s] w fun e w' => e = .returned (.bool (nameB s)) ∧ Below w.heap.size w w' := by
  go_enter Tryd.func27, Tryd.ntmps27
  go_wp2
  go_loopw [3, 4] (fun v i wr => ∃ (n k : Nat), n ≤ k ∧ k ≤ s.size ∧ v = .int .i64 n ∧ i = .int .i64 k ∧ Below w.heap.size w wr ∧ nameOK (letters (s.data.toList.drop k)) n = nameB s) (fun _ i _ => s.size - (intOf i).toNat)
  case atStart => exact ⟨0, 0, by omega, by omega, rfl, rfl, Below.refl _ _, rfl⟩
  case round =>
    obtain ⟨n, k, hnk, hks, rfl, rfl, hbw, hnm⟩ := hrel
    by_cases hk : k < s.size
    · have hg0 := get_bang s k hk
      obtain ⟨a, ha⟩ : ∃ a : Nat, a = (s.get! k).toNat := ⟨_, rfl⟩
      have ea : (s[k]'hk).toNat = a := by rw [hg0, ha]
      have ha8 : a < 256 := by rw [ha]; exact (s.get! k).toNat_lt
      have hcase : (97 ≤ a ∧ a ≤ 122) ∨ (a < 97 ∨ (97 ≤ a ∧ 122 < a)) := by omega
      rcases hcase with ⟨h97, h122⟩ | hno
      · have hN : Hid (nameOK (letters (s.data.toList.drop (k + 1))) (n + 1) = nameB s) := by
          rw [← hnm]; exact (name_here s k n hk (by omega)).symm
        clear hnm hg0 ha
        go_wp2_with fail
        go_roundw
        case rel => exact ⟨n + 1, k + 1, by omega, by omega, by go_num, by go_num, hbw, hN.out⟩
        case measure => simp [intOf]; omega
      · have h1 : ¬ (97 ≤ (s.get! k).toNat ∧ (s.get! k).toNat ≤ 122) := by omega
        have hw1 : IntKind.i64.wrap ((k : Int) + 1) = k + 1 := by rw [IntKind.wrap_i64]; omega
        by_cases hk1 : k + 1 < s.size
        · have hgd : decide ((s.size : Int) ≤ IntKind.i64.wrap ((k : Int) + 1)) = false := by rw [hw1]; exact decide_eq_false (by omega)
          have hgd' : decide ((s.size : Int) ≤ (k : Int) + 1) = false := decide_eq_false (by omega)
          have hg1 := get_bang s (k + 1) hk1
          obtain ⟨b, hb⟩ : ∃ b : Nat, b = (s.get! (k + 1)).toNat := ⟨_, rfl⟩
          have eb : (s[k + 1]'hk1).toNat = b := by rw [hg1, hb]
          have hb8 : b < 256 := by rw [hb]; exact (s.get! (k + 1)).toNat_lt
          obtain ⟨g, hg⟩ : ∃ g : Int, g = greekB a b := ⟨_, rfl⟩
          have hG : ∀ w, Calls Tryd.prog 52 #[.int .u8 a, .int .u8 b] w fun e w' => e = .returned (.int .i64 g) ∧ w' = w := fun w => by rw [hg]; exact greek_any a b hb8 w
          have hgg : greekB (s.get! k).toNat (s.get! (k + 1)).toNat = g := by rw [hg, ha, hb]
          by_cases hin : 0 ≤ g ∧ g ≤ 24
          · have hN : Hid (nameOK (letters (s.data.toList.drop (k + 2))) (n + 1) = nameB s) := by
              rw [← hnm]; exact (name_two s k n hk1 h1 (by omega)).symm
            obtain ⟨hin1, hin2⟩ := hin
            have hd1 : decide (g < 0) = false := decide_eq_false (by omega)
            have hd2 : decide (24 < g) = false := decide_eq_false (by omega)
            clear hnm hg0 hg1 ha hb h1 hgg hg
            rcases hno with h97 | ⟨h97, h122⟩
            all_goals
              go_wp2_with fail
              go_quiet ((go_at_call 52; exact Calls.quiet_of_same (hG _)))
              go_wp2_with fail
              go_roundw
              case rel => exact ⟨n + 1, k + 2, by omega, by omega, by go_num, by go_num, drewN_below hbw _, hN.out⟩
              case measure => simp [intOf]; omega
          · have hN := name_no s k n hk h1 (by omega)
            rw [hnm] at hN
            have hout : decide (g < 0) = true ∨ (decide (g < 0) = false ∧ decide (24 < g) = true) := by simp; omega
            clear hnm hg0 hg1 ha hb h1 hgg hg hin
            rcases hno with h97 | ⟨h97, h122⟩ <;> rcases hout with h24 | ⟨h0, h24⟩
            all_goals
              go_wp2_with fail
              go_quiet ((go_at_call 52; exact Calls.quiet_of_same (hG _)))
              go_wp2_with fail
              go_ret
              exact ⟨ret_bool hN.symm, drewN_below hbw _⟩
        · have hgd : decide ((s.size : Int) ≤ IntKind.i64.wrap ((k : Int) + 1)) = true := by rw [hw1]; exact decide_eq_true (by omega)
          have hgd' : decide ((s.size : Int) ≤ (k : Int) + 1) = true := decide_eq_true (by omega)
          have hN := name_no s k n hk h1 (by omega)
          rw [hnm] at hN
          clear hnm hg0 ha h1
          rcases hno with h97 | ⟨h97, h122⟩
          all_goals
            go_wp2_with fail
            go_quiet (fail)
            go_wp2_with fail
            go_ret
            exact ⟨ret_bool hN.symm, drewN_below hbw _⟩
    · have he : nameB s = decide (0 < n ∧ n < 13) := by
        rw [← hnm, List.drop_of_length_le (by rw [Array.length_toList]; exact Nat.not_lt.1 hk)]
        rfl
      by_cases h0 : 0 < n
      · go_wp2
        go_ret
        exact ⟨ret_bool (by rw [he, decide_eq_decide]; omega), hbw⟩
      · go_wp2
        go_ret
        exact ⟨ret_bool (by rw [he]; exact (decide_eq_false (by omega)).symm), hbw⟩

end Go.Proofs.YtmhjoomkeidcaaaDoor.L2
