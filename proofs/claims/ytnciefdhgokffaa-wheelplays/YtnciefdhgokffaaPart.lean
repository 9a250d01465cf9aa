/-
  What slices' trial of a row that may be in order already comes to, and its partition by a pivot.
-/
import Derived.Test.YtnciefdhgokffaaRow
import Derived.BigRegion
namespace Go.Proofs.Ytnciefdhgokffaa
open Go.RowKit

/-- Each is no less than the one ahead of it. -/
def Up (K : Nat → Nat) (lo hi : Nat) (x : Nat → Nat) : Prop := ∀ p, lo ≤ p → p + 1 < hi → K (x p) ≤ K (x (p + 1))
theorem up_sd {K : Nat → Nat} {lo hi : Nat} {x : Nat → Nat} (h : Up K lo hi x) : Sd K lo hi x := by
  intro p q h1 h2 h3
  induction q with
  | zero => omega
  | succ q ih =>
    by_cases e : p = q
    · subst e; exact h p h1 h3
    · exact Nat.le_trans (ih (by omega) (by omega)) (h q (by omega) h3)

set_option maxHeartbeats 4000000 in
theorem tried_any (KK : Nat) (hKK : KK ≤ 1000000) (w0 : World) (g c n B : Nat) (σ : Ws) (hO : Ok KK σ) (hn : n ≤ 16) (lo hi : Nat) (hlo : lo < hi) (hhi : hi ≤ n) (x : Nat → Nat) (w : World) (hS : Srt w0 g c n B σ x w) :
    Calls Try.prog 38 #[.slice (some ⟨g, 0, none⟩) n c, .int .i64 (lo : Int), .int .i64 (hi : Int), .func (.func 24) #[.pointer (some ⟨B, 0, none⟩)] #[]] w fun e w' =>
      ∃ b : Bool, e = .returned (.bool b) ∧ (b = true → Sd (key σ) lo hi x) ∧ Srt w0 g c n B σ x w' := by
  have HL := hide (fun a b => ordI_lt hKK hO a b)
  have HS := hide hS
  have a1 : decide ((hi : Int) - (lo : Int) < 50) = true := by simp; omega
  have a2 : IntKind.i64.wrap ((hi : Int) - (lo : Int)) = (hi : Int) - (lo : Int) := wrapB (by omega)
  have a3 : wrap64 ((hi : Int) - (lo : Int)) = (hi : Int) - (lo : Int) := IntWalk.wrap64_in _ (by omega)
  clear hS hO
  go_enter Try.func38, Try.ntmps38
  go_wp2
  refine wp_loop_rounds 1 ?_
  rw [rounds_succ]
  go_wp2
  go_loopw [9] (fun v wr => ∃ i : Nat, v = .int .i64 (i : Int) ∧ lo < i ∧ i ≤ hi ∧ Hid (Up (key σ) lo i x) ∧ Hid (Srt w0 g c n B σ x wr)) (fun v _ => hi - (intOf v).toNat)
  case atStart => exact ⟨lo + 1, by go_num, by omega, by omega, hide (fun p h1 h2 => by omega), HS⟩
  case round =>
    clear HS
    obtain ⟨i, rfl, hi1, hi2, hup, hsr⟩ := hrel
    by_cases hih : i = hi
    · have hd : decide (i < hi) = false := by simp; omega
      have hd2 : (i == hi) = true := by simp [hih]
      have HIH := hide hih
      clear hih
      go_wp2_with fail
      go_quiet (fail)
      go_wp2
      go_ret
      exact ⟨true, rfl, fun _ => by rw [← HIH.out]; exact up_sd hup.out, hsr.out.drewN _⟩
    · obtain ⟨m, rfl⟩ : ∃ m, i = m + 1 := ⟨i - 1, by omega⟩
      have hd : decide ((m : Int) + 1 < (hi : Int)) = true := by simp; omega
      have hd2 : decide (m + 1 < hi) = true := by simp; omega
      have hd3 : (m + 1 == hi) = false := by simp; omega
      have hd4 : ((m : Int) + 1 == (hi : Int)) = false := by simp; omega
      have i0 : m < n := by omega
      have i1 : m + 1 < n := by omega
      have i2 : (0 : Int) ≤ (m : Int) + 1 := by omega
      have i3 : IntKind.i64.wrap ((m : Int) + 1 - 1) = (m : Int) := by rw [wrapB (by omega)]; omega
      have i4 : IntKind.i64.wrap (m : Int) = (m : Int) := wrapB (by omega)
      have i5 : wrap64 (m : Int) = (m : Int) := IntWalk.wrap64_in _ (by omega)
      have i6 : wrap64 ((m : Int) + 1 - 1) = (m : Int) := by rw [IntWalk.wrap64_in _ (by omega)]; omega
      have i7 : (0 : Int) ≤ (m : Int) := by omega
      have e1 : (m : Int) + 1 < (n : Int) := by omega
      have e0 : (m : Int) < (n : Int) := by omega
      have c1 := hsr.out.cell (k := m + 1) (by omega)
      have c0 := hsr.out.cell (k := m) (by omega)
      have HC := hide (fun W (h : Srt w0 g c n B σ x W) => h.cmp (i := m + 1) (j := m) (by omega) (by omega))
      have HCE := hide (fun W (h : Srt w0 g c n B σ x W) => And.intro (h.cell (k := m + 1) (by omega)) (h.cell (k := m) (by omega)))
      have HLT := hide (HL.out (x (m + 1)) (x m))
      generalize hr : ordI σ (x (m + 1)) (x m) = r at *
      obtain ⟨X1, hX1⟩ : ∃ X : Int, X = ((x (m + 1) : Nat) : Int) := ⟨_, rfl⟩
      obtain ⟨X0, hX0⟩ : ∃ X : Int, X = ((x m : Nat) : Int) := ⟨_, rfl⟩
      rw [← hX1] at c1 HC HCE
      rw [← hX0] at c0 HC HCE
      clear hX1 hX0 hr
      by_cases hrn : r < 0
      · have hrd : decide (r < 0) = true := by simp; omega
        go_wp2_with fail
        go_region_held3 (fun w' => w'.cell? ⟨g, m + 1, none⟩ = some (.int .i64 X1) ∧ w'.cell? ⟨g, m, none⟩ = some (.int .i64 X0)) (first | assumption | go_keep) (first | (go_at_call 24; refine (HC.out _ (by exact hsr.out.drew)).mono ?_; rintro e w3 ⟨rfl, hs3⟩; have hc3 := HCE.out _ hs3))
        have HS3 := hide hs3
        clear hs3 hc3 c1 c0 HC HCE hsr
        go_wp2
        go_ret
        exact ⟨false, rfl, (fun h => by simp at h), HS3.out⟩
      · have hrd : decide (r < 0) = false := by simp; omega
        have hup2 : Hid (Up (key σ) lo (m + 1 + 1) x) := hide (fun p h1 h2 => by
          by_cases e : p = m
          · subst e; have := HLT.out; omega
          · exact hup.out p h1 (by omega))
        go_wp2_with fail
        go_region_held3 (fun w' => w'.cell? ⟨g, m + 1, none⟩ = some (.int .i64 X1) ∧ w'.cell? ⟨g, m, none⟩ = some (.int .i64 X0)) (first | assumption | go_keep) (first | (go_at_call 24; refine (HC.out _ (by exact hsr.out.drew)).mono ?_; rintro e w3 ⟨rfl, hs3⟩; have hc3 := HCE.out _ hs3))
        have HS3 := hide hs3
        clear hs3 hc3 c1 c0 HC HCE hsr
        go_wp2
        go_roundw
        case rel => exact ⟨m + 1 + 1, by go_num, by omega, by omega, hup2, HS3⟩
        case measure => simp [intOf]; omega

end Go.Proofs.Ytnciefdhgokffaa
