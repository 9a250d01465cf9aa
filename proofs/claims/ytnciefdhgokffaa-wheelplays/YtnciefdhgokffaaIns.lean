/-
  What slices' insertion sort comes to, by the order of two timers.
-/
import Derived.Test.YtnciefdhgokffaaRow
import Derived.BigRegion
namespace Go.Proofs.Ytnciefdhgokffaa
open Go.RowKit

/-- In order up to hi, but for the one at j, which is still on its way down. -/
def Mid (K : Nat → Nat) (lo hi j : Nat) (x : Nat → Nat) : Prop := ∀ p q, lo ≤ p → p < q → q < hi → q ≠ j → K (x p) ≤ K (x q)
theorem mid_start {K : Nat → Nat} {lo i : Nat} {x : Nat → Nat} (h : Sd K lo i x) : Mid K lo (i + 1) i x := fun p q h1 h2 h3 h4 => h p q h1 h2 (by omega)
theorem mid_step {K : Nat → Nat} {lo hi j : Nat} {x : Nat → Nat} (h : Mid K lo hi (j + 1) x) (hj : lo ≤ j) (hh : j + 1 < hi) (hlt : K (x (j + 1)) < K (x j)) : Mid K lo hi j (swp x (j + 1) j) := by
  intro p q h1 h2 h3 h4
  by_cases a : q = j + 1
  · subst a
    rw [swp_l]
    by_cases b : p = j
    · subst b; rw [swp_r]; omega
    · rw [swp_o _ (by omega) b]; exact h p j h1 (by omega) (by omega) (by omega)
  · rw [swp_o _ a h4]
    by_cases b : p = j
    · subst b
      rw [swp_r]
      exact h (p + 1) q (by omega) (by omega) h3 a
    · by_cases b' : p = j + 1
      · subst b'; rw [swp_l]; exact h j q hj (by omega) h3 a
      · rw [swp_o _ b' b]; exact h p q h1 h2 h3 a
theorem mid_end {K : Nat → Nat} {lo hi j : Nat} {x : Nat → Nat} (h : Mid K lo hi j x) (hlo : lo ≤ j) (hh : j < hi) (he : j = lo ∨ K (x (j - 1)) ≤ K (x j)) : Sd K lo hi x := by
  intro p q h1 h2 h3
  by_cases a : q = j
  · subst a
    rcases he with rfl | he
    · omega
    · by_cases b : p = q - 1
      · subst b; exact he
      · exact Nat.le_trans (h p (q - 1) h1 (by omega) (by omega) (by omega)) he
  · exact h p q h1 h2 h3 a

set_option maxHeartbeats 4000000 in
theorem ins_any (KK : Nat) (hKK : KK ≤ 1000000) (w0 : World) (g c n B : Nat) (σ : Ws) (hO : Ok KK σ) (hn : n ≤ 16) (lo hi : Nat) (hlo : lo ≤ hi) (hhi : hi ≤ n) (x : Nat → Nat) (w : World) (hS : Srt w0 g c n B σ x w) :
    Calls Try.prog 33 #[.slice (some ⟨g, 0, none⟩) n c, .int .i64 (lo : Int), .int .i64 (hi : Int), .func (.func 24) #[.pointer (some ⟨B, 0, none⟩)] #[]] w fun e w' =>
      e = .returned (.tuple #[]) ∧ ∃ y, Sw lo hi x y ∧ Sd (key σ) lo hi y ∧ Srt w0 g c n B σ y w' := by
  have HL := hide (fun a b => ordI_lt hKK hO a b)
  have HS := hide hS
  clear hS hO
  go_enter Try.func33, Try.ntmps33
  go_wp2
  go_loopw [8] (fun i wr => ∃ (k : Nat) (y : Nat → Nat), i = .int .i64 (k : Int) ∧ lo < k ∧ k ≤ hi + 1 ∧ Sw lo hi x y ∧ Hid (Sd (key σ) lo (min k hi) y) ∧ Hid (Srt w0 g c n B σ y wr)) (fun i _ => hi + 1 - (intOf i).toNat)
  case atStart => exact ⟨lo + 1, x, by go_num, by omega, by omega, .refl, hide (fun p q h1 h2 h3 => by omega), HS⟩
  case round =>
    obtain ⟨k, y, rfl, hk1, hk2, hsw, hsd, hsr⟩ := hrel
    by_cases hlt : k < hi
    · have hltz : (k : Int) < (hi : Int) := by omega
      rw [show min k hi = k by omega] at hsd
      clear HS
      go_wp2
      obtain ⟨wz, hwz⟩ : ∃ W, W = wr := ⟨_, rfl⟩
      subst hwz
      go_loopw [9] (fun v wq => ∃ (j : Nat) (z : Nat → Nat), v = .int .i64 (j : Int) ∧ lo ≤ j ∧ j ≤ k ∧ Sw lo hi x z ∧ Hid (Mid (key σ) lo (k + 1) j z) ∧ Hid (Srt w0 g c n B σ z wq)) (fun v _ => (intOf v).toNat)
      case atStart => exact ⟨k, y, rfl, by omega, Nat.le_refl _, hsw, hide (mid_start hsd.out), hsr⟩
      case round =>
        clear hsw hsd hsr
        obtain ⟨j, z, rfl, hj1, hj2, hsw, hmid, hsr⟩ := hrel
        have out : (j = lo ∨ key σ (z (j - 1)) ≤ key σ (z j)) → Hid (Sd (key σ) lo (min (k + 1) hi) z) := fun h => by
          rw [show min (k + 1) hi = k + 1 by omega]; exact mid_end hmid.out hj1 (by omega) h
        have OUT := hide out
        clear out
        by_cases hja : j = lo
        · have hd : decide (lo < j) = false := by simp; omega
          have OK := hide (OUT.out (Or.inl hja))
          clear OUT hja
          go_wp2_with fail
          go_quiet (fail)
          go_wp2
          go_roundw
          case rel => exact ⟨k + 1, z, by go_num, by omega, by omega, hsw, OK.out, hide (hsr.out.drewN _)⟩
          case measure => simp [intOf]; omega
        · obtain ⟨m, rfl⟩ : ∃ m, j = m + 1 := ⟨j - 1, by omega⟩
          have hd : decide ((lo : Int) < (m : Int) + 1) = true := by simp; omega
          have hd2 : decide (lo < m + 1) = true := by simp; omega
          have i0 : m < n := by omega
          have i1 : m + 1 < n := by omega
          have i2 : (0 : Int) ≤ (m : Int) + 1 := by omega
          have i3 : IntKind.i64.wrap ((m : Int) + 1 - 1) = (m : Int) := by rw [wrapB (by omega)]; omega
          have i4 : IntKind.i64.wrap (m : Int) = (m : Int) := wrapB (by omega)
          have i5 : wrap64 (m : Int) = (m : Int) := IntWalk.wrap64_in _ (by omega)
          have i6 : wrap64 ((m : Int) + 1 - 1) = (m : Int) := by rw [IntWalk.wrap64_in _ (by omega)]; omega
          have i7 : (0 : Int) ≤ (m : Int) := by omega
          have c1 := hsr.out.cell (k := m + 1) (by omega)
          have c0 := hsr.out.cell (k := m) (by omega)
          have f1 := hsr.out.row.frozen (m + 1)
          have f0 := hsr.out.row.frozen m
          have e1 : (m : Int) + 1 < (n : Int) := by omega
          have e0 : (m : Int) < (n : Int) := by omega
          have HC := hide (fun W (h : Srt w0 g c n B σ z W) => h.cmp (i := m + 1) (j := m) (by omega) (by omega))
          have HCE := hide (fun W (h : Srt w0 g c n B σ z W) => And.intro (h.cell (k := m + 1) (by omega)) (h.cell (k := m) (by omega)))
          have HSW := hide (fun W (h : Srt w0 g c n B σ z W) => h.swap (i := m + 1) (j := m) (by omega) (by omega))
          have HLT := hide (HL.out (z (m + 1)) (z m))
          generalize hr : ordI σ (z (m + 1)) (z m) = r at *
          obtain ⟨X1, hX1⟩ : ∃ X : Int, X = ((z (m + 1) : Nat) : Int) := ⟨_, rfl⟩
          obtain ⟨X0, hX0⟩ : ∃ X : Int, X = ((z m : Nat) : Int) := ⟨_, rfl⟩
          rw [← hX1] at c1 HC HCE HSW
          rw [← hX0] at c0 HC HCE HSW
          clear hX1 hX0 hr
          by_cases hrn : r < 0
          · have hrd : decide (r < 0) = true := by simp; omega
            go_wp2_with fail
            go_region_held3 (fun w' => w'.cell? ⟨g, m + 1, none⟩ = some (.int .i64 X1) ∧ w'.cell? ⟨g, m, none⟩ = some (.int .i64 X0)) (first | assumption | go_keep) (first | (go_at_call 24; refine (HC.out _ (by exact hsr.out.drew)).mono ?_; rintro e w3 ⟨rfl, hs3⟩; have hc3 := HCE.out _ hs3))
            obtain ⟨d1, d0⟩ := hc3
            have g1 := hs3.row.frozen (m + 1)
            have g0 := hs3.row.frozen m
            have HS3 := hide hs3
            have s1 : (w3.setCell ⟨g, m + 1, none⟩ (.int .i64 X0)).cell? ⟨g, m, none⟩ = some (.int .i64 X0) := (World.cell?_setCell_other _ _ _ _ (by intro e; simp only [Addr.mk.injEq] at e; omega)).trans d0
            have s2 : (w3.setCell ⟨g, m + 1, none⟩ (.int .i64 X0)).frozen? ⟨g, m, none⟩ = false := by rw [World.frozen?_setCell]; exact g0
            clear hs3 c1 c0 f1 f0 HC HCE hsr
            go_wp2_with fail
            go_region
            go_wp2
            go_roundw
            case rel => exact ⟨m, swp z (m + 1) m, by go_num, by omega, by omega, hsw.step _ _ (by omega) (by omega) (by omega) (by omega), hide (mid_step hmid.out (by omega) (by omega) (HLT.out.1 hrn)), hide (HSW.out _ HS3.out).drew⟩
            case measure => simp [intOf] <;> omega
          · have hrd : decide (r < 0) = false := by simp; omega
            go_wp2_with fail
            go_region_held3 (fun w' => w'.cell? ⟨g, m + 1, none⟩ = some (.int .i64 X1) ∧ w'.cell? ⟨g, m, none⟩ = some (.int .i64 X0)) (first | assumption | go_keep) (first | (go_at_call 24; refine (HC.out _ (by exact hsr.out.drew)).mono ?_; rintro e w3 ⟨rfl, hs3⟩; have hc3 := HCE.out _ hs3))
            have HS3 := hide hs3
            have OK : Hid (Sd (key σ) lo (min (k + 1) hi) z) := OUT.out (Or.inr (by have := HLT.out; simp only [Nat.add_sub_cancel]; omega))
            clear hs3 c1 c0 f1 f0 HC HCE hsr hc3 OUT
            go_wp2
            go_roundw
            case rel => exact ⟨k + 1, z, by go_num, by omega, by omega, hsw, OK, HS3⟩
            case measure => simp [intOf]; omega
    · have hltz : ¬ (k : Int) < (hi : Int) := by omega
      rw [show min k hi = hi by omega] at hsd
      go_wp2
      go_end0
      exact ⟨rfl, y, hsw, hsd.out, hsr.out⟩

end Go.Proofs.Ytnciefdhgokffaa
