/-
  The walks of the laws TickAt, TickNext, TickAdds and TickRound.
-/
import Derived.Test.YtkpnkpkokjcdoaaAwake
namespace Go.Proofs.Ytkpnkpkokjcdoaa
open Go.RowKit

/-- What is asked of a list of slots: the first 16 of them, or all. -/
def Few (len : Nat) (ls : List (Int × Int)) : Prop := len ≤ 16 ∧ ls.length = len ∨ 16 < len ∧ ls.length = 16

set_option maxHeartbeats 1000000 in
theorem tickAt_walk (ad : Option Addr) (len cap : Nat) (ls : List (Int × Int)) (hm : Few len ls) (hcap : len ≤ cap) (hmax : cap ≤ maxLen) (t : Int) (w : World) (hrow : SlotRow w.heap.size w ad ls) :
    Calls Try.prog 3 #[.slice ad len cap, .int .i64 t] w fun e w' => e = .returned (.bool true) ∧ Below w.heap.size w w' := by
  have HR : Hid (SlotRow w.heap.size w ad ls) := hrow
  have HM : Hid (cap ≤ maxLen) := hmax
  have HF : Hid (Few len ls) := hm
  clear hrow hmax hm
  go_enter Try.func3, Try.ntmps3
  go_wp2_with fail
  refine (at_any ad len cap ls HF.out hcap HM.out t _ HR.out).mono ?_
  rintro e w1 ⟨a, x, rfl, hA, hB⟩
  have HA : Hid (AtIs ls t a x) := hA
  clear hA
  go_wp2_with fail
  refine (refAt_any ad len cap ls HF.out HM.out t _ (HR.out.next hB)).mono ?_
  rintro e w2 ⟨b, y, rfl, hA', hb⟩
  obtain ⟨h1, h2⟩ := HA.out.one hA'
  subst h1 h2
  replace hB := below_next hB hb
  clear hb hA' HA
  have e1 : (a == a) = true := by simp
  have e2 : (x == x) = true := by simp
  go_wp2_with fail
  refine (awake_any _).mono ?_
  rintro e w3 ⟨rfl, hb⟩
  replace hB := below_next hB hb
  clear hb
  go_wp2_with fail
  refine (cycle_any ad len cap ls HF.out hcap HM.out _ (HR.out.next hB)).mono ?_
  rintro e w4 ⟨rfl, hb⟩
  replace hB := below_next hB hb
  clear hb
  go_wp2_with fail
  refine (refCycle_any ad len cap ls HF.out HM.out _ (HR.out.next hB)).mono ?_
  rintro e w5 ⟨rfl, hb⟩
  replace hB := below_next hB hb
  clear hb
  go_wp2
  go_ret
  exact ⟨rfl, hB⟩

set_option maxHeartbeats 1000000 in
theorem tickNext_walk (ad : Option Addr) (len cap : Nat) (ls : List (Int × Int)) (hm : Few len ls) (hcap : len ≤ cap) (hmax : cap ≤ maxLen) (dom t : Int) (w : World) (hrow : SlotRow w.heap.size w ad ls) :
    Calls Try.prog 4 #[.slice ad len cap, .int .i64 dom, .int .i64 t] w fun e w' => e = .returned (.bool true) ∧ Below w.heap.size w w' := by
  have HR : Hid (SlotRow w.heap.size w ad ls) := hrow
  have HM : Hid (cap ≤ maxLen) := hmax
  have HF : Hid (Few len ls) := hm
  clear hrow hmax hm
  go_enter Try.func4, Try.ntmps4
  go_wp2_with fail
  refine (next_any ad len cap ls HF.out hcap HM.out dom t _ HR.out).mono ?_
  rintro e w1 ⟨a, x, rfl, hA, hB⟩
  have HA : Hid (NextIs ls dom t a x) := hA
  clear hA
  go_wp2_with fail
  refine (refNext_of ad len cap ls HF.out HM.out dom t _ (HR.out.next hB)).mono ?_
  rintro e w2 ⟨b, y, rfl, hA', hb⟩
  obtain ⟨h1, h2⟩ := HA.out.one hA'
  subst h1 h2
  replace hB := below_next hB hb
  clear hb hA' HA
  have e1 : (a == a) = true := by simp
  have e2 : (x == x) = true := by simp
  go_wp2_with fail
  refine (awake_any _).mono ?_
  rintro e w3 ⟨rfl, hb⟩
  replace hB := below_next hB hb
  clear hb
  go_wp2
  go_ret
  exact ⟨rfl, hB⟩

theorem later_ge (t a : Int) : hold t ≤ later t a := by have := hold_le t; unfold later; omega
theorem later_le (t a : Int) : later t a ≤ 4611686018427387904 := by have := hold_le t; unfold later; omega
theorem hold_later (t a : Int) : hold (later t a) = later t a := hold_same (by have := later_ge t a; have := hold_ge t; omega) (later_le t a)
theorem later_sum (t a b : Int) : later (later t (hold a)) (hold b) = later t (later (hold a) (hold b)) := by
  have h1 := hold_later t (hold a)
  have h2 : hold (hold a) = hold a := hold_same (hold_ge a) (hold_le a)
  have a0 := hold_ge a
  have b0 := hold_ge b
  have t0 := hold_ge t
  have a1 := hold_le a
  have b1 := hold_le b
  have t1 := hold_le t
  unfold later at *
  rw [h1, h2]
  generalize hold a = A at *
  generalize hold b = B at *
  generalize hold t = T at *
  clear h1 h2
  omega

set_option maxHeartbeats 1000000 in
theorem tickAdds_walk (t a b : Int) (w : World) : Calls Try.prog 5 #[.int .i64 t, .int .i64 a, .int .i64 b] w fun e w' => e = .returned (.bool true) ∧ Below w.heap.size w w' := by
  have hs := later_sum t a b
  have hge := later_ge t a
  have A1 : Hid (∀ W : World, Calls Try.prog 15 #[.int .i64 t, .int .i64 a] W fun e w' => e = .returned (.int .i64 (later t a)) ∧ w' = W) := add_any t a
  have A2 : Hid (∀ W : World, Calls Try.prog 16 #[.int .i64 t, .int .i64 a] W fun e w' => e = .returned (.int .i64 (later t a)) ∧ w' = W) := refAdd_any t a
  have H1 : Hid (∀ W : World, Calls Try.prog 17 #[.int .i64 a] W fun e w' => e = .returned (.int .i64 (hold a)) ∧ w' = W) := held_any a
  have H2 : Hid (∀ W : World, Calls Try.prog 17 #[.int .i64 b] W fun e w' => e = .returned (.int .i64 (hold b)) ∧ w' = W) := held_any b
  have H3 : Hid (∀ W : World, Calls Try.prog 17 #[.int .i64 t] W fun e w' => e = .returned (.int .i64 (hold t)) ∧ w' = W) := held_any t
  have B1 : Hid (∀ W : World, Calls Try.prog 15 #[.int .i64 t, .int .i64 (hold a)] W fun e w' => e = .returned (.int .i64 (later t (hold a))) ∧ w' = W) := add_any t (hold a)
  have B2 : Hid (∀ W : World, Calls Try.prog 15 #[.int .i64 (later t (hold a)), .int .i64 (hold b)] W fun e w' => e = .returned (.int .i64 (later (later t (hold a)) (hold b))) ∧ w' = W) := add_any _ _
  have B3 : Hid (∀ W : World, Calls Try.prog 16 #[.int .i64 (hold a), .int .i64 (hold b)] W fun e w' => e = .returned (.int .i64 (later (hold a) (hold b))) ∧ w' = W) := refAdd_any _ _
  have B4 : Hid (∀ W : World, Calls Try.prog 15 #[.int .i64 t, .int .i64 (later (hold a) (hold b))] W fun e w' => e = .returned (.int .i64 (later t (later (hold a) (hold b)))) ∧ w' = W) := add_any _ _
  rw [hs] at B2
  clear hs
  generalize later t (later (hold a) (hold b)) = z1 at *
  generalize later (hold a) (hold b) = z2 at *
  generalize later t (hold a) = z3 at *
  generalize later t a = z4 at *
  generalize hold a = z5 at *
  generalize hold b = z6 at *
  generalize hold t = z7 at *
  have e4 : (z4 == z4) = true := by simp
  have e1 : (z1 == z1) = true := by simp
  go_enter Try.func5, Try.ntmps5
  go_wp2_with fail
  refine (A1.out _).mono ?_
  rintro e w1 ⟨rfl, hw⟩; subst hw
  go_wp2_with fail
  refine (A2.out _).mono ?_
  rintro e w1 ⟨rfl, hw⟩; subst hw
  go_wp2_with fail
  refine (H1.out _).mono ?_
  rintro e w1 ⟨rfl, hw⟩; subst hw
  go_wp2_with fail
  refine (H2.out _).mono ?_
  rintro e w1 ⟨rfl, hw⟩; subst hw
  go_wp2_with fail
  refine (awake_any _).mono ?_
  rintro e w2 ⟨rfl, hB⟩
  go_wp2_with fail
  refine (B1.out _).mono ?_
  rintro e w1 ⟨rfl, hw⟩; subst hw
  go_wp2_with fail
  refine (B2.out _).mono ?_
  rintro e w1 ⟨rfl, hw⟩; subst hw
  go_wp2_with fail
  refine (B3.out _).mono ?_
  rintro e w1 ⟨rfl, hw⟩; subst hw
  go_wp2_with fail
  refine (B4.out _).mono ?_
  rintro e w1 ⟨rfl, hw⟩; subst hw
  go_wp2_with fail
  refine (A1.out _).mono ?_
  rintro e w1 ⟨rfl, hw⟩; subst hw
  go_wp2_with fail
  refine (H3.out _).mono ?_
  rintro e w1 ⟨rfl, hw⟩; subst hw
  go_wp2
  go_ret
  exact ⟨rfl, hB⟩

/-- A cycle later the same slot is there. -/
theorem at_round {ls : List (Int × Int)} {t a x b y : Int} (hc : 0 < off ls ls.length) (h0 : 0 ≤ t) (h1 : t ≤ 4611686018427387904 - (off ls ls.length : Int)) (hA : AtIs ls t a x) (hB : AtIs ls (t + (off ls ls.length : Int)) b y) :
    b = a ∧ y = x + (off ls ls.length : Int) ∧ 0 ≤ x ∧ x ≤ t ∧ ∃ k : Nat, a = (k : Int) ∧ k < ls.length ∧ t - x < ln ls k := by
  have e1 : hold t = t := hold_same h0 (by omega)
  have e2 : hold (t + (off ls ls.length : Int)) = t + (off ls ls.length : Int) := hold_same (by omega) (by omega)
  rcases hA with ⟨h, _⟩ | ⟨_, k, r, hk, hh, hr, rfl, rfl⟩
  · omega
  rcases hB with ⟨h, _⟩ | ⟨_, k', r', hk', hh', hr', rfl, rfl⟩
  · omega
  rw [e1] at hr ⊢
  rw [e2, Int.add_emod_right] at hr'
  rw [e2]
  obtain rfl : r = r' := by omega
  obtain rfl := hh.one hh'
  have u1 := hh.1
  have u2 := hh.2
  rw [off_yes hh.cn] at u2
  have u3 := cn_iff.1 hh.cn
  have hrT : (r : Int) ≤ t := by
    have h1 := Int.mul_ediv_add_emod t (off ls ls.length : Int)
    have h2 : 0 ≤ (off ls ls.length : Int) * (t / (off ls ls.length : Int)) := Int.mul_nonneg (by omega) (Int.ediv_nonneg h0 (by omega))
    omega
  exact ⟨rfl, by omega, by omega, by omega, k, rfl, hk, by omega⟩

set_option maxHeartbeats 2000000 in
theorem tickRound_walk (ad : Option Addr) (len cap : Nat) (ls : List (Int × Int)) (hm : Few len ls) (hcap : len ≤ cap) (hmax : cap ≤ maxLen) (t : Int) (w : World) (hrow : SlotRow w.heap.size w ad ls) :
    Calls Try.prog 6 #[.slice ad len cap, .int .i64 t] w fun e w' => e = .returned (.bool true) ∧ Below w.heap.size w w' := by
  have HR : Hid (SlotRow w.heap.size w ad ls) := hrow
  have HM : Hid (cap ≤ maxLen) := hmax
  have HF : Hid (Few len ls) := hm
  have hC := off_le ls ls.length
  have h16 : ls.length ≤ 16 := by unfold Few at hm; omega
  have hll : ls.length ≤ len := by unfold Few at hm; omega
  have HCY : Hid (∀ w' : World, SlotRow w'.heap.size w' ad ls → Calls Try.prog 11 #[.slice ad len cap] w' fun e W' => e = .returned (.int .i64 (off ls ls.length : Int)) ∧ Below w'.heap.size w' W') := fun w' h => cycle_any ad len cap ls hm hcap hmax w' h
  have HT : Hid (∀ a x b y, 0 < off ls ls.length → 0 ≤ t → t ≤ 4611686018427387904 - (off ls ls.length : Int) → AtIs ls t a x → AtIs ls (t + (off ls ls.length : Int)) b y → b = a ∧ y = x + (off ls ls.length : Int) ∧ 0 ≤ x ∧ x ≤ t ∧ ∃ k : Nat, a = (k : Int) ∧ k < ls.length ∧ t - x < ln ls k) := fun a x b y h1 h2 h3 h4 h5 => at_round h1 h2 h3 h4 h5
  clear hrow hmax hm
  generalize off ls ls.length = C at *
  by_cases hbad : t < 0 ∨ 4611686018427387904 - (C : Int) < t ∨ C = 0
  · go_enter Try.func6, Try.ntmps6
    go_wp2_with fail
    refine (HCY.out _ HR.out).mono ?_
    rintro e w1 ⟨rfl, hB⟩
    have key : ∀ P : Prop, (t < 0 → P) → (¬ t < 0 → 4611686018427387904 - (C : Int) < t → P) → (¬ t < 0 → ¬ 4611686018427387904 - (C : Int) < t → ((C : Int) == 0) = true → P) → P := fun P p1 p2 p3 => by
      by_cases q1 : t < 0
      · exact p1 q1
      · by_cases q2 : 4611686018427387904 - (C : Int) < t
        · exact p2 q1 q2
        · exact p3 q1 q2 (by simp; omega)
    clear hbad
    refine key _ ?_ ?_ ?_
    all_goals
      intros
      go_wp2_with fail
      refine (awake_any _).mono ?_
      rintro e w2 ⟨rfl, hb⟩
      replace hB := below_next hB hb
      clear hb
      go_wp2
      go_ret
      exact ⟨rfl, hB⟩
  · have q1 : ¬ t < 0 := fun h => hbad (.inl h)
    have q2 : ¬ 4611686018427387904 - (C : Int) < t := fun h => hbad (.inr (.inl h))
    have q3 : 0 < C := by omega
    have q3' : ((C : Int) == 0) = false := by simp; omega
    clear hbad
    go_enter Try.func6, Try.ntmps6
    go_wp2_with fail
    refine (HCY.out _ HR.out).mono ?_
    rintro e w1 ⟨rfl, hB⟩
    go_wp2_with fail
    refine (at_any ad len cap ls HF.out hcap HM.out t _ (HR.out.next hB)).mono ?_
    rintro e w2 ⟨a, x, rfl, hA, hb⟩
    replace hB := below_next hB hb
    have HA : Hid (AtIs ls t a x) := hA
    clear hb hA
    go_wp2_with fail
    refine (at_any ad len cap ls HF.out hcap HM.out (t + (C : Int)) _ (HR.out.next hB)).mono ?_
    rintro e w3 ⟨b, y, rfl, hA', hb⟩
    replace hB := below_next hB hb
    obtain ⟨h1, h2, h3, h4, k, h5, h6, h7⟩ := HT.out a x b y q3 (by omega) (by omega) HA.out hA'
    subst h1 h2 h5
    clear hb hA' HA
    go_wp2_with fail
    refine (awake_any _).mono ?_
    rintro e w4 ⟨rfl, hb⟩
    replace hB := below_next hB hb
    clear hb
    obtain ⟨bb, o, rfl, hbb, hcs⟩ : ∃ b off, ad = some ⟨b, off, none⟩ ∧ b < w.heap.size ∧ ∀ i, i < ls.length → w4.cell? ⟨b, off + i * 2, none⟩ = some (.int .i64 (dm ls i)) ∧ w4.cell? ⟨b, off + i * 2 + 1, none⟩ = some (.int .i64 (ln ls i)) := by
      rcases HR.out.below hB with h | h
      · rw [h] at h6; simp at h6
      · exact h
    obtain ⟨_, c1⟩ := hcs k h6
    clear hcs
    have k1 : (k : Int) < (len : Int) := by omega
    have k0 : (0 : Int) ≤ (k : Int) := by omega
    have e1 : ((k : Int) == (k : Int)) = true := by simp
    have e2 : (x + (C : Int) == x + (C : Int)) = true := by simp
    have w1' : IntKind.i64.wrap (x + (C : Int)) = x + (C : Int) := wrapB (by omega)
    have w2' : wrap64 (x + (C : Int)) = x + (C : Int) := IntWalk.wrap64_in _ (by omega)
    have w3' : IntKind.i64.wrap (t - x) = t - x := wrapB (by omega)
    have w4' : wrap64 (t - x) = t - x := IntWalk.wrap64_in _ (by omega)
    generalize ln ls k = L at *
    go_wp2
    go_ret
    exact ⟨rfl, hB⟩

end Go.Proofs.Ytkpnkpkokjcdoaa
