/-
  The walk of the law TickWaits.
-/
import Derived.Test.YtkpnkpkokjcdoaaOpen
namespace Go.Proofs.Ytkpnkpkokjcdoaa
open Go.RowKit

/-- Is a slot of a domain that counts among the first k? -/
def hasB (ls : List (Int × Int)) (dom : Int) : Nat → Bool
  | 0 => false
  | k + 1 => hasB ls dom k || (dm ls k == dom && cn ls k)

theorem hasB_iff (ls : List (Int × Int)) (dom : Int) : ∀ k, hasB ls dom k = true ↔ ∃ i, i < k ∧ dm ls i = dom ∧ cn ls i = true
  | 0 => by simp [hasB]
  | k + 1 => by
    simp only [hasB, Bool.or_eq_true, Bool.and_eq_true, beq_iff_eq, hasB_iff ls dom k]
    constructor
    · rintro (⟨i, h1, h2⟩ | h)
      · exact ⟨i, by omega, h2⟩
      · exact ⟨k, by omega, h⟩
    · rintro ⟨i, h1, h2⟩
      by_cases e : i = k
      · subst e; exact .inr h2
      · exact .inl ⟨i, by omega, h2⟩

theorem has_begins {ls : List (Int × Int)} {dom : Int} (h : hasB ls dom ls.length = true) : Begins ls dom (0 : Int) ∨ ∃ T, Begins ls dom T := by
  obtain ⟨i, h1, h2, h3⟩ := (hasB_iff ls dom _).1 h
  have := off_pos h1 h3
  exact .inr ⟨(off ls i : Int), i, h1, h3, h2, Int.emod_eq_of_lt (by omega) (by omega)⟩

theorem next_has {ls : List (Int × Int)} {dom t n : Int} {ok : Bool} (hC : off ls ls.length ≤ 256) (h0 : 0 ≤ t) (h1 : t ≤ 2305843009213693952) (h : NextIs ls dom t n ok) : ok = hasB ls dom ls.length := by
  have ht : hold t = t := hold_same h0 (by omega)
  cases hb : hasB ls dom ls.length
  · rcases h with ⟨rfl, _, _, ⟨k, k1, k2, k3, _⟩, _⟩ | ⟨rfl, _⟩
    · rw [(hasB_iff ls dom _).2 ⟨k, k1, k3, k2⟩] at hb; cases hb
    · rfl
  · rcases h with ⟨rfl, _⟩ | ⟨rfl, _, h2⟩
    · rfl
    · obtain ⟨T, hT⟩ : ∃ T, Begins ls dom T := by
        rcases has_begins hb with h | h
        · exact ⟨0, h⟩
        · exact h
      obtain ⟨T2, u1, u2, u3⟩ := begins_soon (T := t) hT
      exact (h2 T2 (by omega) (by omega) u3).elim

theorem next_at {ls : List (Int × Int)} {dom t n a x : Int} (hC : off ls ls.length ≤ 256) (h0 : 0 ≤ t) (h1 : t ≤ 2305843009213693952) (h : NextIs ls dom t n true) (hA : AtIs ls n a x) :
    t ≤ n ∧ n < t + (off ls ls.length : Int) ∧ x = n ∧ (∃ k : Nat, a = (k : Int) ∧ k < ls.length ∧ dm ls k = dom) ∧ ∀ T, t ≤ T → T < n → ¬ Begins ls dom T := by
  have ht : hold t = t := hold_same h0 (by omega)
  rcases h with ⟨_, g1, g2, g3, g4⟩ | ⟨h, _⟩
  · rw [ht] at g1 g4
    have hn : n < t + (off ls ls.length : Int) := by
      obtain ⟨T2, u1, u2, u3⟩ := begins_soon (T := t) g3
      rcases Int.lt_or_le n (t + (off ls ls.length : Int)) with c | c
      · exact c
      · exact (g4 T2 u1 (by omega) u3).elim
    have hh : hold n = n := hold_same (by omega) g2
    obtain ⟨k, k1, k2, k3, k4⟩ := g3
    have hp := off_pos k1 k2
    rcases hA with ⟨h, _⟩ | ⟨_, j, r, hj, hr, he, rfl, rfl⟩
    · omega
    · rw [hh] at he
      have e : r = off ls k := by omega
      subst e
      obtain rfl := hr.one (has_start k2)
      exact ⟨g1, hn, by omega, ⟨j, rfl, hj, k3⟩, g4⟩
  · cases h

theorem not_begins_at {ls : List (Int × Int)} {dom T b y : Int} (hC : 0 < off ls ls.length) (h0 : 0 ≤ T) (h1 : T ≤ 4611686018427387904) (hn : ¬ Begins ls dom T) (hA : AtIs ls T b y) :
    ∃ k : Nat, b = (k : Int) ∧ k < ls.length ∧ (y = T → dm ls k ≠ dom) := by
  have hh : hold T = T := hold_same h0 h1
  rcases hA with ⟨h, _⟩ | ⟨_, k, r, hk, hr, he, rfl, rfl⟩
  · omega
  · rw [hh] at he
    refine ⟨k, rfl, hk, fun hy hd => hn ⟨k, hk, hr.cn, hd, ?_⟩⟩
    omega

set_option maxHeartbeats 4000000 in
set_option maxRecDepth 100000 in
theorem tickWaits_walk (ad : Option Addr) (len cap : Nat) (ls : List (Int × Int)) (hm : Few len ls) (hcap : len ≤ cap) (hmax : cap ≤ maxLen) (dom t : Int) (w : World) (hrow : SlotRow w.heap.size w ad ls) :
    Calls Try.prog 7 #[.slice ad len cap, .int .i64 dom, .int .i64 t] w fun e w' => e = .returned (.bool true) ∧ Below w.heap.size w w' := by
  have HR : Hid (SlotRow w.heap.size w ad ls) := hrow
  have HM : Hid (cap ≤ maxLen) := hmax
  have HF : Hid (Few len ls) := hm
  have hC := off_le ls ls.length
  have h16 : ls.length ≤ 16 := by unfold Few at hm; omega
  have hll : ls.length ≤ len := by unfold Few at hm; omega
  have hlx : ls.length = len ∨ ls.length = 16 := by unfold Few at hm; omega
  clear hrow hmax hm
  by_cases hbad : t < 0 ∨ 2305843009213693952 < t
  · have key : ∀ P : Prop, (t < 0 → P) → (¬ t < 0 → 2305843009213693952 < t → P) → P := fun P p1 p2 => by
      by_cases q1 : t < 0
      · exact p1 q1
      · exact p2 q1 (by omega)
    clear hbad
    refine key _ ?_ ?_
    all_goals
      intros
      go_enter Try.func7, Try.ntmps7
      go_wp2_with fail
      refine (awake_any _).mono ?_
      rintro e w2 ⟨rfl, hB⟩
      go_wp2
      go_ret
      exact ⟨rfl, hB⟩
  · have q1 : ¬ t < 0 := by omega
    have q2 : ¬ 2305843009213693952 < t := by omega
    clear hbad
    go_enter Try.func7, Try.ntmps7
    go_wp2
    go_loopw [7, 8] (fun h i wr => ∃ k : Nat, k ≤ ls.length ∧ i = .int .i64 k ∧ h = .bool (hasB ls dom k) ∧ wr = w) (fun _ i _ => ls.length - (intOf i).toNat)
    case atStart => exact ⟨0, Nat.zero_le _, rfl, rfl, rfl⟩
    case round =>
      obtain ⟨k, hk, rfl, rfl, hwr⟩ := hrel
      replace hwr := hwr.symm
      subst hwr
      by_cases hlt : k < ls.length
      · have hk16 : (k : Int) < 16 := by omega
        have hkl : (k : Int) < (len : Int) := by omega
        have hk0 : (0 : Int) ≤ (k : Int) := by omega
        obtain ⟨b, o, rfl, hb, hcs⟩ : ∃ b off, ad = some ⟨b, off, none⟩ ∧ b < w.heap.size ∧ ∀ i, i < ls.length → w.cell? ⟨b, off + i * 2, none⟩ = some (.int .i64 (dm ls i)) ∧ w.cell? ⟨b, off + i * 2 + 1, none⟩ = some (.int .i64 (ln ls i)) := by
          rcases HR.out with h | h
          · rw [h] at hlt; simp at hlt
          · exact h
        obtain ⟨c0, c1⟩ := hcs k hlt
        clear hcs
        have HS : Hid (hasB ls dom (k + 1) = (hasB ls dom k || (dm ls k == dom && cn ls k))) := rfl
        have HN : Hid ((cn ls k = true ↔ 1 ≤ ln ls k ∧ ln ls k ≤ 16)) := cn_iff
        cases hh : hasB ls dom k
        · by_cases hd : dm ls k = dom
          · have hd' : (dm ls k == dom) = true := by simp [hd]
            by_cases l1 : 1 ≤ ln ls k
            · by_cases l2 : ln ls k ≤ 16
              · have HE : Hid (hasB ls dom (k + 1) = true) := by
                  have := HS.out; rw [hh, hd', HN.out.2 ⟨l1, l2⟩] at this; exact this
                clear hd hh
                go_wp2
                go_roundw
                case rel => exact ⟨k + 1, by omega, by go_num, by rw [HE.out], by simp⟩
                case measure => simp [intOf]; omega
              · have HE : Hid (hasB ls dom (k + 1) = false) := by
                  have := HS.out; rw [hh, hd', show cn ls k = false by cases h : cn ls k; rfl; exact (l2 (HN.out.1 h).2).elim] at this; exact this
                clear hd hh
                go_wp2
                go_roundw
                case rel => exact ⟨k + 1, by omega, by go_num, by rw [HE.out], by simp⟩
                case measure => simp [intOf]; omega
            · have HE : Hid (hasB ls dom (k + 1) = false) := by
                have := HS.out; rw [hh, hd', show cn ls k = false by cases h : cn ls k; rfl; exact (l1 (HN.out.1 h).1).elim] at this; exact this
              clear hd hh
              go_wp2
              go_roundw
              case rel => exact ⟨k + 1, by omega, by go_num, by rw [HE.out], by simp⟩
              case measure => simp [intOf]; omega
          · have hd' : (dm ls k == dom) = false := by simp [hd]
            have HE : Hid (hasB ls dom (k + 1) = false) := by
              have := HS.out; rw [hh, hd'] at this; exact this
            clear hd hh
            go_wp2
            go_roundw
            case rel => exact ⟨k + 1, by omega, by go_num, by rw [HE.out], by simp⟩
            case measure => simp [intOf]; omega
        · have HE : Hid (hasB ls dom (k + 1) = true) := by
            have := HS.out; rw [hh] at this; exact this
          clear hh
          go_wp2
          go_roundw
          case rel => exact ⟨k + 1, by omega, by go_num, by rw [HE.out], by simp⟩
          case measure => simp [intOf]; omega
      · obtain rfl : k = ls.length := by omega
        have key : ∀ P : Prop, (¬ (ls.length : Int) < (len : Int) → P) → ((ls.length : Int) < (len : Int) → ¬ (ls.length : Int) < 16 → P) → P := fun P p1 p2 => by
          by_cases e : (ls.length : Int) < (len : Int)
          · exact p2 e (by omega)
          · exact p1 e
        have hC256 : off ls ls.length ≤ 256 := by omega
        have HCY : Hid (∀ w' : World, SlotRow w'.heap.size w' ad ls → Calls Try.prog 11 #[.slice ad len cap] w' fun e W' => e = .returned (.int .i64 (off ls ls.length : Int)) ∧ Below w'.heap.size w' W') := fun w' h => cycle_any ad len cap ls HF.out hcap HM.out w' h
        refine key _ ?_ ?_
        all_goals
          clear key
          intros
          go_wp2_with fail
          refine (next_any ad len cap ls HF.out hcap HM.out dom t _ HR.out).mono ?_
          rintro e w1 ⟨n, ok, rfl, hN, hB⟩
          have hok := next_has hC256 (by omega) (by omega) hN
          rw [← hok]
          cases ok
          · have hn0 : n = 0 := by
              rcases hN with ⟨h, _⟩ | ⟨_, h, _⟩
              · cases h
              · exact h
            subst hn0
            clear hN hok
            go_wp2_with fail
            refine (awake_any _).mono ?_
            rintro e w2 ⟨rfl, hb⟩
            replace hB := below_next hB hb
            clear hb
            go_wp2
            go_ret
            exact ⟨rfl, hB⟩
          · have HN : Hid (NextIs ls dom t n true) := hN
            clear hN hok
            go_wp2_with fail
            refine (at_any ad len cap ls HF.out hcap HM.out n _ (HR.out.next hB)).mono ?_
            rintro e w2 ⟨a, x, rfl, hA, hb⟩
            replace hB := below_next hB hb
            obtain ⟨u1, u2, hx, ⟨j, hj, hjl, hjd⟩, u5⟩ := next_at hC256 (by omega) (by omega) HN.out hA
            subst hx hj
            have HU : Hid (∀ T, t ≤ T → T < x → ¬ Begins ls dom T) := u5
            clear hb hA u5
            have n1 : ¬ x < t := by omega
            have d1 : decide (x < t) = false := by simp; omega
            go_wp2_with fail
            refine (HCY.out _ (HR.out.next hB)).mono ?_
            rintro e w3 ⟨rfl, hb⟩
            replace hB := below_next hB hb
            clear hb
            obtain ⟨b, o, rfl, hbl, hcs⟩ : ∃ b off, ad = some ⟨b, off, none⟩ ∧ b < w.heap.size ∧ ∀ i, i < ls.length → w3.cell? ⟨b, off + i * 2, none⟩ = some (.int .i64 (dm ls i)) ∧ w3.cell? ⟨b, off + i * 2 + 1, none⟩ = some (.int .i64 (ln ls i)) := by
              rcases HR.out.below hB with h | h
              · rw [h] at hjl; simp at hjl
              · exact h
            have cd := (hcs j hjl).1
            rw [hjd] at cd
            clear hcs
            have n2 : ¬ t + (off ls ls.length : Int) ≤ x := by omega
            have n3 : ¬ (j : Int) < 0 := by omega
            have n4 : ¬ (len : Int) ≤ (j : Int) := by omega
            have n4' : (j : Int) < (len : Int) := by omega
            have n3' : (0 : Int) ≤ (j : Int) := by omega
            have d2 : decide (t + (off ls ls.length : Int) ≤ x) = false := by simp; omega
            have d3 : decide ((j : Int) < 0) = false := by simp
            have d4 : decide ((len : Int) ≤ (j : Int)) = false := by simp; omega
            have d4' : decide (len ≤ j) = false := by simp; omega
            have n5 : (dom != dom) = false := by simp
            have n6 : (x != x) = false := by simp
            have w1' : IntKind.i64.wrap (t + (off ls ls.length : Int)) = t + (off ls ls.length : Int) := wrapB (by omega)
            have w2' : wrap64 (t + (off ls ls.length : Int)) = t + (off ls ls.length : Int) := IntWalk.wrap64_in _ (by omega)
            have hpos : 0 < off ls ls.length := by omega
            go_wp2
            clear cd
            go_loopw [13] (fun i wq => ∃ kk : Int, t ≤ kk ∧ kk ≤ x ∧ i = .int .i64 kk ∧ Below w.heap.size w wq) (fun i _ => (x - intOf i).toNat)
            case atStart => exact ⟨t, Int.le_refl _, by omega, rfl, hB⟩
            case round =>
              clear hB
              obtain ⟨kk, v1, v2, rfl, hB⟩ := hrel
              by_cases hlt2 : kk < x
              · go_wp2_with fail
                refine (at_any (some ⟨b, o, none⟩) len cap ls HF.out hcap HM.out kk _ (HR.out.next hB)).mono ?_
                rintro e w4 ⟨a', y, rfl, hA, hb⟩
                replace hB := below_next hB hb
                obtain ⟨z, hz, hzl, hzd⟩ := not_begins_at hpos (by omega) (by omega) (HU.out kk v1 hlt2) hA
                subst hz
                clear hb hA
                have m3 : ¬ (z : Int) < 0 := by omega
                have m4 : ¬ (len : Int) ≤ (z : Int) := by omega
                have m4' : (z : Int) < (len : Int) := by omega
                have m3' : (0 : Int) ≤ (z : Int) := by omega
                have d5 : decide ((z : Int) < 0) = false := by simp
                have d6 : decide ((len : Int) ≤ (z : Int)) = false := by simp; omega
                have d6' : decide (len ≤ z) = false := by simp; omega
                have mw : IntKind.i64.wrap (kk + 1) = kk + 1 := wrapB (by omega)
                have mw' : wrap64 (kk + 1) = kk + 1 := IntWalk.wrap64_in _ (by omega)
                by_cases hy : y = kk
                · have hy' : (y == kk) = true := by simp [hy]
                  have hd' : (dm ls z == dom) = false := by simp [hzd hy]
                  obtain ⟨b', o', hbo, hbl', hcs⟩ : ∃ b' off, (some ⟨b, o, none⟩ : Option Addr) = some ⟨b', off, none⟩ ∧ b' < w.heap.size ∧ ∀ i, i < ls.length → w4.cell? ⟨b', off + i * 2, none⟩ = some (.int .i64 (dm ls i)) ∧ w4.cell? ⟨b', off + i * 2 + 1, none⟩ = some (.int .i64 (ln ls i)) := by
                    rcases HR.out.below hB with h | h
                    · rw [h] at hjl; simp at hjl
                    · exact h
                  simp at hbo
                  obtain ⟨rfl, rfl⟩ := hbo
                  have cd := (hcs z hzl).1
                  clear hcs hzd hy
                  generalize dm ls z = dz at *
                  go_wp2
                  go_roundw
                  case rel => exact ⟨kk + 1, by omega, by omega, by go_num, hB⟩
                  case measure => simp [intOf]; omega
                · have hy' : (y == kk) = false := by simp [hy]
                  clear hzd hy
                  go_wp2
                  go_roundw
                  case rel => exact ⟨kk + 1, by omega, by omega, by go_num, hB⟩
                  case measure => simp [intOf]; omega
              · go_wp2_with fail
                refine (awake_any _).mono ?_
                rintro e w4 ⟨rfl, hb⟩
                replace hB := below_next hB hb
                clear hb
                go_wp2
                go_ret
                exact ⟨rfl, hB⟩

end Go.Proofs.Ytkpnkpkokjcdoaa
