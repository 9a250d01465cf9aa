/-
  What the document's own Cycle, At and Next come to.
-/
import Derived.Test.YtkpnkpkokjcdoaaOwners
namespace Go.Proofs.Ytkpnkpkokjcdoaa
open Go.RowKit

set_option maxHeartbeats 1000000 in
theorem refCycle_any (ad : Option Addr) (len cap : Nat) (ls : List (Int × Int)) (hm : len ≤ 16 ∧ ls.length = len ∨ 16 < len ∧ ls.length = 16) (hmax : cap ≤ maxLen) (w : World) (hrow : SlotRow w.heap.size w ad ls) :
    Calls Try.prog 12 #[.slice ad len cap] w fun e W' => e = .returned (.int .i64 (off ls ls.length : Int)) ∧ Below w.heap.size w W' := by
  have H : Hid (Calls Try.prog 20 #[.slice ad len cap] w fun e W' => Owners ls w e W') := owners_any ad len cap ls hm hmax w hrow
  clear hrow hmax hm
  go_enter Try.func12, Try.ntmps12
  go_wp2_with (go_at_call 20; refine H.out.mono ?_; rintro e w1 ⟨a1, c1, a2, c2, rfl, h1, h2, hB⟩)
  go_ret
  exact ⟨rfl, hB⟩

set_option maxHeartbeats 2000000 in
set_option maxRecDepth 100000 in
theorem refAt_any (ad : Option Addr) (len cap : Nat) (ls : List (Int × Int)) (hm : len ≤ 16 ∧ ls.length = len ∨ 16 < len ∧ ls.length = 16) (hmax : cap ≤ maxLen) (t : Int) (w : World) (hrow : SlotRow w.heap.size w ad ls) :
    Calls Try.prog 9 #[.slice ad len cap, .int .i64 t] w fun e W' => ∃ a x, e = .returned (.tuple #[.int .i64 a, .int .i64 x]) ∧ AtIs ls t a x ∧ Below w.heap.size w W' := by
  have H : Hid (Calls Try.prog 20 #[.slice ad len cap] w fun e W' => Owners ls w e W') := owners_any ad len cap ls hm hmax w hrow
  have hC := off_le ls ls.length
  have hb : ∀ w : World, Calls Try.prog 17 #[.int .i64 t] w fun e w' => e = .returned (.int .i64 (hold t)) ∧ w' = w := held_any t
  have HB : Hid (∀ w : World, Calls Try.prog 17 #[.int .i64 t] w fun e w' => e = .returned (.int .i64 (hold t)) ∧ w' = w) := hb
  clear hrow hmax hb
  by_cases h0 : off ls ls.length = 0
  · have HX : Hid (AtIs ls t (-1) 0) := .inl ⟨h0, rfl, rfl⟩
    go_enter Try.func9, Try.ntmps9
    go_wp2_with (go_at_call 20; refine H.out.mono ?_; rintro e w1 ⟨a1, c1, a2, c2, rfl, h1, h2, hB⟩)
    exact bodyPost_ret (v := .tuple #[.int .i64 (-1), .int .i64 0]) (by simp [results, Try.f9, go_sem]) rfl ⟨_, _, rfl, HX.out, hB⟩
  · have g0 := hold_ge t
    have g1 := hold_le t
    have hC1 : ¬ (off ls ls.length : Int) = 0 := by omega
    have q0 := Int.emod_nonneg (hold t) hC1
    have q1 := Int.emod_lt_of_pos (hold t) (show (0 : Int) < (off ls ls.length : Int) by omega)
    obtain ⟨r, hr⟩ : ∃ r : Nat, (r : Int) = hold t % (off ls ls.length : Int) := ⟨(hold t % (off ls ls.length : Int)).toNat, by omega⟩
    obtain ⟨k, hk, hh⟩ := has_some ls r ls.length (by omega)
    have HX : Hid (AtIs ls t (k : Int) (hold t - (r : Int) + (off ls k : Int))) := .inr ⟨by omega, k, r, hk, hh, hr, rfl, rfl⟩
    have HH : Hid (Has ls r k ∧ k < ls.length) := ⟨hh, hk⟩
    have hpos : 0 < off ls ls.length := by omega
    have hrT : (r : Int) ≤ hold t := by
      have h1 := Int.mul_ediv_add_emod (hold t) (off ls ls.length : Int)
      have h2 : 0 ≤ (off ls ls.length : Int) * (hold t / (off ls ls.length : Int)) := Int.mul_nonneg (by omega) (Int.ediv_nonneg g0 (by omega))
      omega
    have h1o := hh.1
    rw [← hr] at q0 q1
    have hrem : (hold t).tmod (off ls ls.length : Int) = (r : Int) := by rw [Int.tmod_eq_emod_of_nonneg g0]; exact hr.symm
    have hemod : hold t % (off ls ls.length : Int) = (r : Int) := hr.symm
    clear hr hk hh
    have hC0 : ((off ls ls.length : Int) == 0) = false := by simp; omega
    generalize hold t = T at *
    go_enter Try.func9, Try.ntmps9
    go_wp2_with (first
      | (go_at_call 20; refine H.out.mono ?_; rintro e w1 ⟨a1, c1, a2, c2, rfl, h1, h2, hB⟩)
      | (go_at_call 17; refine (HB.out _).mono ?_; rintro e w2 ⟨rfl, hw2⟩; subst hw2))
    obtain ⟨p1, rfl, _, e1⟩ : ∃ g, a1 = some ⟨g, 0, none⟩ ∧ g < w2.heap.size ∧ ∀ r k, k < ls.length → Has ls r k → w2.cell? ⟨g, r, none⟩ = some (.int .i64 (k : Int)) := h1.resolve_left (by omega)
    obtain ⟨p2, rfl, _, e2⟩ : ∃ g, a2 = some ⟨g, 0, none⟩ ∧ g < w2.heap.size ∧ ∀ r k, k < ls.length → Has ls r k → w2.cell? ⟨g, r, none⟩ = some (.bool (r == off ls k)) := h2.resolve_left (by omega)
    have cW := e1 r k HH.out.2 HH.out.1
    have E2 : Hid (∀ r k, k < ls.length → Has ls r k → w2.cell? ⟨p2, r, none⟩ = some (.bool (r == off ls k))) := e2
    clear e1 e2 h1 h2
    go_loopw [9] (fun i wr => ∃ n : Nat, n + off ls k ≤ r ∧ i = .int .i64 n ∧ wr = w2) (fun i _ => r - (intOf i).toNat)
    case atStart => exact ⟨0, by omega, rfl, rfl⟩
    case round =>
      obtain ⟨n, hn, rfl, hwr⟩ := hrel
      subst hwr
      have cF := E2.out (r - n) k HH.out.2 ⟨by omega, by have := HH.out.1.2; omega⟩
      have hs : (r : Int) - (n : Int) = ((r - n : Nat) : Int) := by omega
      have hw1 : IntKind.i64.wrap ((r : Int) - (n : Int)) = ((r - n : Nat) : Int) := by rw [hs]; exact wrapB (by omega)
      have hw2 : wrap64 ((r : Int) - (n : Int)) = ((r - n : Nat) : Int) := by rw [hs]; exact IntWalk.wrap64_in _ (by omega)
      have hi1 : ((r - n : Nat) : Int) < (off ls ls.length : Int) := by omega
      have hi0 : (0 : Int) ≤ ((r - n : Nat) : Int) := by omega
      by_cases he : r - n = off ls k
      · have hb : (r - n == off ls k) = true := by simp [he]
        rw [hb] at cF
        have hx : T - (n : Int) = T - (r : Int) + (off ls k : Int) := by omega
        have HXX : Hid (AtIs ls t (k : Int) (T - (n : Int))) := by rw [hx]; exact HX
        clear hb he hx hs
        generalize r - n = z at *
        go_wp2
        exact bodyPost_ret (v := .tuple #[.int .i64 (k : Int), .int .i64 (T - (n : Int))]) (by simp [results, Try.f9, go_sem]) rfl ⟨_, _, rfl, HXX.out, hB⟩
      · have hb : (r - n == off ls k) = false := by simp [he]
        rw [hb] at cF
        clear hb hs
        have hlt : n + 1 + off ls k ≤ r := by omega
        clear he
        have hm : r - n ≤ r := by omega
        generalize r - n = z at *
        go_wp2
        go_roundw
        case rel => exact ⟨n + 1, by omega, by go_num, by simp⟩
        case measure => simp [intOf]; omega

/-- What begins at all begins within a cycle. -/
theorem begins_soon {ls : List (Int × Int)} {dom T T' : Int} (h : Begins ls dom T') : ∃ T2, T ≤ T2 ∧ T2 < T + (off ls ls.length : Int) ∧ Begins ls dom T2 := by
  obtain ⟨k, h1, h2, h3, _⟩ := h
  have hp := off_pos h1 h2
  have a0 := Int.emod_nonneg ((off ls k : Int) - T) (show (off ls ls.length : Int) ≠ 0 by omega)
  have a1 := Int.emod_lt_of_pos ((off ls k : Int) - T) (show (0 : Int) < (off ls ls.length : Int) by omega)
  refine ⟨T + ((off ls k : Int) - T) % (off ls ls.length : Int), by omega, by omega, k, h1, h2, h3, ?_⟩
  rw [Int.add_emod_emod, show T + ((off ls k : Int) - T) = (off ls k : Int) by omega]
  exact Int.emod_eq_of_lt (by omega) (by omega)

theorem begins_at {ls : List (Int × Int)} {dom T : Int} {r k : Nat} (hr : (r : Int) = T % (off ls ls.length : Int)) (hh : Has ls r k) (h : Begins ls dom T) : r = off ls k ∧ dm ls k = dom := by
  obtain ⟨j, h1, h2, h3, h4⟩ := h
  have e : r = off ls j := by omega
  have := has_start h2
  rw [← e] at this
  obtain rfl := hh.one this
  exact ⟨e, h3⟩

/-- What the document's Next answers. -/
def NextOf (ls : List (Int × Int)) (dom t : Int) (w : World) (e : Ending) (W' : World) : Prop := ∃ n ok, e = .returned (.tuple #[.int .i64 n, .bool ok]) ∧ NextIs ls dom t n ok ∧ Below w.heap.size w W'

set_option maxHeartbeats 2000000 in
set_option maxRecDepth 100000 in
theorem refNext_of (ad : Option Addr) (len cap : Nat) (ls : List (Int × Int)) (hm : len ≤ 16 ∧ ls.length = len ∨ 16 < len ∧ ls.length = 16) (hmax : cap ≤ maxLen) (dom t : Int) (w : World) (hrow : SlotRow w.heap.size w ad ls) :
    Calls Try.prog 14 #[.slice ad len cap, .int .i64 dom, .int .i64 t] w fun e W' => NextOf ls dom t w e W' := by
  have H : Hid (Calls Try.prog 20 #[.slice ad len cap] w fun e W' => Owners ls w e W') := owners_any ad len cap ls hm hmax w hrow
  have hC := off_le ls ls.length
  have HB : Hid (∀ w : World, Calls Try.prog 17 #[.int .i64 t] w fun e w' => e = .returned (.int .i64 (hold t)) ∧ w' = w) := held_any t
  have HR : Hid (SlotRow w.heap.size w ad ls) := hrow
  clear hrow hmax
  have g0 := hold_ge t
  have g1 := hold_le t
  have HY : Hid (∀ n, hold t ≤ n → n ≤ 4611686018427387904 → Begins ls dom n → (∀ T, hold t ≤ T → T < n → ¬ Begins ls dom T) → NextIs ls dom t n true) := fun n h1 h2 h3 h4 => .inl ⟨rfl, h1, h2, h3, h4⟩
  have HN : Hid ((∀ T, hold t ≤ T → T ≤ 4611686018427387904 → ¬ Begins ls dom T) → NextIs ls dom t 0 false) := fun h => .inr ⟨rfl, rfl, h⟩
  generalize hold t = T at *
  generalize hCC : off ls ls.length = C at *
  have HC : Hid (off ls ls.length = C) := hCC
  clear hCC
  have H' : Hid (Calls Try.prog 20 #[.slice ad len cap] w fun e W' => ∃ a1 c1 a2 c2, e = .returned (.tuple #[.slice a1 C c1, .slice a2 C c2]) ∧ TickRow W' a1 ls (fun _ k => .int .i64 (k : Int)) ∧ TickRow W' a2 ls (fun r k => .bool (r == off ls k)) ∧ Below w.heap.size w W') := by
    rw [← HC.out]; exact H
  clear H
  go_enter Try.func14, Try.ntmps14
  go_wp2_with (first
    | (go_at_call 20; refine H'.out.mono ?_; rintro e w1 ⟨a1, c1, a2, c2, rfl, h1, h2, hB⟩)
    | (go_at_call 17; refine (HB.out _).mono ?_; rintro e w2 ⟨rfl, hw2⟩; subst hw2))
  go_loopw [10] (fun i wr => ∃ n : Nat, n ≤ C ∧ i = .int .i64 n ∧ wr = w2 ∧ ∀ T', T ≤ T' → T' < T + (n : Int) → ¬ Begins ls dom T') (fun i _ => C - (intOf i).toNat)
  case atStart => exact ⟨0, by omega, rfl, rfl, fun T' a b => by omega⟩
  case round =>
    obtain ⟨n, hn, rfl, hwr, hno⟩ := hrel
    subst hwr
    have HNo : Hid (∀ T', T ≤ T' → T' < T + (n : Int) → ¬ Begins ls dom T') := hno
    clear hno
    by_cases hgo : (n : Int) < (C : Int) ∧ (n : Int) ≤ 4611686018427387904 - T
    · obtain ⟨hgo1, hgo2⟩ := hgo
      have hCn : ¬ (C : Int) = 0 := by omega
      obtain ⟨p1, rfl, _, e1⟩ := h1.resolve_left (by rw [HC.out]; omega)
      obtain ⟨p2, rfl, _, e2⟩ := h2.resolve_left (by rw [HC.out]; omega)
      have x0 := Int.emod_nonneg T hCn
      have x1 := Int.emod_lt_of_pos T (show (0 : Int) < (C : Int) by omega)
      obtain ⟨r0, hr0⟩ : ∃ r : Nat, (r : Int) = T % (C : Int) := ⟨(T % (C : Int)).toNat, by omega⟩
      have y0 := Int.emod_nonneg ((r0 : Int) + n) hCn
      have y1 := Int.emod_lt_of_pos ((r0 : Int) + n) (show (0 : Int) < (C : Int) by omega)
      obtain ⟨r, hr⟩ : ∃ r : Nat, (r : Int) = ((r0 : Int) + n) % (C : Int) := ⟨(((r0 : Int) + n) % (C : Int)).toNat, by omega⟩
      have hrT : (r : Int) = (T + n) % (off ls ls.length : Int) := by rw [HC.out, hr, hr0, Int.emod_add_emod]
      rw [← hr] at y0 y1
      rw [← hr0] at x0 x1
      have t1 : T % (C : Int) = (r0 : Int) := hr0.symm
      have t2 : T.tmod (C : Int) = (r0 : Int) := by rw [Int.tmod_eq_emod_of_nonneg g0]; exact t1
      have t3 : ((r0 : Int) + n) % (C : Int) = (r : Int) := hr.symm
      have t4 : ((r0 : Int) + n).tmod (C : Int) = (r : Int) := by rw [Int.tmod_eq_emod_of_nonneg (by omega)]; exact t3
      obtain ⟨k, hk, hh⟩ := has_some ls r ls.length (by rw [HC.out]; omega)
      have cW := e1 r k hk hh
      have cF := e2 r k hk hh
      dsimp only at cW cF
      obtain ⟨b, o, rfl, hb, hcs⟩ : ∃ b off, ad = some ⟨b, off, none⟩ ∧ b < w.heap.size ∧ ∀ i, i < ls.length → wr.cell? ⟨b, off + i * 2, none⟩ = some (.int .i64 (dm ls i)) ∧ wr.cell? ⟨b, off + i * 2 + 1, none⟩ = some (.int .i64 (ln ls i)) := by
        rcases HR.out.below hB with h | h
        · rw [h] at hk; simp at hk
        · exact h
      obtain ⟨cd, _⟩ := hcs k hk
      have hkl : (k : Int) < (len : Int) := by omega
      have hk0 : (0 : Int) ≤ (k : Int) := by omega
      have HA : Hid (∀ _ : Begins ls dom (T + n), r = off ls k ∧ dm ls k = dom) := fun h => begins_at hrT hh h
      have HS : Hid (r = off ls k → dm ls k = dom → Begins ls dom (T + n)) := fun a b => ⟨k, hk, hh.cn, b, by omega⟩
      clear hcs hr hr0 hrT hh hk e1 e2 h1 h2
      generalize dm ls k = d at *
      generalize off ls k = ok at *
      by_cases he : r = ok
      · have hb' : (r == ok) = true := by simp [he]
        rw [hb'] at cF
        by_cases hd : d = dom
        · have hd' : (d == dom) = true := by simp [hd]
          have HXX : Hid (NextIs ls dom t (T + n) true) := HY.out _ (by omega) (by omega) (HS.out he hd) (fun T' a b => HNo.out T' a b)
          clear hb' he hd
          go_wp2
          exact bodyPost_ret (v := .tuple #[.int .i64 (T + n), .bool true]) (by simp [results, Try.f14, go_sem]) rfl ⟨_, _, rfl, HXX.out, hB⟩
        · have hd' : (d == dom) = false := by simp [hd]
          have HE : Hid (∀ T', T ≤ T' → T' < T + ((n + 1 : Nat) : Int) → ¬ Begins ls dom T') := fun T' a b hbg => by
            by_cases e : T' = T + n
            · subst e; exact hd (HA.out hbg).2
            · exact HNo.out T' a (by omega) hbg
          clear hb' he hd
          go_wp2
          go_roundw
          case rel => exact ⟨n + 1, by omega, by go_num, trivial, HE.out⟩
          case measure => simp [intOf]; omega
      · have hb' : (r == ok) = false := by simp [he]
        rw [hb'] at cF
        have HE : Hid (∀ T', T ≤ T' → T' < T + ((n + 1 : Nat) : Int) → ¬ Begins ls dom T') := fun T' a b hbg => by
          by_cases e : T' = T + n
          · subst e; exact he (HA.out hbg).1
          · exact HNo.out T' a (by omega) hbg
        clear hb' he
        go_wp2
        go_roundw
        case rel => exact ⟨n + 1, by omega, by go_num, trivial, HE.out⟩
        case measure => simp [intOf]; omega
    · have HXX : Hid (NextIs ls dom t 0 false) := HN.out (fun T' a b hbg => by
        by_cases e : (n : Int) < (C : Int)
        · exact HNo.out T' a (by omega) hbg
        · obtain ⟨T2, u1, u2, u3⟩ := begins_soon (T := T) hbg
          rw [HC.out] at u2
          exact HNo.out T2 u1 (by omega) u3)
      by_cases e : (n : Int) < (C : Int)
      · have e2 : ¬ (n : Int) ≤ 4611686018427387904 - T := fun h => hgo ⟨e, h⟩
        clear hgo
        go_wp2
        exact bodyPost_ret (v := .tuple #[.int .i64 0, .bool false]) (by simp [results, Try.f14, go_sem]) rfl ⟨_, _, rfl, HXX.out, hB⟩
      · clear hgo
        go_wp2
        exact bodyPost_ret (v := .tuple #[.int .i64 0, .bool false]) (by simp [results, Try.f14, go_sem]) rfl ⟨_, _, rfl, HXX.out, hB⟩

end Go.Proofs.Ytkpnkpkokjcdoaa
