/-
  What arena's handle, Place, Is, Take and Free come to.
-/
import Derived.Test.YtngaecfainhjcaaABase
namespace Go.Proofs.Ytngaecfainhjcaa.A
open Go.RowKit

set_option maxHeartbeats 400000 in
theorem handle_any (k g : Nat) (hk : k ≤ 1000) (hg : g ≤ 1000000) (w : World) : Calls Try.prog 41 #[.int .i64 k, .int .i64 g] w fun e w' => e = .returned (.int .i64 (hd k g : Nat)) ∧ w' = w := by
  go_enter Try.func41, Try.ntmps41
  go_wp2
  go_ret
  exact ⟨by simp [hd], rfl⟩

theorem wrapB {n : Int} (h : -9223372036854775808 ≤ n ∧ n ≤ 9223372036854775807) : IntKind.i64.wrap n = n := by rw [IntKind.wrap_i64]; omega
theorem place_miss {s : Ar} {h : Int} (hh : ¬ hits s h) : placeOf s h = -1 := if_neg hh
theorem place_hit {s : Ar} {h : Int} (hh : hits s h) : placeOf s h = (kOf h : Int) := if_pos hh

set_option maxHeartbeats 400000 in
theorem place_any (B P K : Nat) (s : Ar) (h : Int) (hh : h ≤ 9223372036854775807) (hK : K ≤ 1000000) (w : World) (hf : Fit K s) (hA : AtA w B P s) :
    Calls Try.prog 40 #[.pointer (some ⟨B, 0, none⟩), .int .i64 h] w fun e w' => e = .returned (.int .i64 (placeOf s h)) ∧ w' = w := by
  obtain ⟨c0, c1, _⟩ := hA.cells
  have h16 := hf.n16
  by_cases h1 : h < 1
  · rw [place_miss (fun x => by have := x.1; omega)]
    go_enter Try.func40, Try.ntmps40
    go_wp2
    go_ret
    exact ⟨rfl, rfl⟩
  · have hk : (((h - 1) % 16).toNat : Int) = (h - 1) % 16 := by omega
    have ht : (h - 1).tmod 16 = ((kOf h : Nat) : Int) := by rw [Int.tmod_eq_emod_of_nonneg (by omega)]; exact hk.symm
    have hw1 : IntKind.i64.wrap (h - 1) = h - 1 := wrapB (by omega)
    by_cases h2 : kOf h < s.n
    · obtain ⟨p0, p1, p2⟩ := hA.row.cells h2
      have hb := hf.backs _ h2
      cases h3 : (s.f (kOf h)).taken
      · rw [h3] at p1
        rw [place_miss (fun x => by have := x.2.2.1; rw [h3] at this; cases this)]
        generalize kOf h = k at *
        go_enter Try.func40, Try.ntmps40
        go_wp2
        go_ret
        exact ⟨rfl, rfl⟩
      · rw [h3] at p1
        have hH := fun W => handle_any (kOf h) (s.f (kOf h)).backs (by omega) (by omega) W
        by_cases h4 : ((hd (kOf h) (s.f (kOf h)).backs : Nat) : Int) = h
        · have h4' : (((hd (kOf h) (s.f (kOf h)).backs : Nat) : Int) != h) = false := by simp [h4]
          rw [place_hit ⟨by omega, h2, h3, h4⟩]
          clear h4
          generalize hd (kOf h) (s.f (kOf h)).backs = H at *
          generalize (s.f (kOf h)).backs = g at *
          generalize kOf h = k at *
          go_enter Try.func40, Try.ntmps40
          go_wp2_with (go_at_call 41; refine (hH _).mono ?_; rintro e w2 ⟨rfl, rfl⟩)
          go_ret
          exact ⟨rfl, rfl⟩
        · have h4' : (((hd (kOf h) (s.f (kOf h)).backs : Nat) : Int) != h) = true := by simpa using h4
          rw [place_miss (fun x => h4 x.2.2.2)]
          clear h4
          generalize hd (kOf h) (s.f (kOf h)).backs = H at *
          generalize (s.f (kOf h)).backs = g at *
          generalize kOf h = k at *
          go_enter Try.func40, Try.ntmps40
          go_wp2_with (go_at_call 41; refine (hH _).mono ?_; rintro e w2 ⟨rfl, rfl⟩)
          go_ret
          exact ⟨rfl, rfl⟩
    · rw [place_miss (fun x => h2 x.2.1)]
      generalize kOf h = k at *
      go_enter Try.func40, Try.ntmps40
      go_wp2
      go_ret
      exact ⟨rfl, rfl⟩

def isB (s : Ar) (h : Int) : Bool := if hits s h then true else false
theorem place_ge (s : Ar) (h : Int) : decide (0 ≤ placeOf s h) = isB s h := by
  unfold placeOf isB
  split <;> simp

/-- What there is of an arena behind a call that may turn it. -/
def Now (B P : Nat) (s : Ar) (w w' : World) : Prop := AtA w' B P s ∧ Turn B P w w'

set_option maxHeartbeats 1000000 in
theorem take_any (B P K : Nat) (s : Ar) (hK : K ≤ 1000000) (w : World) (hf : Fit K s) (hA : AtA w B P s) :
    Calls Try.prog 32 #[.pointer (some ⟨B, 0, none⟩)] w fun e w' => e = .returned (.tuple #[.int .i64 (takeH s), .bool (takeB s)]) ∧ Now B P (takeOf s) w w' := by
  obtain ⟨c0, c1, c2⟩ := hA.cells
  have h16 := hf.n16
  have hnx := hf.nx
  have hne := hA.ne
  by_cases h0 : s.nx = s.n
  · have e : takeH s = 0 ∧ takeB s = false ∧ takeOf s = s := by simp [takeH, takeB, takeOf, h0]
    rw [e.1, e.2.1, e.2.2]
    have t : ((s.nx : Int) == (s.n : Int)) = true := by simp [h0]
    have HA : Hid (AtA w B P s) := hA
    clear h0 e hA hf
    go_enter Try.func32, Try.ntmps32
    go_wp2_with fail
    go_quiet (fail)
    go_wp2
    go_ret2
    exact ⟨rfl, HA.out.below ⟨rfl, rfl, rfl, Nat.le_refl _, fun _ _ => rfl⟩, Turn.of_below ⟨rfl, rfl, rfl, Nat.le_refl _, fun _ _ => rfl⟩⟩
  · have hlt : s.nx < s.n := by omega
    have e : takeH s = (hd s.nx (s.f s.nx).backs : Nat) ∧ takeB s = true ∧ takeOf s = { s with f := upd s.f s.nx { s.f s.nx with taken := true }, nx := (s.f s.nx).next } := by simp [takeH, takeB, takeOf, h0]
    rw [e.1, e.2.1, e.2.2]
    have t : ((s.nx : Int) == (s.n : Int)) = false := by simp; omega
    obtain ⟨p0, p1, p2⟩ := hA.row.cells hlt
    have q1 := hA.row.frozen (s.nx * 3 + 1)
    have hb := hf.backs _ hlt
    have hH := fun W => handle_any s.nx (s.f s.nx).backs (by omega) (by omega) W
    have HA : Hid (AtA w B P s) := hA
    have HE : Hid (∃ k, k = s.nx) := ⟨_, rfl⟩
    clear e hA hf h0
    generalize hd s.nx (s.f s.nx).backs = H at *
    go_enter Try.func32, Try.ntmps32
    go_wp2_with fail
    go_quiet (fail)
    go_wp2_with (go_at_call 41; refine (hH _).mono ?_; rintro e w2 ⟨rfl, rfl⟩)
    go_ret2
    exact ⟨rfl, ((HA.out.below (below_drewN _ _)).setTaken hlt true).setN _, ((Turn.of_below (below_drewN _ _)).setP _ _).setB _ _⟩

theorem freeAt_few {s : Ar} {k : Nat} (h : (s.f k).backs + 1 ≤ 255) : freeAt s k = { s with f := upd s.f k ⟨(s.f k).backs + 1, false, s.nx⟩, nx := k } := if_pos h
theorem freeAt_worn {s : Ar} {k : Nat} (h : ¬ (s.f k).backs + 1 ≤ 255) : freeAt s k = { s with f := upd s.f k ⟨(s.f k).backs + 1, false, (s.f k).next⟩ } := if_neg h

theorem at_few {w : World} {B P : Nat} {s : Ar} (h : AtA w B P s) {k g : Nat} (hk : k < s.n) (hg : g = (s.f k).backs + 1) :
    AtA ((((w.setCell ⟨P, k * 3 + 1, none⟩ (.bool false)).setCell ⟨P, k * 3, none⟩ (.int .i64 g)).setCell ⟨P, k * 3 + 2, none⟩ (.int .i64 s.nx)).setCell ⟨B, 1, none⟩ (.int .i64 k)) B P { s with f := upd s.f k ⟨(s.f k).backs + 1, false, s.nx⟩, nx := k } := by
  have e := (((h.setTaken hk false).setBacks (k := k) hk g).setNext (k := k) hk s.nx).setN k
  subst hg
  simpa [upd_upd, upd_same] using e
theorem at_worn {w : World} {B P : Nat} {s : Ar} (h : AtA w B P s) {k g : Nat} (hk : k < s.n) (hg : g = (s.f k).backs + 1) :
    AtA ((w.setCell ⟨P, k * 3 + 1, none⟩ (.bool false)).setCell ⟨P, k * 3, none⟩ (.int .i64 g)) B P { s with f := upd s.f k ⟨(s.f k).backs + 1, false, (s.f k).next⟩ } := by
  have e := (h.setTaken hk false).setBacks (k := k) hk g
  subst hg
  simpa [upd_upd, upd_same] using e

set_option maxHeartbeats 1000000 in
theorem free_any (B P K : Nat) (s : Ar) (h : Int) (hh : h ≤ 9223372036854775807) (hK : K ≤ 1000000) (w : World) (hf : Fit K s) (hA : AtA w B P s) :
    Calls Try.prog 34 #[.pointer (some ⟨B, 0, none⟩), .int .i64 h] w fun e w' => e = .returned (.bool (isB s h)) ∧ Now B P (freeOf s h) w w' := by
  have hP := fun W => place_any B P K s h hh hK W hf
  obtain ⟨c0, c1, c2⟩ := hA.cells
  have h16 := hf.n16
  have hnx := hf.nx
  have hne := hA.ne
  have HA : Hid (AtA w B P s) := hA
  clear hA
  by_cases h0 : hits s h
  · obtain ⟨k, hk⟩ : ∃ k, k = kOf h := ⟨_, rfl⟩
    have hlt : k < s.n := hk ▸ h0.2.1
    have e : isB s h = true ∧ freeOf s h = freeAt s k := ⟨if_pos h0, by rw [hk]; exact if_pos h0⟩
    rw [e.1, e.2]
    rw [place_hit h0, ← hk] at hP
    obtain ⟨p0, p1, p2⟩ := HA.out.row.cells hlt
    have q0 := HA.out.row.frozen (k * 3)
    have q1 := HA.out.row.frozen (k * 3 + 1)
    have q2 := HA.out.row.frozen (k * 3 + 2)
    have hb := hf.backs _ hlt
    obtain ⟨g1, hg1⟩ : ∃ g1, g1 = (s.f k).backs + 1 := ⟨_, rfl⟩
    have hwr : IntKind.i64.wrap (((s.f k).backs : Int) + 1) = (g1 : Int) := by rw [wrapB (by omega)]; omega
    have HG : Hid (g1 = (s.f k).backs + 1) := hg1
    clear e hf h0 hk
    by_cases h1 : (s.f k).backs + 1 ≤ 255
    · rw [freeAt_few h1]
      have h1' : g1 ≤ 255 := by omega
      clear hg1 h1
      go_enter Try.func34, Try.ntmps34
      go_wp2_with (go_at_call 40; refine (hP _ HA.out).mono ?_; rintro e w2 ⟨rfl, hw2⟩; subst hw2)
      go_ret
      exact ⟨rfl, at_few HA.out hlt HG.out, ((((Turn.refl _ _ _).setP _ _).setP _ _).setP _ _).setB _ _⟩
    · rw [freeAt_worn h1]
      have h1' : ¬ g1 ≤ 255 := by omega
      clear hg1 h1
      go_enter Try.func34, Try.ntmps34
      go_wp2_with (go_at_call 40; refine (hP _ HA.out).mono ?_; rintro e w2 ⟨rfl, hw2⟩; subst hw2)
      go_ret
      exact ⟨rfl, at_worn HA.out hlt HG.out, ((Turn.refl _ _ _).setP _ _).setP _ _⟩
  · have e : isB s h = false ∧ freeOf s h = s := ⟨if_neg h0, if_neg h0⟩
    rw [e.1, e.2]
    rw [place_miss h0] at hP
    clear e hf h0
    go_enter Try.func34, Try.ntmps34
    go_wp2_with (go_at_call 40; refine (hP _ HA.out).mono ?_; rintro e w2 ⟨rfl, hw2⟩; subst hw2)
    go_ret
    exact ⟨rfl, HA.out, Turn.refl _ _ _⟩

end Go.Proofs.Ytngaecfainhjcaa.A
