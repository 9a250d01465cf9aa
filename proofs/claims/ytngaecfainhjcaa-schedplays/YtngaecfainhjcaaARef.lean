/-
  The document's arena as plain data, and how it lies in memory; what its Place and Live come to.
-/
import Derived.Test.YtngaecfainhjcaaAMem
namespace Go.Proofs.Ytngaecfainhjcaa.A
open Go.RowKit

/-- How often each place was given back; whose handle is there; the places that were given back, the last one behind; the first that was never taken. -/
structure Rf where
  gens : List Nat
  now : List Nat
  back : List Nat
  fresh : Nat

/-- The document's arena in memory: its box, and three rows. -/
structure AtR (w : World) (R base : Nat) (v1 v2 v3 : Value) (r : Rf) : Prop where
  box : w.heap[R]? = some (.cells #[v1, v2, v3, .int .i64 (r.fresh : Int)] 52 (0, 0))
  g : w.ownsRow base 3 1 v1 r.gens.length (cI r.gens)
  n : w.ownsRow base 3 1 v2 r.now.length (cI r.now)
  b : w.ownsRow base 3 1 v3 r.back.length (cI r.back)
  gn : ∀ k, v1.ownBlock = some k → v2.ownBlock ≠ some k
  gb : ∀ k, v1.ownBlock = some k → v3.ownBlock ≠ some k
  nb : ∀ k, v2.ownBlock = some k → v3.ownBlock ≠ some k

theorem AtR.lt {w : World} {R base : Nat} {v1 v2 v3 : Value} {r : Rf} (h : AtR w R base v1 v2 v3 r) : R < w.heap.size := (Array.getElem?_eq_some_iff.1 h.box).1
theorem AtR.below {w w' : World} {R base : Nat} {v1 v2 v3 : Value} {r : Rf} (h : AtR w R base v1 v2 v3 r) (k : Below w.heap.size w w') : AtR w' R base v1 v2 v3 r :=
  ⟨(k.block _ h.lt).trans h.box, owns_below h.g k, owns_below h.n k, owns_below h.b k, h.gn, h.gb, h.nb⟩
theorem AtR.cells {w : World} {R base : Nat} {v1 v2 v3 : Value} {r : Rf} (h : AtR w R base v1 v2 v3 r) :
    w.cell? ⟨R, 0, none⟩ = some v1 ∧ w.cell? ⟨R, 1, none⟩ = some v2 ∧ w.cell? ⟨R, 2, none⟩ = some v3 ∧ w.cell? ⟨R, 3, none⟩ = some (.int .i64 (r.fresh : Int)) ∧ (∀ j, w.frozen? ⟨R, j, none⟩ = false) :=
  ⟨Lib.cell_of_heap h.box 0, Lib.cell_of_heap h.box 1, Lib.cell_of_heap h.box 2, Lib.cell_of_heap h.box 3, fun j => Lib.frozen_of_heap h.box j⟩
/-- A row that is owned, of which there is something. -/
theorem row_open {w : World} {base : Nat} {v : Value} {l : List Nat} (h : w.ownsRow base 3 1 v l.length (cI l)) (h0 : 0 < l.length) :
    ∃ g c, v = .slice (some ⟨g, 0, none⟩) l.length c ∧ base ≤ g ∧ g < w.heap.size ∧ (∀ k, k < l.length → w.cell? ⟨g, k, none⟩ = some (.int .i64 ((gs_ l k : Nat) : Int)) ∧ w.frozen? ⟨g, k, none⟩ = false) ∧ l.length ≤ c := by
  have h' := h
  rcases h.2 with ⟨_, h1⟩ | ⟨g, c, cur, rfl, hb, hh, hc, _⟩
  · omega
  refine ⟨g, c, rfl, hb, (Array.getElem?_eq_some_iff.1 hh).1, fun k hk => ⟨?_, h'.frozenAt k⟩, hc⟩
  rw [h'.cellAt k (by omega)]
  simp [cI, gs_, hk]

theorem ret_int {a b : Int} (h : a = b) : Ending.returned (Value.int .i64 a) = .returned (.int .i64 b) := by rw [h]

/-- The place of a handle: the first that has it. -/
def seek (now : List Nat) (h : Int) : Nat → Nat → Int
  | 0, _ => -1
  | n + 1, i => if 0 < h ∧ ((gs_ now i : Nat) : Int) = h then (i : Int) else seek now h n (i + 1)
def refPlace (r : Rf) (h : Int) : Int := seek r.now h r.now.length 0

set_option maxHeartbeats 1000000 in
theorem refPlace_any (R base : Nat) (v1 v2 v3 : Value) (r : Rf) (h : Int) (hn : r.now.length ≤ 16) (w : World) (hR : AtR w R base v1 v2 v3 r) :
    Calls Try.prog 28 #[.pointer (some ⟨R, 0, none⟩), .int .i64 h] w fun e w' => e = .returned (.int .i64 (refPlace r h)) ∧ w' = w := by
  obtain ⟨_, c1, _, _, _⟩ := hR.cells
  obtain ⟨av, ac, rfl⟩ := owns_slice hR.n
  have HR := hide hR
  clear hR
  go_enter Try.func28, Try.ntmps28
  go_wp2
  go_loop [5] (fun i => ∃ k : Nat, k ≤ r.now.length ∧ i = .int .i64 k ∧ seek r.now h (r.now.length - k) k = refPlace r h) (fun i => r.now.length - (intOf i).toNat)
  case atStart => exact ⟨0, Nat.zero_le _, rfl, rfl⟩
  case round =>
    obtain ⟨k, hk, rfl, hs⟩ := hrel
    by_cases hlt : k < r.now.length
    · obtain ⟨g, c, hv, _, _, hcell, _⟩ := row_open HR.out.n (by omega)
      simp only [Value.slice.injEq, true_and] at hv
      obtain ⟨rfl, rfl⟩ := hv
      obtain ⟨e1, _⟩ := hcell k hlt
      clear hcell
      have hi1 : (k : Int) < (r.now.length : Int) := by omega
      have hi0 : (0 : Int) ≤ (k : Int) := by omega
      have hst : seek r.now h (r.now.length - k) k = if 0 < h ∧ ((gs_ r.now k : Nat) : Int) = h then (k : Int) else seek r.now h (r.now.length - (k + 1)) (k + 1) := by
        rw [show r.now.length - k = (r.now.length - (k + 1)) + 1 by omega]; rfl
      rw [hst] at hs
      clear hst
      generalize gs_ r.now k = X at *
      by_cases h0 : 0 < h
      · by_cases hx : (X : Int) = h
        · have hx' : ((X : Int) == h) = true := by simp [hx]
          rw [if_pos ⟨h0, hx⟩] at hs
          have HS := hide hs
          clear hs hx
          go_wp2
          go_ret
          exact ⟨ret_int HS.out, rfl⟩
        · have hx' : ((X : Int) == h) = false := by simp [hx]
          rw [if_neg (fun q => hx q.2)] at hs
          have HS := hide hs
          clear hs hx
          go_wp2
          go_round
          case rel => exact ⟨k + 1, by omega, by go_num, HS.out⟩
          case measure => simp [intOf]; omega
      · rw [if_neg (fun q => h0 q.1)] at hs
        have HS := hide hs
        clear hs
        go_wp2
        go_round
        case rel => exact ⟨k + 1, by omega, by go_num, HS.out⟩
        case measure => simp [intOf]; omega
    · have HS := hide hs
      clear hs
      go_wp2
      go_ret
      refine ⟨?_, rfl⟩
      have := HS.out
      rw [show r.now.length - k = 0 by omega] at this
      exact ret_int this

/-- All handles, by their places: of the first k places. -/
def refLive (r : Rf) : Nat → List Nat
  | 0 => []
  | k + 1 => refLive r k ++ if 0 < gs_ r.now k then [gs_ r.now k] else []
theorem refLive_len (r : Rf) : ∀ k, (refLive r k).length ≤ k
  | 0 => Nat.le_refl _
  | k + 1 => by
    have := refLive_len r k
    simp only [refLive, List.length_append]
    split <;> simp <;> omega

set_option maxHeartbeats 2000000 in
theorem refLive_any (R base : Nat) (v1 v2 v3 : Value) (r : Rf) (hn : r.now.length ≤ 16) (w : World) (hR : AtR w R base v1 v2 v3 r) :
    Calls Try.prog 11 #[.pointer (some ⟨R, 0, none⟩)] w fun e w' => Owned (refLive r r.now.length) w e w' := by
  obtain ⟨i0, hi, hz0, hz1, hz2⟩ := info_parts info3
  obtain ⟨av, ac, rfl⟩ := owns_slice hR.n
  have HR := hide hR
  have hRl := hR.lt
  clear hR
  go_enter Try.func11, Try.ntmps11
  go_wp2
  go_loopw [3, 4] (fun v i wr => ∃ k : Nat, k ≤ r.now.length ∧ i = .int .i64 k ∧ wr.ownsRow w.heap.size 3 1 v (refLive r k).length (cI (refLive r k)) ∧ Below w.heap.size w wr) (fun _ i _ => r.now.length - (intOf i).toNat)
  case atStart => exact ⟨0, Nat.zero_le _, rfl, World.ownsRow_lit w #[] 0 (Nat.le_refl _) (by unfold maxLen; omega) rfl, (Below.refl _ _).alloc (Nat.le_refl _) _⟩
  case round =>
    obtain ⟨k, hk, rfl, hw, hnx⟩ := hrel
    have hz := hnx.size
    obtain ⟨_, c1, _, _, _⟩ := (HR.out.below hnx).cells
    by_cases hlt : k < r.now.length
    · obtain ⟨g, c, hv, _, hgl, hcell, _⟩ := row_open (HR.out.below hnx).n (by omega)
      simp only [Value.slice.injEq, true_and] at hv
      obtain ⟨rfl, rfl⟩ := hv
      obtain ⟨e1, _⟩ := hcell k hlt
      clear hcell
      have hi1 : (k : Int) < (r.now.length : Int) := by omega
      have hi0 : (0 : Int) ≤ (k : Int) := by omega
      have hlen := refLive_len r k
      by_cases h0 : 0 < gs_ r.now k
      · have h0' : (0 : Int) < ((gs_ r.now k : Nat) : Int) := by omega
        have e : refLive r (k + 1) = refLive r k ++ [gs_ r.now k] := by simp [refLive, h0]
        have HE := hide e
        clear e
        generalize gs_ r.now k = X at *
        go_wp2_with (first
          | (at_builtin; refine wpList_append_own _ rfl _ _ 30 rfl w.heap.size 3 i0 (.int .i64 0) 1 8 Try.underlying30 hi hz0 hz1 hz2 rfl (by decide) _ _ _ rfl (hw.alloc _) ⟨wr.heap.size, 0, none⟩ 1 1 [.int .i64 (X : Int)] rfl rfl ?c1 ?c2 ?c3 ?c4 ?c5 ?_)
          | fail)
        case c1 =>
          intro j u hj
          match j, hj with
          | 0, hj => simp at hj; subst hj; simp [Addr.add, go_sem]
        case c2 => intro u hu; simp at hu; subst hu; rfl
        case c3 => unfold maxLen; omega
        case c4 => omega
        case c5 => simp; omega
        intro v' w3 hown' hgrow _
        have hnx3 := below_owns hnx hz hw (Nat.le_refl _) hgrow
        have HO : Hid (w3.ownsRow w.heap.size 3 1 v' (refLive r (k + 1)).length (cI (refLive r (k + 1)))) := by
          rw [HE.out, cI_snoc, List.length_append]; exact hown'
        clear hown' hgrow hw
        go_wp2
        go_roundw
        case rel => exact ⟨k + 1, by omega, by go_num, HO.out, hnx3⟩
        case measure => simp [intOf]; omega
      · have h0' : ¬ (0 : Int) < ((gs_ r.now k : Nat) : Int) := by omega
        have e : refLive r (k + 1) = refLive r k := by simp [refLive, h0]
        have HW : Hid (wr.ownsRow w.heap.size 3 1 u3 (refLive r (k + 1)).length (cI (refLive r (k + 1)))) := by rw [e]; exact hw
        clear hw e h0
        generalize gs_ r.now k = X at *
        go_wp2
        go_roundw
        case rel => exact ⟨k + 1, by omega, by go_num, HW.out, hnx⟩
        case measure => simp [intOf]; omega
    · go_wp2
      go_ret
      obtain rfl : k = r.now.length := by omega
      exact ⟨_, rfl, hw, hnx⟩

end Go.Proofs.Ytngaecfainhjcaa.A
