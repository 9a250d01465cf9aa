/-
  What the document's at, Tasks and Writer come to.
-/
import Derived.Test.YtggfndokmdpaeaaRBase
namespace Go.Proofs.Ytggfndokmdpaeaa
open Go.RowKit

theorem idx_none (l : List Wn) (t : Int) (k : Nat) (hk : l.length ≤ k) (h : ∀ j, j < k → (wn l j).t ≠ t) : idxZ (ts l) t = -1 := by
  refine idx_out (inZ_false.2 fun hm => ?_)
  obtain ⟨j, h1, h2, _⟩ := in_at (inZ_true.2 hm)
  rw [ts_len] at h1
  exact h j (by omega) (by rw [← gz_ts l h1]; exact h2)
theorem idx_hit {l : List Wn} {t : Int} {k : Nat} (h1 : k < l.length) (h2 : (wn l k).t = t) (h3 : ∀ m, m < k → (wn l m).t ≠ t) : idxZ (ts l) t = (k : Int) :=
  idx_at (by rw [ts_len]; exact h1) (by rw [gz_ts l h1]; exact h2) (fun m hm => by rw [gz_ts l (by omega)]; exact h3 m hm)

set_option maxHeartbeats 1000000 in
theorem at_any (R base : Nat) (u : Value) (l : List Wn) (hl : l.length ≤ 1000) (t : Int) (w : World) (hR : AtR w R base u l) :
    Calls Try.prog 32 #[.pointer (some ⟨R, 0, none⟩), .int .i64 t] w fun e w' => e = .returned (.int .i64 (idxZ (ts l) t)) ∧ w' = w := by
  obtain ⟨c0, _⟩ := hR.cells
  obtain ⟨av, ac, rfl⟩ := owns_slice hR.row
  have HO := hide hR.row
  clear hR
  go_enter Try.func32, Try.ntmps32
  go_wp2
  go_loop [5] (fun i => ∃ k : Nat, k ≤ l.length ∧ i = .int .i64 k ∧ Hid (∀ j, j < k → (wn l j).t ≠ t)) (fun i => l.length - (intOf i).toNat)
  case atStart => exact ⟨0, Nat.zero_le _, rfl, fun j hj => absurd hj (by omega)⟩
  case round =>
    obtain ⟨k, hk, rfl, HH⟩ := hrel
    by_cases hlt : k < l.length
    · obtain ⟨g, c, hv, _, hgl, hcell, _⟩ := row_openO HO.out (by omega)
      simp only [Value.slice.injEq, true_and] at hv
      obtain ⟨rfl, rfl⟩ := hv
      obtain ⟨e1, _, _⟩ := hcell k hlt
      have i1 : (k : Int) < (l.length : Int) := by omega
      have i0 : (0 : Int) ≤ (k : Int) := by omega
      clear hcell
      by_cases hx : (wn l k).t = t
      · have HX := hide (idx_hit hlt hx HH.out)
        have hx' : ((wn l k).t == t) = true := by simpa using hx
        clear hx
        generalize (wn l k).t = X at *
        go_wp2
        go_ret
        refine ⟨?_, rfl⟩
        exact ret_int HX.out.symm
      · have HH2 : Hid (∀ j, j < k + 1 → (wn l j).t ≠ t) := fun j hj => by
          by_cases e : j = k
          · subst e; exact hx
          · exact HH.out j (by omega)
        have hx' : ((wn l k).t == t) = false := by simpa using hx
        clear hx
        generalize (wn l k).t = X at *
        go_wp2
        go_round
        case rel => exact ⟨k + 1, by omega, by go_num, HH2⟩
        case measure => simp [intOf]; omega
    · have HX := hide (idx_none l t k (by omega) HH.out)
      go_wp2
      go_ret
      refine ⟨?_, rfl⟩
      exact ret_int HX.out.symm

theorem kinds_take {l : List Wn} {k : Nat} (h : k < l.length) (b c : Bool) : kinds (l.take (k + 1)) b c = kinds (l.take k) b c ++ if isK b c (wn l k) = true then [(wn l k).t] else [] := by
  have e : l.take (k + 1) = l.take k ++ [wn l k] := by
    rw [List.take_add_one, wn_get l h]
    rfl
  rw [e, kinds_app, kinds_one]

set_option maxRecDepth 4000 in
set_option maxHeartbeats 2000000 in
theorem tasks_any (R base : Nat) (u : Value) (l : List Wn) (hl : l.length ≤ 1000) (b c : Bool) (w : World) (hR : AtR w R base u l) :
    Calls Try.prog 27 #[.pointer (some ⟨R, 0, none⟩), .bool b, .bool c] w fun e w' => Owned (kinds l b c) w e w' := by
  obtain ⟨i3, hi, hz0, hz1, hz2⟩ := info_parts info3
  obtain ⟨av, ac, rfl⟩ := owns_slice hR.row
  have HR := hide hR
  clear hR
  have hl0 := hide (lit0 w)
  have hb0 := hide (below1 w (.cells #[] 3))
  go_enter Try.func27, Try.ntmps27
  go_wp2
  go_loopw [7, 8] (fun v i wr => ∃ k : Nat, ∃ a d, k ≤ l.length ∧ i = .int .i64 k ∧ v = .slice a (kinds (l.take k) b c).length d ∧ Hid (wr.ownsRow w.heap.size 3 1 (.slice a (kinds (l.take k) b c).length d) (kinds (l.take k) b c).length (cZ (kinds (l.take k) b c))) ∧ Hid (Below w.heap.size w wr)) (fun _ i _ => l.length - (intOf i).toNat)
  case atStart => exact ⟨0, _, _, Nat.zero_le _, rfl, rfl, hl0, hb0⟩
  case round =>
    obtain ⟨k, a, d, hk, rfl, rfl, HO, HB⟩ := hrel
    have HRr := hide (HR.out.below HB.out)
    obtain ⟨c0, _⟩ := HRr.out.cells
    obtain ⟨N, hN⟩ : ∃ N, (kinds (l.take k) b c).length = N := ⟨_, rfl⟩
    have hNk : N ≤ k := by
      have h1 : (kinds (l.take k) b c).length ≤ (ts (l.take k)).length := (kinds_sub _ _ _).length_le
      rw [ts_len, List.length_take] at h1
      omega
    have HO' : Hid (wr.ownsRow w.heap.size 3 1 (.slice a N d) N (cZ (kinds (l.take k) b c))) := by
      have := HO.out
      rw [hN] at this
      exact this
    rw [hN]
    have HN := hide hN
    have hzw := HB.out.size
    clear HO hN
    by_cases hlt : k < l.length
    · obtain ⟨g, c', hv, _, hgl, hcell, _⟩ := row_openO HRr.out.row (by omega)
      simp only [Value.slice.injEq, true_and] at hv
      obtain ⟨rfl, rfl⟩ := hv
      obtain ⟨e1, e2, e3⟩ := hcell k hlt
      have i1 : (k : Int) < (l.length : Int) := by omega
      have i0 : (0 : Int) ≤ (k : Int) := by omega
      have HK := hide (kinds_take hlt b c)
      clear hcell
      have skip : isK b c (wn l k) = false → (kinds (l.take (k + 1)) b c).length = N ∧ Hid (wr.ownsRow w.heap.size 3 1 (.slice a N d) N (cZ (kinds (l.take (k + 1)) b c))) := fun q => by
        have e := HK.out
        rw [q, if_neg (by simp), List.append_nil] at e
        rw [e]
        exact ⟨HN.out, HO'⟩
      by_cases hw : (wn l k).w = b
      · by_cases hh : (wn l k).h = c
        · have hk1 : isK b c (wn l k) = true := by unfold isK; rw [hw, hh]; simp
          have HK1 := hide (show kinds (l.take (k + 1)) b c = kinds (l.take k) b c ++ [(wn l k).t] from by rw [HK.out, if_pos hk1])
          have hw' : ((wn l k).w == b) = true := by simpa using hw
          have hh' : ((wn l k).h == c) = true := by simpa using hh
          clear skip HK hk1 hw hh
          generalize (wn l k).t = X at *
          generalize (wn l k).w = Y at *
          generalize (wn l k).h = Z at *
          have hR' := HO'.out
          go_wp2_with (at_builtin; refine wpList_append_own_at _ rfl _ _ 35 rfl w.heap.size 3 i3 (.int .i64 0) 1 8 Try.underlying35 hi hz0 hz1 hz2 rfl (by decide) _ _ _ rfl (hR'.alloc _) ⟨wr.heap.size, 0, none⟩ 1 1 [.int .i64 X] rfl rfl (newsI (by simp [go_sem])) (onesI _) (by unfold maxLen; omega) (by omega) (by simp; omega) ?_)
          intro v' w3 hown hgrow _ hat
          obtain ⟨av', ac', rfl⟩ := owns_slice hown
          have hb3 : Below w.heap.size w w3 := (HB.out.alloc hzw _).grown hgrow (by simp; omega) (fun j hj => (hR'.lt j hj).1)
          have HB3 := hide hb3
          have e4 : (kinds (l.take (k + 1)) b c).length = N + 1 := by rw [HK1.out, List.length_append, HN.out]; rfl
          have HO3 : Hid (w3.ownsRow w.heap.size 3 1 (.slice av' (N + 1) ac') (N + 1) (cZ (kinds (l.take (k + 1)) b c))) := by
            rw [HK1.out, cZ_snoc]
            exact hown
          have HE := hide e4
          clear hown hgrow hat hR' hb3 e4 HO' HN HK1 e1 e2 e3 hw' hh'
          go_wp2_with fail
          go_roundw
          case rel =>
            refine ⟨k + 1, av', ac', by omega, by go_num, by rw [HE.out], ?_, HB3⟩
            rw [HE.out]
            exact HO3
          case measure => simp [intOf]; omega
        · have hk1 : isK b c (wn l k) = false := by unfold isK; simp [hh]
          obtain ⟨HE0, HO3⟩ := skip hk1
          have HE := hide HE0
          have hw' : ((wn l k).w == b) = true := by simpa using hw
          have hh' : ((wn l k).h == c) = false := by simpa using hh
          clear skip HK hk1 hw hh HE0
          generalize (wn l k).t = X at *
          generalize (wn l k).w = Y at *
          generalize (wn l k).h = Z at *
          go_wp2_with fail
          go_roundw
          case rel =>
            refine ⟨k + 1, a, d, by omega, by go_num, by rw [HE.out], ?_, HB⟩
            rw [HE.out]
            exact HO3
          case measure => simp [intOf]; omega
      · have hk1 : isK b c (wn l k) = false := by unfold isK; simp [hw]
        obtain ⟨HE0, HO3⟩ := skip hk1
        have HE := hide HE0
        have hw' : ((wn l k).w == b) = false := by simpa using hw
        clear skip HK hk1 hw HE0
        generalize (wn l k).t = X at *
        generalize (wn l k).w = Y at *
        generalize (wn l k).h = Z at *
        go_wp2_with fail
        go_roundw
        case rel =>
          refine ⟨k + 1, a, d, by omega, by go_num, by rw [HE.out], ?_, HB⟩
          rw [HE.out]
          exact HO3
        case measure => simp [intOf]; omega
    · have he : l.take k = l := List.take_of_length_le (by omega)
      rw [he] at HO' HN
      have i1 : ¬ (k : Int) < (l.length : Int) := by omega
      go_wp2
      go_ret
      refine ⟨_, rfl, ?_, HB.out⟩
      rw [HN.out]
      exact HO'.out

theorem gz_row {w : World} {base : Nat} {a : Option Addr} {c : Nat} {l : List Int} (h : w.ownsRow base 3 1 (.slice a l.length c) l.length (cZ l)) (h0 : 0 < l.length) : ∃ g, a = some ⟨g, 0, none⟩ ∧ g < w.heap.size ∧ w.cell? ⟨g, 0, none⟩ = some (.int .i64 (gz l 0)) := by
  obtain ⟨g, c', hv, _, h2, h3, _⟩ := row_open h h0
  injection hv with e
  exact ⟨g, e, h2, (h3 0 h0).1⟩

set_option maxHeartbeats 1000000 in
theorem rwriter_any (R base : Nat) (u : Value) (l : List Wn) (hl : l.length ≤ 1000) (w : World) (hR : AtR w R base u l) :
    Calls Try.prog 26 #[.pointer (some ⟨R, 0, none⟩)] w fun e w' => e = .returned (.int .i64 (wrO l)) ∧ Below w.heap.size w w' := by
  have HT := hide (tasks_any R base u l hl true true w hR)
  unfold wrO
  clear hR
  generalize kinds l true true = q at *
  obtain ⟨X, hX⟩ : ∃ X, gz q 0 = X := ⟨_, rfl⟩
  rw [hX]
  have HX := hide hX
  clear hX
  go_enter Try.func26, Try.ntmps26
  go_wp2_with fail
  refine HT.out.mono ?_
  rintro e w2 ⟨v, rfl, ho, hb⟩
  obtain ⟨a, c, rfl⟩ := owns_slice ho
  have HB := hide hb
  by_cases h0 : q = []
  · subst h0
    clear ho hb
    go_wp2
    go_ret
    exact ⟨ret_int HX.out, HB.out⟩
  · have hp := List.length_pos_iff.2 h0
    obtain ⟨g, rfl, hg, hc⟩ := gz_row ho hp
    have n0 : ((q.length : Int) == 0) = false := by simp; omega
    have n1 : (0 : Int) < (q.length : Int) := by omega
    rw [HX.out] at hc
    clear ho hb hp h0
    generalize q.length = L at *
    go_wp2
    go_ret
    exact ⟨rfl, HB.out⟩

end Go.Proofs.Ytggfndokmdpaeaa
