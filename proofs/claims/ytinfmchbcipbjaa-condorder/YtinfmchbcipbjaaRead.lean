/-
  What the document's Waits and Drop come to.
-/
import Derived.Test.YtinfmchbcipbjaaApp
namespace Go.Proofs.Ytinfmchbcipbjaa
open Go.RowKit

theorem wts_take {q : Q} {k : Nat} (h : k < q.length) : wts (q.take (k + 1)) = if qb q k = true then wts (q.take k) ++ [qa q k] else wts (q.take k) := by
  have e : q.take (k + 1) = q.take k ++ [(qa q k, qb q k)] := by
    rw [List.take_add_one, q_at h]
    rfl
  rw [e, wts_snoc]
theorem AtR.forms {w : World} {R base : Nat} {u : Vs} {q : Q} (h : AtR w R base u q) : ∃ a c b d, u = ⟨.slice a q.length c, .slice b q.length d⟩ := by
  obtain ⟨a, c, h1⟩ := owns_slice h.ra
  obtain ⟨b, d, h2⟩ := owns_slice h.rb
  exact ⟨a, c, b, d, by cases u; simp only at h1 h2; rw [h1, h2]⟩
/-- What is read of a place. -/
theorem AtR.place {w : World} {R base : Nat} {a b : Option Addr} {c d : Nat} {q : Q} (h : AtR w R base ⟨.slice a q.length c, .slice b q.length d⟩ q) {k : Nat} (hk : k < q.length) :
    ∃ g f, a = some ⟨g, 0, none⟩ ∧ b = some ⟨f, 0, none⟩ ∧ w.cell? ⟨g, k, none⟩ = some (.int .i64 (qa q k)) ∧ w.cell? ⟨f, k, none⟩ = some (.bool (qb q k)) ∧ w.frozen? ⟨f, k, none⟩ = false ∧ q.length ≤ d := by
  have h1 := h.ra
  rw [← as_len q] at h1
  obtain ⟨g, c', e1, _, _, k1, _⟩ := row_open h1 (by rw [as_len]; omega)
  obtain ⟨f, d', e2, _, _, k2, k3⟩ := rowB_open h.rb (by omega)
  injection e1 with e1
  injection e2 with e2 _ e4
  have := (k1 k (by rw [as_len]; exact hk)).1
  rw [as_gz] at this
  exact ⟨g, f, e1, e2, this, (k2 k hk).1, (k2 k hk).2, by rw [e4]; exact k3⟩

set_option maxHeartbeats 2000000 in
theorem rwaits_any (R base : Nat) (u : Vs) (q : Q) (hl : q.length ≤ 1000) (w : World) (hR : AtR w R base u q) :
    Calls Try.prog 12 #[.pointer (some ⟨R, 0, none⟩)] w fun e w' => Owned (wts q) w e w' := by
  obtain ⟨i3, hi, hz0, hz1, hz2⟩ := info_parts info3
  obtain ⟨av, ac, bv, bc, rfl⟩ := hR.forms
  have HR := hide hR
  clear hR
  have hl0 := hide (lit0 w)
  have hb0 := hide (below1 w (.cells #[] 3))
  go_enter Try.func12, Try.ntmps12
  go_wp2
  go_loopw [3, 4] (fun v i wr => ∃ k : Nat, ∃ a d, k ≤ q.length ∧ i = .int .i64 k ∧ v = .slice a (wts (q.take k)).length d ∧ Hid (wr.ownsRow w.heap.size 3 1 (.slice a (wts (q.take k)).length d) (wts (q.take k)).length (cZ (wts (q.take k)))) ∧ Hid (Below w.heap.size w wr)) (fun _ i _ => q.length - (intOf i).toNat)
  case atStart => exact ⟨0, _, _, Nat.zero_le _, rfl, rfl, hl0, hb0⟩
  case round =>
    obtain ⟨k, a, d, hk, rfl, rfl, HO, HB⟩ := hrel
    have HRr := hide (HR.out.below HB.out)
    obtain ⟨c0, c1, _⟩ := HRr.out.cells
    obtain ⟨N, hN⟩ : ∃ N, (wts (q.take k)).length = N := ⟨_, rfl⟩
    have hNk : N ≤ k := by
      have h1 := wts_len (q.take k)
      rw [List.length_take] at h1
      omega
    have HO' : Hid (wr.ownsRow w.heap.size 3 1 (.slice a N d) N (cZ (wts (q.take k)))) := by
      have := HO.out
      rw [hN] at this
      exact this
    rw [hN]
    have HN := hide hN
    have hzw := HB.out.size
    clear HO hN
    by_cases hlt : k < q.length
    · obtain ⟨g, f, rfl, rfl, e1, e2, _, _⟩ := HRr.out.place hlt
      have i1 : (k : Int) < (q.length : Int) := by omega
      have i0 : (0 : Int) ≤ (k : Int) := by omega
      have HK := hide (wts_take hlt)
      cases hb : qb q k
      · have HK1 : Hid (wts (q.take (k + 1)) = wts (q.take k)) := hide (by rw [HK.out, hb]; rfl)
        rw [hb] at e2
        clear HK hb
        go_wp2_with fail
        go_roundw
        case rel =>
          refine ⟨k + 1, a, d, by omega, by go_num, by rw [HK1.out, HN.out], ?_, HB⟩
          rw [HK1.out, HN.out]
          exact HO'
        case measure => simp [intOf]; omega
      · have HK1 : Hid (wts (q.take (k + 1)) = wts (q.take k) ++ [qa q k]) := hide (by rw [HK.out, hb]; rfl)
        rw [hb] at e2
        clear HK hb
        generalize qa q k = X at *
        have hR' := HO'.out
        go_wp2_with (at_builtin; refine wpList_append_own_at _ rfl _ _ 26 rfl w.heap.size 3 i3 (.int .i64 0) 1 8 Try.underlying26 hi hz0 hz1 hz2 rfl (by decide) _ _ _ rfl (hR'.alloc _) ⟨wr.heap.size, 0, none⟩ 1 1 [.int .i64 X] rfl rfl (newsI (by simp [go_sem])) (onesI _) (by unfold maxLen; omega) (by omega) (by simp; omega) ?_)
        intro v' w3 hown hgrow _ hat
        obtain ⟨av', ac', rfl⟩ := owns_slice hown
        have hb3 : Below w.heap.size w w3 := (HB.out.alloc hzw _).grown hgrow (by simp; omega) (fun j hj => (hR'.lt j hj).1)
        have HB3 := hide hb3
        have e4 : (wts (q.take (k + 1))).length = N + 1 := by rw [HK1.out, List.length_append, HN.out]; rfl
        have HO3 : Hid (w3.ownsRow w.heap.size 3 1 (.slice av' (N + 1) ac') (N + 1) (cZ (wts (q.take (k + 1))))) := by
          rw [HK1.out, cZ_snoc]
          exact hown
        have HE := hide e4
        clear hown hgrow hat hR' hb3 e4 HO' HN HK1 e1 e2
        go_wp2_with fail
        go_roundw
        case rel =>
          refine ⟨k + 1, av', ac', by omega, by go_num, by rw [HE.out], ?_, HB3⟩
          rw [HE.out]
          exact HO3
        case measure => simp [intOf]; omega
    · have he : q.take k = q := List.take_of_length_le (by omega)
      rw [he] at HO' HN
      have i1 : ¬ (k : Int) < (q.length : Int) := by omega
      go_wp2
      go_ret
      refine ⟨_, rfl, ?_, HB.out⟩
      rw [HN.out]
      exact HO'.out

set_option maxHeartbeats 2000000 in
theorem rdrop_any (R base : Nat) (u : Vs) (q : Q) (hI : Inv q) (hl : q.length ≤ 1000) (t : Int) (w : World) (hR : AtR w R base u q) :
    Calls Try.prog 9 #[.pointer (some ⟨R, 0, none⟩), .int .i64 t] w fun e w' => e = .returned (.bool (inZ (wts q) t)) ∧ NowR R base u (offQ q t) w w' := by
  obtain ⟨av, ac, bv, bc, rfl⟩ := hR.forms
  have HR := hide hR
  obtain ⟨c0, c1, _⟩ := hR.cells
  have HI := hide hI
  clear hR hI
  go_enter Try.func9, Try.ntmps9
  go_wp2
  go_loop [5] (fun i => ∃ k : Nat, k ≤ q.length ∧ i = .int .i64 k ∧ Hid (∀ j, j < k → ¬ (qb q j = true ∧ qa q j = t))) (fun i => q.length - (intOf i).toNat)
  case atStart => exact ⟨0, Nat.zero_le _, rfl, fun j hj => absurd hj (by omega)⟩
  case round =>
    obtain ⟨k, hk, rfl, HH⟩ := hrel
    by_cases hlt : k < q.length
    · obtain ⟨g, f, rfl, rfl, e1, e2, ef, hc⟩ := HR.out.place hlt
      have i1 : (k : Int) < (q.length : Int) := by omega
      have i0 : (0 : Int) ≤ (k : Int) := by omega
      cases hb : qb q k
      · have HH2 : Hid (∀ j, j < k + 1 → ¬ (qb q j = true ∧ qa q j = t)) := fun j hj => by
          by_cases e : j = k
          · subst e; rw [hb]; simp
          · exact HH.out j (by omega)
        rw [hb] at e2
        clear hb ef
        generalize qa q k = X at *
        go_wp2
        go_round
        case rel => exact ⟨k + 1, by omega, by go_num, HH2⟩
        case measure => simp [intOf]; omega
      · by_cases hx : qa q k = t
        · have HA := hide (off_in hlt hx hb)
          have HS := hide (off_at HI.out hlt hx hb HH.out)
          have HN := hide (NowR.mark (b := false) HR.out (g := f) rfl hlt hx)
          have hx' : (qa q k == t) = true := by simpa using hx
          rw [hb] at e2
          clear hb hx
          generalize qa q k = X at *
          generalize q.length = L at *
          go_wp2
          go_ret
          rw [HA.out, HS.out]
          exact ⟨rfl, HN.out⟩
        · have HH2 : Hid (∀ j, j < k + 1 → ¬ (qb q j = true ∧ qa q j = t)) := fun j hj => by
            by_cases e : j = k
            · subst e; exact fun p => hx p.2
            · exact HH.out j (by omega)
          have hx' : (qa q k == t) = false := by simpa using hx
          rw [hb] at e2
          clear hb hx ef
          generalize qa q k = X at *
          go_wp2
          go_round
          case rel => exact ⟨k + 1, by omega, by go_num, HH2⟩
          case measure => simp [intOf]; omega
    · have HX := hide (off_out (q := q) (t := t) fun j hj => HH.out j (by omega))
      have HE := hide (off_none HX.out)
      have i1 : ¬ (k : Int) < (q.length : Int) := by omega
      go_wp2
      go_ret
      rw [HX.out, HE.out]
      exact ⟨rfl, NowR.same HR.out (Below.refl _ _)⟩

end Go.Proofs.Ytinfmchbcipbjaa
