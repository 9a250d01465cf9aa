/-
  What the document's own small questions of a policy come to: limits, and the domain with a name.
-/
import Derived.Test.YtmhjoomkeidcaaaDoorCheck
import Derived.Test.YtmhjoomkeidcaaaDoorL2RefName
namespace Go.Proofs.YtmhjoomkeidcaaaDoor
open Go.RowKit L2

set_option maxHeartbeats 400000 in
theorem in_any (n lo hi : Int) (w : World) :
    Calls Tryd.prog 26 #[.int .i64 n, .int .i64 lo, .int .i64 hi] w fun e w' => e = .returned (.bool (inB n lo hi)) ∧ w' = w := by
  by_cases h : lo ≤ n
  · rw [inB_yes h]
    go_enter Tryd.func26, Tryd.ntmps26
    go_wp2
    go_ret
    exact ⟨rfl, rfl⟩
  · rw [inB_no h]
    go_enter Tryd.func26, Tryd.ntmps26
    go_wp2
    go_ret
    exact ⟨rfl, rfl⟩
theorem in_is {n lo hi : Int} {b : Bool} (h : inB n lo hi = b) (w : World) :
    Calls Tryd.prog 26 #[.int .i64 n, .int .i64 lo, .int .i64 hi] w fun e w' => e = .returned (.bool b) ∧ w' = w := by
  subst h; exact in_any n lo hi w

set_option maxHeartbeats 400000 in
theorem find_any (ad : Option Addr) (n cap : Nat) (ds : List Dm) (nm : ByteArray) (w : World) (hl : ds.length = n) (hn : n ≤ 5000) (hrow : Lies w ad (cellsD ds)) :
    Calls Tryd.prog 28 #[.slice ad n cap, .string nm] w fun e w' => e = .returned (.int .i64 (placeOf ds nm)) ∧ w' = w := by
  have HR : Hid (Lies w ad (cellsD ds)) := hrow
  clear hrow
  go_enter Tryd.func28, Tryd.ntmps28
  go_wp2
  go_loop [5] (fun i => ∃ k : Nat, k ≤ n ∧ i = .int .i64 k ∧ placeFrom nm (ds.drop k) k = placeOf ds nm) (fun i => n - (intOf i).toNat)
  case atStart => exact ⟨0, Nat.zero_le _, rfl, rfl⟩
  case round =>
    obtain ⟨k, hk, rfl, hpl⟩ := hrel
    have HP : Hid (placeFrom nm (ds.drop k) k = placeOf ds nm) := hpl
    clear hpl
    by_cases hlt : k < n
    · obtain ⟨b, off, rfl, hb, q0, q1, q2, q3, q4, q5⟩ := HR.out.dom (dm_at (i := k) (by omega))
      have hd := drop_at (dm_at (ds := ds) (i := k) (by omega))
      have HD : Hid (ds.drop k = dm ds k :: ds.drop (k + 1)) := hd
      clear hd
      generalize dm ds k = d at *
      by_cases he : d.name = nm
      · have hdt : (d.name.toList == nm.toList) = true := by rw [list_eqb]; exact decide_eq_true he
        have HE : Hid (d.name = nm) := he
        clear he
        go_wp2
        go_ret
        refine ⟨?_, rfl⟩
        rw [← HP.out, HD.out, placeFrom, if_pos HE.out]
        rfl
      · have hdt : (d.name.toList == nm.toList) = false := by rw [list_eqb]; exact decide_eq_false he
        have HE : Hid (¬ d.name = nm) := he
        clear he
        go_wp2_with fail
        go_round
        case rel => exact ⟨k + 1, by omega, by go_num, by rw [← HP.out, HD.out, placeFrom, if_neg HE.out]⟩
        case measure => simp [intOf]; omega
    · go_wp2
      go_ret
      obtain rfl : k = n := by omega
      refine ⟨?_, rfl⟩
      rw [← HP.out, List.drop_of_length_le (by omega), placeFrom]
      rfl

theorem place_lt (nm : ByteArray) : ∀ (ds : List Dm) (i k : Nat) (d : Dm), ds[i]? = some d → d.name = nm → (placeFrom nm ds k < ((k + i : Nat) : Int) ↔ 0 ≤ placeFrom nm (ds.take i) k)
  | [], i, k, d, h, _ => by simp at h
  | x :: ds, 0, k, d, h, hn => by
    simp at h
    subst h
    rw [placeFrom, if_pos hn, List.take_zero, placeFrom]
    omega
  | x :: ds, i + 1, k, d, h, hn => by
    simp at h
    rw [List.take_succ_cons, placeFrom, placeFrom]
    by_cases hx : x.name = nm
    · rw [if_pos hx, if_pos hx]; omega
    · rw [if_neg hx, if_neg hx]
      have := place_lt nm ds i (k + 1) d h hn
      rw [show k + (i + 1) = k + 1 + i by omega]
      exact this
theorem place_lt0 {ds : List Dm} {i : Nat} (h : i < ds.length) : decide (placeOf ds (dm ds i).name < (i : Int)) = decide (0 ≤ placeOf (ds.take i) (dm ds i).name) := by
  have := place_lt (dm ds i).name ds i 0 _ (dm_at h) rfl
  rw [Nat.zero_add] at this
  exact decide_eq_decide.2 this
theorem nameBad_ref {ds : List Dm} {i : Nat} (h : i < ds.length) : nameBad ds i = (!nameB (dm ds i).name || decide (placeOf ds (dm ds i).name < (i : Int))) := by
  unfold nameBad; rw [place_lt0 h]

end Go.Proofs.YtmhjoomkeidcaaaDoor
