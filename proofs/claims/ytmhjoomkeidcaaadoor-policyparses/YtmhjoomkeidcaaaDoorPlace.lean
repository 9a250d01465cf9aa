/-
  What policy.place comes to: the place of the first domain with a name, below 0 where none has it; and whether any slot is a domain's.
-/
import Derived.Test.YtmhjoomkeidcaaaDoorPol
namespace Go.Proofs.YtmhjoomkeidcaaaDoor
open Go.RowKit L2

theorem list_eqb (a b : ByteArray) : (a.toList == b.toList) = decide (a = b) := by
  by_cases h : a = b
  · subst h; simp
  · rw [list_ne h]; simp [h]

set_option maxHeartbeats 400000 in
theorem named_any (d : Dm) (nm : ByteArray) (B : Nat) (w : World) (hB : B < w.heap.size) (hc : w.cell? ⟨B, 0, none⟩ = some (.string nm)) :
    Calls Tryd.prog 72 #[.agg #[.string d.name, .int .i64 d.lev, .int .i64 d.cat, .int .i64 d.tasks, .int .i64 d.objs, .int .i64 d.ring], .pointer (some ⟨B, 0, none⟩)] w fun e w' => e = .returned (.bool (decide (d.name = nm))) ∧ Below w.heap.size w w' := by
  rw [← list_eqb]
  go_enter Tryd.func72, Tryd.ntmps72
  go_wp2
  go_ret
  exact ⟨rfl, below1 _ _⟩

set_option maxHeartbeats 400000 in
theorem index_any (ad : Option Addr) (n cap : Nat) (ds : List Dm) (nm : ByteArray) (B : Nat) (w : World) (hl : ds.length = n) (hn : n ≤ 5000) (hrow : Lies w ad (cellsD ds)) (hB : B < w.heap.size) (hc : w.cell? ⟨B, 0, none⟩ = some (.string nm)) :
    Calls Tryd.prog 71 #[.slice ad n cap, .func (.func 72) #[] #[.pointer (some ⟨B, 0, none⟩)]] w fun e w' => e = .returned (.int .i64 (placeOf ds nm)) ∧ Below w.heap.size w w' := by
  have HR : Hid (Lies w ad (cellsD ds)) := hrow
  clear hrow
  go_enter Tryd.func71, Tryd.ntmps71
  go_wp2
  go_loopw [5, 8] (fun _ i wr => ∃ k : Nat, k ≤ n ∧ i = .int .i64 k ∧ placeFrom nm (ds.drop k) k = placeOf ds nm ∧ Below w.heap.size w wr) (fun _ i _ => n - (intOf i).toNat)
  case atStart => exact ⟨0, Nat.zero_le _, rfl, rfl, Below.refl _ _⟩
  case round =>
    obtain ⟨k, hk, rfl, hpl, hnx⟩ := hrel
    have HP : Hid (placeFrom nm (ds.drop k) k = placeOf ds nm) := hpl
    clear hpl
    by_cases hlt : k < n
    · obtain ⟨b, off, rfl, hb, q0, q1, q2, q3, q4, q5⟩ := (HR.out.below hnx).dom (dm_at (i := k) (by omega))
      have hN := fun W hW hcc => named_any (dm ds k) nm B W hW hcc
      have hd := drop_at (dm_at (ds := ds) (i := k) (by omega))
      have hz := hnx.size
      have hcc : wr.cell? ⟨B, 0, none⟩ = some (.string nm) := by rw [hnx.cell (p := ⟨B, 0, none⟩) hB]; exact hc
      generalize dm ds k = d at *
      by_cases he : d.name = nm
      · have hdt : decide (d.name = nm) = true := decide_eq_true he
        rw [hdt] at hN
        have HE : Hid (d.name = nm) := he
        clear he hdt
        go_wp2_with (go_at_call 72; refine (hN _ (by omega) hcc).mono ?_; rintro e w2 ⟨rfl, hb2⟩)
        go_ret
        refine ⟨?_, below_next hnx hb2⟩
        rw [← HP.out, hd, placeFrom, if_pos HE.out]
        rfl
      · have hdt : decide (d.name = nm) = false := decide_eq_false he
        rw [hdt] at hN
        go_wp2_with (go_at_call 72; refine (hN _ (by omega) hcc).mono ?_; rintro e w2 ⟨rfl, hb2⟩)
        go_roundw
        case rel => exact ⟨k + 1, by omega, by go_num, by rw [← HP.out, hd, placeFrom, if_neg he], below_next hnx hb2⟩
        case measure => simp [intOf]; omega
    · go_wp2
      go_ret
      obtain rfl : k = n := by omega
      refine ⟨?_, hnx⟩
      rw [← HP.out, List.drop_of_length_le (by omega), placeFrom]
      rfl

set_option maxHeartbeats 400000 in
theorem place_any (ad : Option Addr) (n cap : Nat) (ds : List Dm) (nm : ByteArray) (w : World) (hl : ds.length = n) (hn : n ≤ 5000) (hrow : Lies w ad (cellsD ds)) :
    Calls Tryd.prog 46 #[.slice ad n cap, .string nm] w fun e w' => e = .returned (.int .i64 (placeOf ds nm)) ∧ Below w.heap.size w w' := by
  have HR : Hid (Lies w ad (cellsD ds)) := hrow
  clear hrow
  go_enter Tryd.func46, Tryd.ntmps46
  go_wp2_with fail
  refine (index_any ad n cap ds nm w.heap.size _ hl hn (HR.out.below (below1 _ _)) (by simp) (by simp [go_sem])).mono ?_
  rintro e w1 ⟨rfl, hB⟩
  go_wp2
  go_ret
  exact ⟨rfl, (below1 _ _).trans (hB.mono (by simp))⟩

set_option maxHeartbeats 400000 in
theorem whose_any (s : Sl) (x : Int) (B : Nat) (w : World) (hB : B < w.heap.size) (hc : w.cell? ⟨B, 0, none⟩ = some (.int .i64 x)) :
    Calls Tryd.prog 49 #[.agg #[.int .i64 s.dom, .int .i64 s.len], .pointer (some ⟨B, 0, none⟩)] w fun e w' => e = .returned (.bool (s.dom == x)) ∧ Below w.heap.size w w' := by
  go_enter Tryd.func49, Tryd.ntmps49
  go_wp2
  go_ret
  exact ⟨rfl, below1 _ _⟩

set_option maxHeartbeats 400000 in
theorem indexS_any (ad : Option Addr) (n cap : Nat) (ss : List Sl) (x : Int) (B : Nat) (w : World) (hl : ss.length = n) (hn : n ≤ 5000) (hrow : Lies w ad (cellsS ss)) (hB : B < w.heap.size) (hc : w.cell? ⟨B, 0, none⟩ = some (.int .i64 x)) :
    Calls Tryd.prog 73 #[.slice ad n cap, .func (.func 49) #[] #[.pointer (some ⟨B, 0, none⟩)]] w fun e w' => (∃ v : Int, e = .returned (.int .i64 v) ∧ (decide (0 ≤ v) = ss.any fun s => s.dom == x)) ∧ Below w.heap.size w w' := by
  have HR : Hid (Lies w ad (cellsS ss)) := hrow
  clear hrow
  go_enter Tryd.func73, Tryd.ntmps73
  go_wp2
  go_loopw [5, 8] (fun _ i wr => ∃ k : Nat, k ≤ n ∧ i = .int .i64 k ∧ ((ss.drop k).any fun s => s.dom == x) = (ss.any fun s => s.dom == x) ∧ Below w.heap.size w wr) (fun _ i _ => n - (intOf i).toNat)
  case atStart => exact ⟨0, Nat.zero_le _, rfl, rfl, Below.refl _ _⟩
  case round =>
    obtain ⟨k, hk, rfl, hpl, hnx⟩ := hrel
    have HP : Hid (((ss.drop k).any fun s => s.dom == x) = (ss.any fun s => s.dom == x)) := hpl
    clear hpl
    by_cases hlt : k < n
    · obtain ⟨b, off, rfl, hb, q0, q1⟩ := (HR.out.below hnx).slot (sl_at (i := k) (by omega))
      have hN := fun W hW hcc => whose_any (sl ss k) x B W hW hcc
      have hd := drop_at (sl_at (ss := ss) (i := k) (by omega))
      have hz := hnx.size
      have hcc : wr.cell? ⟨B, 0, none⟩ = some (.int .i64 x) := by rw [hnx.cell (p := ⟨B, 0, none⟩) hB]; exact hc
      generalize sl ss k = d at *
      cases he : (d.dom == x)
      · rw [he] at hN
        go_wp2_with (go_at_call 49; refine (hN _ (by omega) hcc).mono ?_; rintro e w2 ⟨rfl, hb2⟩)
        go_roundw
        case rel => exact ⟨k + 1, by omega, by go_num, by rw [← HP.out, hd, List.any_cons, he, Bool.false_or], below_next hnx hb2⟩
        case measure => simp [intOf]; omega
      · rw [he] at hN
        go_wp2_with (go_at_call 49; refine (hN _ (by omega) hcc).mono ?_; rintro e w2 ⟨rfl, hb2⟩)
        go_ret
        refine ⟨⟨_, rfl, ?_⟩, below_next hnx hb2⟩
        rw [← HP.out, hd, List.any_cons, he, Bool.true_or]
        simp
    · go_wp2
      go_ret
      obtain rfl : k = n := by omega
      refine ⟨⟨_, rfl, ?_⟩, hnx⟩
      rw [← HP.out, List.drop_of_length_le (by omega)]
      rfl

set_option maxHeartbeats 400000 in
theorem has_any (ad : Option Addr) (n cap : Nat) (ss : List Sl) (x : Int) (B : Nat) (w : World) (hl : ss.length = n) (hn : n ≤ 5000) (hrow : Lies w ad (cellsS ss)) (hB : B < w.heap.size) (hc : w.cell? ⟨B, 0, none⟩ = some (.int .i64 x)) :
    Calls Tryd.prog 48 #[.slice ad n cap, .func (.func 49) #[] #[.pointer (some ⟨B, 0, none⟩)]] w fun e w' => e = .returned (.bool (ss.any fun s => s.dom == x)) ∧ Below w.heap.size w w' := by
  have HR : Hid (Lies w ad (cellsS ss)) := hrow
  clear hrow
  go_enter Tryd.func48, Tryd.ntmps48
  go_wp2_with fail
  refine (indexS_any ad n cap ss x B _ hl hn HR.out hB hc).mono ?_
  rintro e w1 ⟨⟨v, rfl, hv⟩, hB1⟩
  have HV : Hid (decide (0 ≤ v) = ss.any fun s => s.dom == x) := hv
  clear hv
  go_wp2
  go_ret
  exact ⟨ret_bool HV.out, hB1⟩

end Go.Proofs.YtmhjoomkeidcaaaDoor
