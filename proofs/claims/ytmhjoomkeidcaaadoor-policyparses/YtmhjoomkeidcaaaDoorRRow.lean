/-
  What policy.readRow comes to: what a line adds to a policy, or what is wrong with it.
-/
import Derived.Test.YtmhjoomkeidcaaaDoorRDom
import Derived.Test.YtmhjoomkeidcaaaDoorRLink
namespace Go.Proofs.YtmhjoomkeidcaaaDoor
open Go.RowKit L2

theorem opens_is {b off n cap len : Nat} {x word : ByteArray} {r : Bool} (w : World) (hn : 1 ≤ n) (hc : w.cell? ⟨b, off, none⟩ = some (.string x)) (hr : (decide (x = word) && decide (n = len)) = r) :
    Calls Tryd.prog 56 #[.slice (some ⟨b, off, none⟩) n cap, .string word, .int .i64 len] w fun e w' => e = .returned (.bool r) ∧ w' = w := by
  subst hr; exact opens_any b off n cap x word len w hn hc

theorem not_both {x k1 k2 : ByteArray} (h : k1 ≠ k2) (hx : x = k1) : decide (x = k2) = false := decide_eq_false (fun e => h (hx.symm.trans e))
theorem kw12 : kwDomain ≠ kwSlot := by decide
theorem kw13 : kwDomain ≠ kwCell := by decide
theorem kw14 : kwDomain ≠ kwPump := by decide
theorem kw23 : kwSlot ≠ kwCell := by decide
theorem kw24 : kwSlot ≠ kwPump := by decide
theorem kw34 : kwCell ≠ kwPump := by decide

/-- The first word of a line, and how many there are: which of the four kinds of line it is, or none. -/
theorem line_kinds (p : Pol) (row : List ByteArray) (n : Nat) (hl : row.length = n) (x : ByteArray) (hx : row[0]? = some x) :
    (∃ nm lb a b c, row = [x, nm, lb, a, b, c] ∧ (decide (x = kwDomain) && decide (n = 6)) = true ∧ lineOf p row = domLine p nm lb a b c)
    ∨ (∃ nm a, row = [x, nm, a] ∧ (decide (x = kwDomain) && decide (n = 6)) = false ∧ (decide (x = kwSlot) && decide (n = 3)) = true ∧ lineOf p row = slotLine p nm a)
    ∨ (∃ nm nm2 a, row = [x, nm, nm2, a] ∧ (decide (x = kwDomain) && decide (n = 6)) = false ∧ (decide (x = kwSlot) && decide (n = 3)) = false ∧ (decide (x = kwCell) && decide (n = 4)) = true ∧ lineOf p row = linkLine p 1 nm nm2 a)
    ∨ (∃ nm nm2 a, row = [x, nm, nm2, a] ∧ (decide (x = kwDomain) && decide (n = 6)) = false ∧ (decide (x = kwSlot) && decide (n = 3)) = false ∧ (decide (x = kwCell) && decide (n = 4)) = false ∧ (decide (x = kwPump) && decide (n = 4)) = true ∧ lineOf p row = linkLine p 2 nm nm2 a)
    ∨ ((decide (x = kwDomain) && decide (n = 6)) = false ∧ (decide (x = kwSlot) && decide (n = 3)) = false ∧ (decide (x = kwCell) && decide (n = 4)) = false ∧ (decide (x = kwPump) && decide (n = 4)) = false ∧ lineOf p row = (2, p)) := by
  subst hl
  match row, hx with
  | [y], hx => simp at hx; subst hx; right; right; right; right; simp [lineOf]
  | [y, a], hx => simp at hx; subst hx; right; right; right; right; simp [lineOf]
  | [y, a, b], hx =>
    simp at hx; subst hx
    by_cases h : y = kwSlot
    · right; left; exact ⟨a, b, rfl, by simp, by simp [h], by simp [lineOf, h]⟩
    · right; right; right; right; simp [lineOf, h]
  | [y, a, b, c], hx =>
    simp at hx; subst hx
    by_cases h : y = kwCell
    · right; right; left; exact ⟨a, b, c, rfl, by simp, by simp, by simp [h], by simp [lineOf, h]⟩
    · by_cases h2 : y = kwPump
      · right; right; right; left; exact ⟨a, b, c, rfl, by simp, by simp, by simp [h], by simp [h2], by simp only [lineOf]; rw [if_neg h, if_pos h2]⟩
      · right; right; right; right; exact ⟨by simp, by simp, by simp [h], by simp [h2], by simp only [lineOf]; rw [if_neg h, if_neg h2]⟩
  | [y, a, b, c, d], hx => simp at hx; subst hx; right; right; right; right; simp [lineOf]
  | [y, a, b, c, d, e], hx =>
    simp at hx; subst hx
    by_cases h : y = kwDomain
    · left; exact ⟨a, b, c, d, e, rfl, by simp [h], by simp [lineOf, h]⟩
    · right; right; right; right; simp [lineOf, h]
  | (y :: a :: b :: c :: d :: e :: f :: r), hx => right; right; right; right; simp [lineOf]

set_option maxHeartbeats 4000000 in
theorem readRow_any (B base rb ro n cap : Nat) (v1 v2 v3 : Value) (p : Pol) (row : List ByteArray) (w : World) (hP : PAt w B base v1 v2 v3 p) (hl1 : p.ds.length ≤ 5000) (hl2 : p.ss.length ≤ 5000) (hl3 : p.ls.length ≤ 5000)
    (hl : row.length = n) (h1 : 1 ≤ n) (hcap : n ≤ cap) (hrb : rb < w.heap.size) (hrow : ∀ j x, row[j]? = some x → w.cell? ⟨rb, ro + j, none⟩ = some (.string x)) :
    Calls Tryd.prog 33 #[.pointer (some ⟨B, 0, none⟩), .slice (some ⟨rb, ro, none⟩) n cap] w fun e w' =>
      e = .returned (.int .i64 ((lineOf p row).1 : Nat)) ∧ (∃ v1 v2 v3, PAt w' B base v1 v2 v3 (lineOf p row).2) ∧ But B base w w' := by
  obtain ⟨x, hx⟩ : ∃ x, row[0]? = some x := ⟨row[0]'(by omega), List.getElem?_eq_getElem (by omega)⟩
  have c0 := hrow 0 x hx
  rw [Nat.add_zero] at c0
  have HP : Hid (PAt w B base v1 v2 v3 p) := hP
  have HROW : Hid (∀ j x, row[j]? = some x → w.cell? ⟨rb, ro + j, none⟩ = some (.string x)) := hrow
  clear hP hrow
  rcases line_kinds p row n hl x hx with ⟨nm, lb, a, b, c, rfl, k1, hL⟩ | ⟨nm, a, rfl, k1, k2, hL⟩ | ⟨nm, nm2, a, rfl, k1, k2, k3, hL⟩ | ⟨nm, nm2, a, rfl, k1, k2, k3, k4, hL⟩ | ⟨k1, k2, k3, k4, hL⟩
  · rw [hL]
    obtain rfl : n = 6 := by simpa using hl.symm
    have hD := readDomain_any B base rb (ro + 1) (cap - 1) v1 v2 v3 p nm lb a b c w HP.out hl1 (HROW.out 1 _ rfl) (HROW.out 2 _ rfl) (HROW.out 3 _ rfl) (HROW.out 4 _ rfl) (HROW.out 5 _ rfl) hrb (by omega)
    go_enter Tryd.func33, Tryd.ntmps33
    go_wp2_with fail
    refine (opens_is _ (by omega) c0 k1).mono ?_
    rintro e w1 ⟨rfl, rfl⟩
    go_wp2_with fail
    refine hD.mono ?_
    rintro e w1 ⟨rfl, hS⟩
    go_wp2
    go_ret
    exact ⟨rfl, hS⟩
  · rw [hL]
    obtain rfl : n = 3 := by simpa using hl.symm
    have hD := readSlot_any B base rb (ro + 1) (cap - 1) v1 v2 v3 p nm a w HP.out hl1 hl2 (HROW.out 1 _ rfl) (HROW.out 2 _ rfl) hrb (by omega)
    go_enter Tryd.func33, Tryd.ntmps33
    go_wp2_with fail
    refine (opens_is _ (by omega) c0 k1).mono ?_
    rintro e w1 ⟨rfl, rfl⟩
    go_wp2_with fail
    refine (opens_is _ (by omega) c0 k2).mono ?_
    rintro e w1 ⟨rfl, rfl⟩
    go_wp2_with fail
    refine hD.mono ?_
    rintro e w1 ⟨rfl, hS⟩
    go_wp2
    go_ret
    exact ⟨rfl, hS⟩
  · rw [hL]
    obtain rfl : n = 4 := by simpa using hl.symm
    have hD := readLink_any B base rb (ro + 1) (cap - 1) 1 v1 v2 v3 p nm nm2 a w HP.out hl1 hl3 (HROW.out 1 _ rfl) (HROW.out 2 _ rfl) (HROW.out 3 _ rfl) hrb (by omega)
    go_enter Tryd.func33, Tryd.ntmps33
    go_wp2_with fail
    refine (opens_is _ (by omega) c0 k1).mono ?_
    rintro e w1 ⟨rfl, rfl⟩
    go_wp2_with fail
    refine (opens_is _ (by omega) c0 k2).mono ?_
    rintro e w1 ⟨rfl, rfl⟩
    go_wp2_with fail
    refine (opens_is _ (by omega) c0 k3).mono ?_
    rintro e w1 ⟨rfl, rfl⟩
    go_wp2_with fail
    refine hD.mono ?_
    rintro e w1 ⟨rfl, hS⟩
    go_wp2
    go_ret
    exact ⟨rfl, hS⟩
  · rw [hL]
    obtain rfl : n = 4 := by simpa using hl.symm
    have hD := readLink_any B base rb (ro + 1) (cap - 1) 2 v1 v2 v3 p nm nm2 a w HP.out hl1 hl3 (HROW.out 1 _ rfl) (HROW.out 2 _ rfl) (HROW.out 3 _ rfl) hrb (by omega)
    go_enter Tryd.func33, Tryd.ntmps33
    go_wp2_with fail
    refine (opens_is _ (by omega) c0 k1).mono ?_
    rintro e w1 ⟨rfl, rfl⟩
    go_wp2_with fail
    refine (opens_is _ (by omega) c0 k2).mono ?_
    rintro e w1 ⟨rfl, rfl⟩
    go_wp2_with fail
    refine (opens_is _ (by omega) c0 k3).mono ?_
    rintro e w1 ⟨rfl, rfl⟩
    go_wp2_with fail
    refine (opens_is _ (by omega) c0 k4).mono ?_
    rintro e w1 ⟨rfl, rfl⟩
    go_wp2_with fail
    refine hD.mono ?_
    rintro e w1 ⟨rfl, hS⟩
    go_wp2
    go_ret
    exact ⟨rfl, hS⟩
  · rw [hL]
    go_enter Tryd.func33, Tryd.ntmps33
    go_wp2_with fail
    refine (opens_is _ (by omega) c0 k1).mono ?_
    rintro e w1 ⟨rfl, rfl⟩
    go_wp2_with fail
    refine (opens_is _ (by omega) c0 k2).mono ?_
    rintro e w1 ⟨rfl, rfl⟩
    go_wp2_with fail
    refine (opens_is _ (by omega) c0 k3).mono ?_
    rintro e w1 ⟨rfl, rfl⟩
    go_wp2_with fail
    refine (opens_is _ (by omega) c0 k4).mono ?_
    rintro e w1 ⟨rfl, rfl⟩
    go_wp2
    go_ret
    exact ⟨rfl, ⟨_, _, _, HP.out⟩, But.refl _ _ _⟩

end Go.Proofs.YtmhjoomkeidcaaaDoor
