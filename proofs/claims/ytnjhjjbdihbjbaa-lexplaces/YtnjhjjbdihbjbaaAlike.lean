/-
  What the document's own comparison of two lists of words comes to, and what the fixed fact is.
-/
import Derived.Test.YtnjhjjbdihbjbaaRef
import Derived.Deep.RegionHeld3
import Derived.Lib.QuietBelow
namespace Go.Proofs.Ytnjhjjbdihbjbaa
open Go.RowKit

/-- A list of words as it lies in memory. -/
def Row (w : World) (ao : Option Addr) (ws : List Wd) : Prop :=
  ws = [] ∨ ∃ b, ao = some ⟨b, 0, none⟩ ∧ b < w.heap.size ∧ ∀ i x, ws[i]? = some x → w.cell? ⟨b, i * 3, none⟩ = some (.string ⟨x.text.toArray⟩) ∧ w.cell? ⟨b, i * 3 + 1, none⟩ = some (.int .i64 x.line) ∧ w.cell? ⟨b, i * 3 + 2, none⟩ = some (.int .i64 x.col)

theorem Row.below {w w' : World} {ao : Option Addr} {ws : List Wd} (h : Row w ao ws) (k : Below w.heap.size w w') : Row w' ao ws := by
  rcases h with h | ⟨b, h1, h2, h3⟩
  · exact Or.inl h
  · refine Or.inr ⟨b, h1, Nat.lt_of_lt_of_le h2 k.size, fun i x hx => ?_⟩
    rw [k.cell (p := ⟨b, i * 3, none⟩) h2, k.cell (p := ⟨b, i * 3 + 1, none⟩) h2, k.cell (p := ⟨b, i * 3 + 2, none⟩) h2]
    exact h3 i x hx

theorem Own.row {w : World} {base : Nat} {v : Value} {ws : List Wd} (h : Own w base v ws) : ∃ ao cap, v = .slice ao ws.length cap ∧ ws.length ≤ cap ∧ Row w ao ws := by
  have h' := h
  rcases h.2 with ⟨h1, h2⟩ | ⟨g, cap, cur, hv, _, _, hc, _⟩
  · exact ⟨none, 0, by rw [h1, h2], by omega, Or.inl (List.length_eq_zero_iff.1 h2)⟩
  · subst hv
    obtain ⟨hcell, _, hg, _⟩ := owns_cell h'
    refine ⟨_, _, rfl, hc, Or.inr ⟨g, rfl, hg, fun i x hx => ?_⟩⟩
    obtain ⟨e1, e2, e3⟩ := cellsW_at ws i x hx
    exact ⟨hcell _ _ e1, hcell _ _ e2, hcell _ _ e3⟩

set_option maxHeartbeats 1000000 in
theorem alike_same (a1 a2 : Option Addr) (c1 c2 : Nat) (ws : List Wd) (w : World) (hl : ws.length ≤ 5000) (h1 : Row w a1 ws) (h2 : Row w a2 ws) :
    Calls Try.prog 10 #[.slice a1 ws.length c1, .slice a2 ws.length c2] w fun e w' => e = .returned (.bool true) ∧ Below w.heap.size w w' := by
  have H : Hid (Row w a1 ws ∧ Row w a2 ws) := ⟨h1, h2⟩
  clear h1 h2
  obtain ⟨n, hn⟩ : ∃ n, ws.length = n := ⟨_, rfl⟩
  rw [hn] at hl ⊢
  have hnn : ((n : Int) != n) = false := by simp
  go_enter Try.func10, Try.ntmps10
  go_wp2
  go_loopw [5] (fun i wr => ∃ k : Nat, k ≤ n ∧ i = .int .i64 k ∧ Below w.heap.size w wr) (fun i _ => n - (intOf i).toNat)
  case atStart => exact ⟨0, Nat.zero_le _, rfl, Below.refl _ _⟩
  case round =>
    obtain ⟨k, hk, rfl, hB⟩ := hrel
    by_cases hlt : k < n
    · obtain ⟨x, hx⟩ : ∃ x, ws[k]? = some x := ⟨ws[k]'(by omega), List.getElem?_eq_getElem (by omega)⟩
      have hne : ws ≠ [] := fun e => by rw [e] at hx; simp at hx
      obtain ⟨b1, rfl, hb1, q1⟩ : ∃ b, a1 = some ⟨b, 0, none⟩ ∧ b < wr.heap.size ∧ _ := by
        rcases H.out.1.below hB with h | ⟨b, h1, h2, h3⟩
        · exact (hne h).elim
        · exact ⟨b, h1, h2, h3 k x hx⟩
      obtain ⟨b2, rfl, hb2, q2⟩ : ∃ b, a2 = some ⟨b, 0, none⟩ ∧ b < wr.heap.size ∧ _ := by
        rcases H.out.2.below hB with h | ⟨b, h1, h2, h3⟩
        · exact (hne h).elim
        · exact ⟨b, h1, h2, h3 k x hx⟩
      obtain ⟨p1, p2, p3⟩ := q1
      obtain ⟨r1, r2, r3⟩ := q2
      generalize (⟨x.text.toArray⟩ : ByteArray) = T at *
      generalize (x.line : Int) = L at *
      generalize (x.col : Int) = C at *
      clear hx hne x
      have d1 : (k : Int) < (n : Int) := by omega
      have d0 : (0 : Int) ≤ (k : Int) := by omega
      have t1 : (T.toList == T.toList) = true := by simp
      have t2 : (L == L) = true := by simp
      have t3 : (C == C) = true := by simp
      go_wp2_with fail
      go_quiet (fail)
      go_wp2
      go_roundw
      case rel => exact ⟨k + 1, by omega, by go_num, hB.trans ⟨rfl, rfl, rfl, Nat.le_refl _, fun _ _ => rfl⟩⟩
      case measure => simp [intOf]; omega
    · go_wp2
      go_ret
      exact ⟨rfl, hB⟩

end Go.Proofs.Ytnjhjjbdihbjbaa
