/-
  What policy.firstRow, policy.texts and policy.opens come to: the words of the first line, their texts, and whether a line begins with a word and has so many.
-/
import Derived.Test.YtmhjoomkeidcaaaDoorNums
import Derived.Test.YtmhjoomkeidcaaaDoorL3Words
namespace Go.Proofs.YtmhjoomkeidcaaaDoor
open Go.RowKit
open L3 (Wd cellsW)

/-- How many words from here on stand in a line. -/
def runLen (L : Nat) : List Wd → Nat
  | [] => 0
  | x :: t => if x.line = L then 1 + runLen L t else 0
/-- How many words the first line has. -/
def rowLen : List Wd → Nat
  | [] => 0
  | x :: t => 1 + runLen x.line t
theorem runLen_le (L : Nat) : ∀ t : List Wd, runLen L t ≤ t.length
  | [] => Nat.le_refl _
  | x :: t => by
    simp only [runLen]
    split
    · have := runLen_le L t; simp; omega
    · omega
theorem rowLen_le (ws : List Wd) : rowLen ws ≤ ws.length := by
  cases ws with
  | nil => exact Nat.le_refl _
  | cons x t => have := runLen_le x.line t; simp [rowLen]; omega

theorem Lies.word {w : World} {ad : Option Addr} {ws : List Wd} (h : Lies w ad (cellsW ws)) {i : Nat} {x : Wd} (hx : ws[i]? = some x) :
    ∃ b off, ad = some ⟨b, off, none⟩ ∧ b < w.heap.size ∧ w.cell? ⟨b, off + i * 3, none⟩ = some (.string ⟨x.text.toArray⟩) ∧ w.cell? ⟨b, off + i * 3 + 1, none⟩ = some (.int .i64 (x.line : Nat)) ∧ w.cell? ⟨b, off + i * 3 + 2, none⟩ = some (.int .i64 (x.col : Nat)) := by
  obtain ⟨e1, e2, e3⟩ := L3.cellsW_at ws i x hx
  rcases h with h | ⟨b, off, h1, h2, h3⟩
  · rw [h] at e1; simp at e1
  · refine ⟨b, off, h1, h2, h3 _ _ e1, ?_, ?_⟩
    all_goals rw [Nat.add_assoc]
    · exact h3 _ _ e2
    · exact h3 _ _ e3

def wd (ws : List Wd) (i : Nat) : Wd := ws.getD i ⟨[], 0, 0⟩
theorem wd_at {ws : List Wd} {i : Nat} (h : i < ws.length) : ws[i]? = some (wd ws i) := by simp [wd, h]

set_option maxHeartbeats 2000000 in
set_option maxRecDepth 100000 in
theorem firstRow_any (ad : Option Addr) (n cap : Nat) (ws : List Wd) (w : World) (hl : ws.length = n) (h1 : 1 ≤ n) (hn : n ≤ 5000) (hc : n ≤ cap) (hrow : Lies w ad (cellsW ws)) :
    Calls Tryd.prog 32 #[.slice ad n cap] w fun e w' => e = .returned (.slice ad (rowLen ws) cap) ∧ Below w.heap.size w w' := by
  obtain ⟨b, off, rfl, hb, z0, z1, z2⟩ := hrow.word (wd_at (i := 0) (by omega))
  have HR : Hid (Lies w (some ⟨b, off, none⟩) (cellsW ws)) := hrow
  have HL : Hid (1 + runLen (wd ws 0).line (ws.drop 1) = rowLen ws) := by
    have := drop_at (wd_at (ws := ws) (i := 0) (by omega))
    rw [List.drop_zero] at this
    conv => rhs; rw [this]
    exact rfl
  clear hrow z0 z2
  obtain ⟨L, hL⟩ : ∃ L, (wd ws 0).line = L := ⟨_, rfl⟩
  rw [hL] at z1 HL
  have z1 : w.cell? ⟨b, off + 1, none⟩ = some (.int .i64 (L : Nat)) := by simpa using z1
  clear hL
  go_enter Tryd.func32, Tryd.ntmps32
  go_wp2
  go_loopw [3] (fun i wr => ∃ k : Nat, 1 ≤ k ∧ k ≤ n ∧ i = .int .i64 k ∧ k + runLen L (ws.drop k) = rowLen ws ∧ Below w.heap.size w wr) (fun i _ => n - (intOf i).toNat)
  case atStart => exact ⟨1, Nat.le_refl _, h1, rfl, HL.out, Below.refl _ _⟩
  case round =>
    clear HL
    obtain ⟨k, hk1, hk, rfl, hrl, hnx⟩ := hrel
    have HRL : Hid (k + runLen L (ws.drop k) = rowLen ws) := hrl
    clear hrl
    have hz := hnx.size
    have q1 : wr.cell? ⟨b, off + 1, none⟩ = some (.int .i64 (L : Nat)) := by rw [hnx.cell (p := ⟨b, off + 1, none⟩) hb]; exact z1
    have g0 : (0 : Int) < (n : Int) := by omega
    by_cases hlt : k < n
    · obtain ⟨b2, off2, he, _, _, q2, _⟩ := (HR.out.below hnx).word (wd_at (i := k) (by omega))
      injection he with he
      injection he with e1 e2
      subst e1 e2
      have hd := drop_at (wd_at (ws := ws) (i := k) (by omega))
      have HD : Hid (ws.drop k = wd ws k :: ws.drop (k + 1)) := hd
      clear hd
      generalize wd ws k = x at *
      have hkd : decide ((k : Int) < (n : Int)) = true := decide_eq_true (by omega)
      have hk0 : (0 : Int) ≤ (k : Int) := by omega
      have hk2 : (k : Int) < (n : Int) := by omega
      by_cases hx : x.line = L
      · have HX : Hid (x.line = L) := hx
        rw [hx] at q2
        clear hx
        have hbe : ((L : Int) == (L : Int)) = true := by simp
        generalize (L : Int) = LI at *
        go_wp2_with fail
        go_quiet (fail)
        go_wp2
        go_roundw
        case rel => exact ⟨k + 1, by omega, by omega, by go_num, by rw [← HRL.out, HD.out, runLen, if_pos HX.out]; omega, hnx.trans ⟨rfl, rfl, rfl, Nat.le_refl _, fun _ _ => rfl⟩⟩
        case measure => simp [intOf]; omega
      · have HX : Hid (¬ x.line = L) := hx
        have hbe : ((x.line : Int) == (L : Int)) = false := by simp; omega
        clear hx
        generalize (L : Int) = LI at *
        generalize (x.line : Int) = XI at *
        have HE : Hid (rowLen ws = k) := by rw [← HRL.out, HD.out, runLen, if_neg HX.out]; exact rfl
        have hkc : (k : Int) ≤ (cap : Int) := by omega
        go_wp2_with fail
        go_quiet (fail)
        go_wp2
        go_ret
        exact ⟨by rw [HE.out]; rfl, hnx.trans ⟨rfl, rfl, rfl, Nat.le_refl _, fun _ _ => rfl⟩⟩
    · have hkd : decide ((k : Int) < (n : Int)) = false := decide_eq_false (by omega)
      have HE : Hid (rowLen ws = k) := by rw [← HRL.out, List.drop_of_length_le (by omega)]; exact rfl
      have hkc : (k : Int) ≤ (cap : Int) := by omega
      have hkk : ¬ (k : Int) < (n : Int) := by omega
      go_wp2_with fail
      go_quiet (fail)
      go_wp2
      go_ret
      exact ⟨by rw [HE.out]; rfl, hnx.trans ⟨rfl, rfl, rfl, Nat.le_refl _, fun _ _ => rfl⟩⟩

end Go.Proofs.YtmhjoomkeidcaaaDoor
