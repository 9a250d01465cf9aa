/-
  Lists of numbers that are handed in, as they lie in memory; and timers that are set one by one.
-/
import Derived.Test.YtnciefdhgokffaaAwake
import Derived.Test.YtnciefdhgokffaaOpen
import Derived.Deep.Slices
import Derived.ChangeSlices
namespace Go.Proofs.Ytnciefdhgokffaa
open Go.ChangeShapes Go.WideShapes Go.ChangeAt Go.RowKit Go.Joins Go.Deep

theorem cells3 : Try.prog.cellsOf 3 = 1 := by kernel_rfl
theorem cells5 : Try.prog.cellsOf 5 = 1 := by kernel_rfl
theorem cells46 : Try.prog.cellsOf 46 = 1 := by kernel_rfl

/-- A list of numbers as it lies in memory. -/
def NumsAt (k : IntKind) (M : Nat) (w : World) (ad : Option Addr) (len : Nat) (X : Nat → Nat) : Prop :=
  ∀ i, i < len → ∃ b off, ad = some ⟨b, off, none⟩ ∧ b < w.heap.size ∧ w.cell? ⟨b, off + i, none⟩ = some (.int k ((X i : Nat) : Int)) ∧ X i ≤ M
theorem NumsAt.at {k : IntKind} {M : Nat} {w w' : World} {ad : Option Addr} {len : Nat} {X : Nat → Nat} (h : NumsAt k M w ad len X) {i : Nat} (hi : i < len) (hb : Below w.heap.size w w') :
    ∃ b off, ad = some ⟨b, off, none⟩ ∧ w'.cell? ⟨b, off + i, none⟩ = some (.int k ((X i : Nat) : Int)) ∧ X i ≤ M := by
  obtain ⟨b, off, h1, h2, h3, h4⟩ := h i hi
  exact ⟨b, off, h1, (hb.cell (p := ⟨b, off + i, none⟩) h2).trans h3, h4⟩

theorem wf_u8 {n : Int} (h : (Lit.int .u8 n).wf = true) : 0 ≤ n ∧ n ≤ 255 := bounds_u8 h
theorem wf_u16 {n : Int} (h : (Lit.int .u16 n).wf = true) : 0 ≤ n ∧ n ≤ 65535 := bounds_u16 h

theorem bytes_open {H : Type} {enc : TypeId × Value → H} {W : World} {a0 : Option Addr} {len cap fuel : Nat} {sp : Nat → Bool} {y : DataW H × List MemPlace}
    (hf : DataW.trod enc Try.prog W 0 sp true fuel 45 [.slice a0 len cap] = some y) : len ≤ cap ∧ cap ≤ maxLen ∧ ∃ X, NumsAt .u8 255 W a0 len X := by
  rcases open_ints Try.underlying45 Try.underlying5 cells5 hf with ⟨hcs, _⟩ | ⟨a, l, c, zs, hcs, _, hl, hm, hz, _, hcell, hw⟩
  · simp at hcs
    obtain ⟨rfl, rfl, rfl⟩ := hcs
    exact ⟨Nat.le_refl _, by unfold maxLen; omega, fun _ => 0, fun i hi => by omega⟩
  · simp at hcs
    obtain ⟨rfl, rfl, rfl⟩ := hcs
    have hlz : len ≤ zs.length := by rw [hz]; split <;> omega
    refine ⟨hl, hm, fun i => (zs.getD i 0).toNat, fun i hi => ?_⟩
    obtain ⟨b, off, spot⟩ := a
    have c0 := hcell i (by omega)
    have k0 := hcell 0 (by omega)
    have hspot : spot = none := by simpa [Addr.add] using World.cell?_spot k0
    subst hspot
    rw [add_plain] at c0
    have hwf := hw (zs.getD i 0) (by
      have : i < zs.length := by omega
      simp [List.getD, this])
    have hb := wf_u8 hwf
    refine ⟨b, off, rfl, World.block_lt_of_cell? _ _ c0, ?_, by simp only; omega⟩
    rw [c0, Int.toNat_of_nonneg hb.1]
theorem words_open {H : Type} {enc : TypeId × Value → H} {W : World} {a0 : Option Addr} {len cap fuel : Nat} {sp : Nat → Bool} {y : DataW H × List MemPlace}
    (hf : DataW.trod enc Try.prog W 0 sp true fuel 44 [.slice a0 len cap] = some y) : len ≤ cap ∧ cap ≤ maxLen ∧ ∃ X, NumsAt .u16 65535 W a0 len X := by
  rcases open_ints Try.underlying44 Try.underlying46 cells46 hf with ⟨hcs, _⟩ | ⟨a, l, c, zs, hcs, _, hl, hm, hz, _, hcell, hw⟩
  · simp at hcs
    obtain ⟨rfl, rfl, rfl⟩ := hcs
    exact ⟨Nat.le_refl _, by unfold maxLen; omega, fun _ => 0, fun i hi => by omega⟩
  · simp at hcs
    obtain ⟨rfl, rfl, rfl⟩ := hcs
    have hlz : len ≤ zs.length := by rw [hz]; split <;> omega
    refine ⟨hl, hm, fun i => (zs.getD i 0).toNat, fun i hi => ?_⟩
    obtain ⟨b, off, spot⟩ := a
    have c0 := hcell i (by omega)
    have k0 := hcell 0 (by omega)
    have hspot : spot = none := by simpa [Addr.add] using World.cell?_spot k0
    subst hspot
    rw [add_plain] at c0
    have hwf := hw (zs.getD i 0) (by
      have : i < zs.length := by omega
      simp [List.getD, this])
    have hb := wf_u16 hwf
    refine ⟨b, off, rfl, World.block_lt_of_cell? _ _ c0, ?_, by simp only; omega⟩
    rw [c0, Int.toNat_of_nonneg hb.1]

/-- Timers that are set one by one. -/
def seto (X : Nat → Nat) : Nat → Ws
  | 0 => newOf 16
  | k + 1 => setOf (seto X k) (k : Int) ((X k : Nat) : Int)
theorem holdN_nat {n : Nat} (h : n ≤ 1000) : holdN (n : Int) = n := by
  have : hold (n : Int) = n := hold_id (by omega) (by omega)
  unfold holdN; rw [this]; omega
theorem seto_is (X : Nat → Nat) (hX : ∀ i, X i ≤ 1000) : ∀ k, k ≤ 16 → (seto X k).n = 16 ∧ (seto X k).s = k ∧ (∀ i, (seto X k).f i = if i < k then ⟨X i, i + 1⟩ else ⟨0, 0⟩) ∧ (k < 16 → setB (seto X k) (k : Int) = true)
  | 0, _ => ⟨rfl, rfl, fun i => by simp [seto, newOf], fun _ => rfl⟩
  | k + 1, h => by
    obtain ⟨h1, h2, h3, _⟩ := seto_is X hX k (by omega)
    have hh : hasT (seto X k) (k : Int) := ⟨by omega, by rw [h1]; omega⟩
    have e : seto X (k + 1) = ⟨(seto X k).n, (seto X k).s + 1, upd (seto X k).f (k : Int).toNat ⟨holdN ((X k : Nat) : Int), (seto X k).s + 1⟩⟩ := if_pos hh
    rw [h1, h2, Int.toNat_natCast, holdN_nat (hX k)] at e
    refine ⟨by rw [e], by rw [e], fun i => ?_, fun hk => decide_eq_true ⟨by omega, by rw [e]; show ((k + 1 : Nat) : Int) < 16; omega⟩⟩
    rw [e]
    show upd (seto X k).f k ⟨X k, k + 1⟩ i = _
    by_cases c : i = k
    · subst c; rw [upd_same, if_pos (by omega)]
    · rw [upd_other _ _ c, h3 i]
      by_cases d : i < k
      · rw [if_pos d, if_pos (by omega)]
      · rw [if_neg d, if_neg (by omega)]
theorem seto_ok (X : Nat → Nat) : ∀ k, Ok k (seto X k)
  | 0 => newOf_ok (by omega)
  | k + 1 => setOf_ok (seto_ok X k) _ _

end Go.Proofs.Ytnciefdhgokffaa
