/-
  What sign.Print comes to: the text of a label that may be, and nothing of another.
-/
import Derived.Test.YtmhjoomkeidcaaaDoorL2Base
namespace Go.Proofs.YtmhjoomkeidcaaaDoor.L2
open Go.RowKit

theorem digit_of (l : Nat) (h : l ≤ 7) : Lib.decDigits l = [(48 + l).toUInt8] := Lib.decDigits_one (by omega)

set_option maxHeartbeats 400000 in
theorem print_no (l c : Int) (h : goodB l c = false) (w : World) :
    Calls Tryd.prog 37 #[.agg #[.int .i64 l, .int .i64 c]] w fun e w' => e = .returned (.tuple #[.string ⟨#[]⟩, .int .i64 3]) ∧ Below w.heap.size w w' := by
  go_enter Tryd.func37, Tryd.ntmps37
  go_wp2_with fail
  refine (good_any _ _ _).mono ?_
  rintro e w1 ⟨rfl, hB⟩
  go_wp2
  go_ret2
  exact ⟨rfl, (below1 _ _).trans (hB.mono (by simp))⟩

/-- The last bit of a number. -/
theorem i64_and1 (n : Int) : bits .and .i64 n 1 = n % 2 := by
  have h1 : (BitVec.ofInt 64 1).toNat = 2 ^ 1 - 1 := by decide
  have key : (BitVec.ofInt 64 n &&& BitVec.ofInt 64 1).toNat = (n % ((2 ^ 64 : Nat) : Int)).toNat % 2 ^ 1 := by
    rw [BitVec.toNat_and, BitVec.toNat_ofInt, h1, Nat.and_two_pow_sub_one_eq_mod]
  show IntKind.i64.wrap ((BitVec.ofInt 64 n &&& BitVec.ofInt 64 1).toNat : Nat) = n % 2
  rw [key, IntKind.wrap_i64]
  omega

theorem bit_sign (c n : Nat) : (bits BinOp.and IntKind.i64 ((c : Int) / 2 ^ n) 1 == 1) = c.testBit n := by
  have e : ((c : Int) / 2 ^ n) = ((c / 2 ^ n : Nat) : Int) := by rw [Int.natCast_ediv]; simp
  rw [i64_and1, e, Nat.testBit_eq_decide_div_mod_eq, Bool.eq_iff_iff]
  simp
  omega

theorem kept_old {w1 a : World} (h : Below w1.heap.size w1 a) {b : Nat} (hb : b < w1.heap.size) (o : Nat) {v : Value} (hv : w1.cell? ⟨b, o, none⟩ = some v) : a.cell? ⟨b, o, none⟩ = some v := by
  rw [h.cell (p := ⟨b, o, none⟩) hb, hv]

set_option maxHeartbeats 1000000 in
theorem print_yes (l c : Nat) (hl : l ≤ 7) (hc : c < 65536) (w : World) :
    Calls Tryd.prog 37 #[.agg #[.int .i64 l, .int .i64 c]] w fun e w' => e = .returned (.tuple #[.string (textB l c), .int .i64 0]) ∧ Below w.heap.size w w' := by
  have hg : goodB l c = true := decide_eq_true (by omega)
  obtain ⟨d, hd⟩ : ∃ d, d = (48 + l).toUInt8 := ⟨_, rfl⟩
  have hT : Hid (textB l c = ⟨(d :: 123 :: (signsFrom c 16 0 ++ [125])).toArray⟩) := by rw [hd]; exact rfl
  have hD : Lib.decDigits l = [d] := by rw [hd]; exact digit_of l hl
  clear hd
  go_enter Tryd.func37, Tryd.ntmps37
  go_wp2_with fail
  refine (good_any _ _ _).mono ?_
  rintro e w1 ⟨rfl, hB⟩
  obtain ⟨hc1, hf1⟩ := bcell hB
  have hz : w.heap.size < w1.heap.size := by have := hB.size; simp at this; omega
  have k0 : w1.cell? ⟨w.heap.size, 0, none⟩ = some (.int .i64 l) := by rw [hc1 _ _ (by simp)]; simp [go_sem]
  have k1 : w1.cell? ⟨w.heap.size, 1, none⟩ = some (.int .i64 c) := by rw [hc1 _ _ (by simp)]; simp [go_sem]
  have g0 : ∀ o, (w1.alloc o).cell? ⟨w.heap.size, 0, none⟩ = some (.int .i64 l) := fun o => kept_old (below1 w1 o) hz 0 k0
  clear hc1 hf1
  go_wp2_with fail
  refine (itoaSmall l (by omega) _).mono ?_
  rintro e w' ⟨rfl, rfl⟩
  rw [hD]
  go_wp2_with fail
  refine (writeString w1.heap.size w1.heap.size [] _ _ (Lib.IsBuilderF.of (Lib.fresh_isBuilder 78 5 w1)) (show 0 + 1 ≤ _ by omega) (by simp)).mono ?_
  rintro e w2 ⟨rfl, h2, b2, _⟩
  go_wp2_with fail
  refine (writeByte w1.heap.size w1.heap.size _ _ _ (Or.inr h2) (show 1 + 1 ≤ _ by omega) (by have := b2.size; simp at this; omega)).mono ?_
  rintro e w3 ⟨rfl, h3, b3, _⟩
  have b13 : Below w1.heap.size w1 w3 := (below1 _ _).trans (b2.trans b3)
  have h3' : Lib.IsBuilderF 78 5 w1.heap.size w1.heap.size (Lib.byteCells [d, 123]) w3 := by
    rw [show Lib.byteCells [d, 123] = [] ++ Lib.strCells ⟨[d].toArray⟩ ++ [.int .u8 123] from rfl]
    exact Or.inr h3
  clear h2 b2 h3 b3 g0
  go_wp2_with fail
  go_loopw [14] (fun i wr => ∃ (n : Nat) (acc : List UInt8), n ≤ 16 ∧ i = .int .i64 n ∧ Lib.IsBuilderF 78 5 w1.heap.size w1.heap.size (Lib.byteCells acc) wr ∧ Below w1.heap.size w1 wr ∧ acc ++ signsFrom c (16 - n) n = d :: 123 :: signsFrom c 16 0 ∧ acc.length ≤ 2 + 2 * n)
    (fun i _ => 16 - (intOf i).toNat)
  case atStart => exact ⟨0, _, by omega, rfl, h3', b13, rfl, by simp⟩
  case round =>
    obtain ⟨n, acc, hn, rfl, hI, hbw, hacc, hal⟩ := hrel
    have q1 : wr.cell? ⟨w.heap.size, 1, none⟩ = some (.int .i64 c) := kept_old hbw hz 1 k1
    have hsz := hbw.size
    by_cases hlt : n < 16
    · cases hb : c.testBit n
      · have ht : (bits BinOp.and IntKind.i64 ((c : Int) / 2 ^ n) 1 == 1) = false := by rw [bit_sign c n, hb]
        go_wp2_with fail
        go_roundw
        case rel =>
          refine ⟨n + 1, acc, by omega, by go_num, hI, hbw, ?_, by omega⟩
          rw [← hacc, show 16 - n = (16 - (n + 1)) + 1 by omega]
          simp [signsFrom, hb]
        case measure => simp [intOf]; omega
      · have ht : (bits BinOp.and IntKind.i64 ((c : Int) / 2 ^ n) 1 == 1) = true := by rw [bit_sign c n, hb]
        go_wp2_with fail
        refine (writeRune w1.heap.size w1.heap.size _ _ (by omega) (by omega) _ hI (by rw [Lib.byteCells_length]; omega) hsz).mono ?_
        rintro e w4 ⟨rfl, h4, b4, _⟩
        go_wp2_with fail
        go_roundw
        case rel =>
          refine ⟨n + 1, acc ++ signOf n, by omega, by go_num, ?_, hbw.trans b4, ?_, by simp [signOf]; omega⟩
          · rw [Lib.byteCells_append, ← encode_sign n hlt, Lib.byteCells_encodeRune]; exact Or.inr h4
          · rw [← hacc, show 16 - n = (16 - (n + 1)) + 1 by omega]
            simp [signsFrom, hb]
        case measure => simp [intOf]; omega
    · have e16 : n = 16 := by omega
      subst e16
      go_wp2_with fail
      refine (writeByte w1.heap.size w1.heap.size _ _ _ hI (by rw [Lib.byteCells_length]; omega) hsz).mono ?_
      rintro e w4 ⟨rfl, h4, b4, _⟩
      have h4' : Lib.IsBuilderF 78 5 w1.heap.size w1.heap.size (Lib.byteCells (acc ++ [125])) w4 := by
        rw [Lib.byteCells_append]; exact Or.inr h4
      go_wp2_with fail
      refine (builderString w1.heap.size w1.heap.size _ _ h4' (by have := b4.size; omega)).mono ?_
      rintro e w5 ⟨rfl, _, b5, _⟩
      go_wp2
      go_ret2
      have ea : acc = d :: 123 :: signsFrom c 16 0 := by simpa [signsFrom] using hacc
      rw [hT.out, ea]
      exact ⟨rfl, (below1 _ _).trans ((hB.trans ((hbw.trans (b4.trans b5)).mono hB.size)).mono (by simp))⟩

end Go.Proofs.YtmhjoomkeidcaaaDoor.L2
