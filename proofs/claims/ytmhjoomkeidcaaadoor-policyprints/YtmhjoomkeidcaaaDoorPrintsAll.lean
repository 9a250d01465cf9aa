/-
  Called with any policy, the law PolicyPrints returns true and leaves its argument as it was; the library's listed tables hold what the program's text lays when the call begins.
-/
import Derived.Test.YtmhjoomkeidcaaaDoorPText
import Derived.Deep.RegionHeld3
import Derived.Deep.RegionWith
import Derived.Test.YtmhjoomkeidcaaaDoorRefCheck
import Derived.Test.YtmhjoomkeidcaaaDoorPrint
import Derived.Test.YtmhjoomkeidcaaaDoorL2RefPrint
import Derived.Lib.QuietBelow
import Derived.BigQuiet
import Derived.Test.YtmhjoomkeidcaaaDoorAwake
import Derived.Test.YtmhjoomkeidcaaaDoorOpen
/- What the reference's Num comes to below a hundred: the number as a text. -/
namespace Go.Proofs.YtmhjoomkeidcaaaDoor
open Go.RowKit L2

theorem conv1 (W : World) (g : Nat) (hg : g = W.heap.size) (a : UInt8) (z : Int) (hz : z = a.toNat) :
    (convert 76 9 (.slice (some ⟨g, 0, none⟩) 1 1)).run Tryd.prog (W.alloc (.cells #[.int .u8 z] 5))
      = .ok (.string ⟨#[a]⟩) (W.alloc (.cells #[.int .u8 z] 5)) := by
  subst hg hz
  have hh := alloc_at W (.cells #[.int .u8 a.toNat] 5)
  refine run_convert_bytes_back _ 76 9 5 ⟨W.heap.size, 0, none⟩ 1 [a] Tryd.underlying76 Tryd.underlying5 Tryd.underlying9 ?_
  intro j hj
  rw [show (Addr.add ⟨W.heap.size, 0, none⟩ j) = ⟨W.heap.size, j, none⟩ by simp [Addr.add]; exact fun h => h.symm]
  rw [Lib.cell_of_heap hh]
  match j, hj with
  | 0, _ => rfl

theorem dec_small {n : Nat} (h : n < 10) : decB n = ⟨#[UInt8.ofNat (48 + n)]⟩ := by
  unfold decB; rw [Lib.decDigits, dif_pos h]
theorem dec_two {n : Nat} (h : ¬ n < 10) : decB n = decB (n / 10) ++ ⟨#[UInt8.ofNat (48 + n % 10)]⟩ := by
  unfold decB; rw [Lib.decDigits, dif_neg h]
  exact (bytes_append _ _).symm

set_option maxHeartbeats 1000000 in
theorem num_small (n : Nat) (h : n < 10) (w : World) :
    Calls Tryd.prog 43 #[.int .i64 (n : Int)] w fun e w' => e = .returned (.string (decB n)) ∧ Below w.heap.size w w' := by
  rw [dec_small h]
  have hb : ∃ a : UInt8, UInt8.ofNat (48 + n) = a ∧ IntKind.u8.wrap (48 + (n : Int)) = a.toNat ∧ IntKind.i64.wrap (48 + (n : Int)) = 48 + n ∧ ((48 + (n : Int)) = a.toNat) := by
    refine ⟨_, rfl, ?_, ?_, ?_⟩
    · have : n = 0 ∨ n = 1 ∨ n = 2 ∨ n = 3 ∨ n = 4 ∨ n = 5 ∨ n = 6 ∨ n = 7 ∨ n = 8 ∨ n = 9 := by omega
      rcases this with rfl | rfl | rfl | rfl | rfl | rfl | rfl | rfl | rfl | rfl <;> rfl
    · have : n = 0 ∨ n = 1 ∨ n = 2 ∨ n = 3 ∨ n = 4 ∨ n = 5 ∨ n = 6 ∨ n = 7 ∨ n = 8 ∨ n = 9 := by omega
      rcases this with rfl | rfl | rfl | rfl | rfl | rfl | rfl | rfl | rfl | rfl <;> rfl
    · have : n = 0 ∨ n = 1 ∨ n = 2 ∨ n = 3 ∨ n = 4 ∨ n = 5 ∨ n = 6 ∨ n = 7 ∨ n = 8 ∨ n = 9 := by omega
      rcases this with rfl | rfl | rfl | rfl | rfl | rfl | rfl | rfl | rfl | rfl <;> rfl
  have : n = 0 ∨ n = 1 ∨ n = 2 ∨ n = 3 ∨ n = 4 ∨ n = 5 ∨ n = 6 ∨ n = 7 ∨ n = 8 ∨ n = 9 := by omega
  clear hb
  rcases this with rfl | rfl | rfl | rfl | rfl | rfl | rfl | rfl | rfl | rfl
  · have k1 := fun W => conv1 W W.heap.size rfl 48 48 rfl
    go_enter Tryd.func43, Tryd.ntmps43
    go_wp2
    go_ret
    exact ⟨rfl, below1 _ _⟩
  · have k1 := fun W => conv1 W W.heap.size rfl 49 49 rfl
    go_enter Tryd.func43, Tryd.ntmps43
    go_wp2
    go_ret
    exact ⟨rfl, below1 _ _⟩
  · have k1 := fun W => conv1 W W.heap.size rfl 50 50 rfl
    go_enter Tryd.func43, Tryd.ntmps43
    go_wp2
    go_ret
    exact ⟨rfl, below1 _ _⟩
  · have k1 := fun W => conv1 W W.heap.size rfl 51 51 rfl
    go_enter Tryd.func43, Tryd.ntmps43
    go_wp2
    go_ret
    exact ⟨rfl, below1 _ _⟩
  · have k1 := fun W => conv1 W W.heap.size rfl 52 52 rfl
    go_enter Tryd.func43, Tryd.ntmps43
    go_wp2
    go_ret
    exact ⟨rfl, below1 _ _⟩
  · have k1 := fun W => conv1 W W.heap.size rfl 53 53 rfl
    go_enter Tryd.func43, Tryd.ntmps43
    go_wp2
    go_ret
    exact ⟨rfl, below1 _ _⟩
  · have k1 := fun W => conv1 W W.heap.size rfl 54 54 rfl
    go_enter Tryd.func43, Tryd.ntmps43
    go_wp2
    go_ret
    exact ⟨rfl, below1 _ _⟩
  · have k1 := fun W => conv1 W W.heap.size rfl 55 55 rfl
    go_enter Tryd.func43, Tryd.ntmps43
    go_wp2
    go_ret
    exact ⟨rfl, below1 _ _⟩
  · have k1 := fun W => conv1 W W.heap.size rfl 56 56 rfl
    go_enter Tryd.func43, Tryd.ntmps43
    go_wp2
    go_ret
    exact ⟨rfl, below1 _ _⟩
  · have k1 := fun W => conv1 W W.heap.size rfl 57 57 rfl
    go_enter Tryd.func43, Tryd.ntmps43
    go_wp2
    go_ret
    exact ⟨rfl, below1 _ _⟩

theorem conv1_at {W : World} {g : Nat} {a : UInt8} {z : Int} (hh : W.heap[g]? = some (.cells #[.int .u8 z] 5 (0, 0))) (hz : z = a.toNat) :
    (convert 76 9 (.slice (some ⟨g, 0, none⟩) 1 1)).run Tryd.prog W = .ok (.string ⟨#[a]⟩) W := by
  subst hz
  refine run_convert_bytes_back _ 76 9 5 ⟨g, 0, none⟩ 1 [a] Tryd.underlying76 Tryd.underlying5 Tryd.underlying9 ?_
  intro j hj
  rw [show (Addr.add ⟨g, 0, none⟩ j) = ⟨g, j, none⟩ by simp [Addr.add]; exact fun h => h.symm]
  rw [Lib.cell_of_heap hh]
  match j, hj with
  | 0, _ => rfl
theorem digit (r : Nat) (h : r < 10) : IntKind.u8.wrap (48 + (r : Int)) = 48 + (r : Int) ∧ IntKind.i64.wrap (48 + (r : Int)) = 48 + r ∧ ((48 + (r : Int)) = (UInt8.ofNat (48 + r)).toNat) := by
  have : r = 0 ∨ r = 1 ∨ r = 2 ∨ r = 3 ∨ r = 4 ∨ r = 5 ∨ r = 6 ∨ r = 7 ∨ r = 8 ∨ r = 9 := by omega
  rcases this with rfl | rfl | rfl | rfl | rfl | rfl | rfl | rfl | rfl | rfl <;> exact ⟨rfl, rfl, rfl⟩

theorem wrapS {n : Int} (h : -1000 ≤ n ∧ n ≤ 1000) : IntKind.i64.wrap n = n := by rw [IntKind.wrap_i64]; omega
theorem wrap64_small {n : Int} (h : -1000 ≤ n ∧ n ≤ 1000) : wrap64 n = n := by unfold wrap64; omega
theorem dec_size {n : Nat} (h : n < 100) : (decB n).size ≤ 2 := by
  have := dec_len h
  show (Lib.decDigits n).toArray.size ≤ 2
  rw [List.size_toArray]; exact this

set_option maxHeartbeats 2000000 in
set_option maxRecDepth 20000 in
theorem num_two (n : Nat) (h : ¬ n < 10) (h2 : n < 100) (w : World) :
    Calls Tryd.prog 43 #[.int .i64 (n : Int)] w fun e w' => e = .returned (.string (decB n)) ∧ Below w.heap.size w w' := by
  rw [dec_two h]
  have e1 : (n : Int).tdiv 10 = ((n / 10 : Nat) : Int) := by rw [Int.tdiv_eq_ediv_of_nonneg (by omega)]; omega
  have e2 : (n : Int).tmod 10 = ((n % 10 : Nat) : Int) := by rw [Int.tmod_eq_emod_of_nonneg (by omega)]; omega
  have hN := fun W => num_small (n / 10) (by omega) W
  have hq : n / 10 < 10 := by omega
  have hr : n % 10 < 10 := by omega
  have hlt : decide ((n : Int) < 10) = false := decide_eq_false (by omega)
  generalize n / 10 = q at *
  generalize n % 10 = r at *
  obtain ⟨z, hz⟩ : ∃ z : Int, 48 + (r : Int) = z := ⟨_, rfl⟩
  obtain ⟨g1, g2, g3⟩ := digit r hr
  rw [hz] at g1 g3
  have g4 : IntKind.i64.wrap (48 + (r : Int)) = z := by rw [g2, hz]
  have g5 : wrap64 (48 + (r : Int)) = z := by rw [← hz]; exact wrap64_small (by omega)
  have v1 : IntKind.i64.wrap (q : Int) = q := wrapS (by omega)
  have v2 : IntKind.i64.wrap (r : Int) = r := wrapS (by omega)
  have v3 : wrap64 (q : Int) = q := wrap64_small (by omega)
  have v4 : wrap64 (r : Int) = r := wrap64_small (by omega)
  clear g2 hz
  have hQ : (decB q).size ≤ 2 := dec_size (Nat.lt_of_lt_of_le hq (by decide))
  generalize decB q = Q at *
  generalize UInt8.ofNat (48 + r) = a at *
  have G3 : Hid (z = a.toNat) := g3
  clear g3
  have hadd : ∀ W, (Op.stringOp .add Q ⟨#[a]⟩).run Tryd.prog W = .ok (.string (Q ++ ⟨#[a]⟩)) W := fun W => run_string_add_sum W _ _ (by
    have : (⟨#[a]⟩ : ByteArray).size = 1 := rfl
    omega)
  generalize Q ++ (⟨#[a]⟩ : ByteArray) = S at *
  have k1 := fun W => conv1 W W.heap.size rfl a z G3.out
  have k2 := fun W : World => conv1_at (W := (W.alloc (.cells #[.int .u8 z] 5)).drew) (g := W.heap.size) (a := a) (alloc_at _ _) G3.out
  go_enter Tryd.func43, Tryd.ntmps43
  go_wp2_with fail
  go_region_with (first | (go_at_call 43; refine (hN _).mono ?_; rintro e w1 ⟨rfl, hb⟩; have hz := hb.size; (try simp at hz); (try (have hcv := conv1_at (W := w1) (g := w.heap.size) (a := a) (z := z) ((hb.block w.heap.size (by simp)).trans (alloc_at _ _)) G3.out))))
  · go_wp2
    go_ret
    exact ⟨rfl, (show Below w.heap.size w w1 from ⟨hb.os, hb.tape, hb.output, hb.size, hb.block⟩).alloc hz _⟩
  · go_wp2
    go_ret
    exact ⟨rfl, Below.trans (below1 _ _).drew (hb.mono (by simp))⟩
  · go_wp2
    go_ret
    exact ⟨rfl, Below.trans (below1 _ _).drew (hb.mono (by simp))⟩

theorem num_any (n : Nat) (h : n < 100) (w : World) :
    Calls Tryd.prog 43 #[.int .i64 (n : Int)] w fun e w' => e = .returned (.string (decB n)) ∧ Below w.heap.size w w' := by
  by_cases h1 : n < 10
  · exact num_small n h1 w
  · exact num_two n h1 h w

end Go.Proofs.YtmhjoomkeidcaaaDoor
/- The reference's lines of a policy's text, laid together from left to right. -/
namespace Go.Proofs.YtmhjoomkeidcaaaDoor
open Go.RowKit L2

/-- Two texts laid together, in whatever world. -/
def Adds (a b c : ByteArray) : Prop := ∀ W : World, (Op.stringOp .add a b).run Tryd.prog W = .ok (.string c) W
theorem add_ok (a b : ByteArray) (h : a.data.toList.length ≤ 100000) (h' : b.data.toList.length ≤ 100000) :
    ∃ c : ByteArray, Adds a b c ∧ c.data.toList = a.data.toList ++ b.data.toList ∧ c.data.toList.length = a.data.toList.length + b.data.toList.length := by
  refine ⟨a ++ b, fun W => run_string_add_sum W _ _ ?_, ?_, ?_⟩
  · have e1 : a.size = a.data.toList.length := by rw [Array.length_toList]; rfl
    have e2 : b.size = b.data.toList.length := by rw [Array.length_toList]; rfl
    omega
  · simp [ByteArray.data_append]
  · simp [ByteArray.data_append]

theorem dom_chain (NM TL A B C S : ByteArray) (h1 : NM.data.toList.length ≤ 50) (h2 : TL.data.toList.length ≤ 50) (h3 : A.data.toList.length ≤ 50) (h4 : B.data.toList.length ≤ 50) (h5 : C.data.toList.length ≤ 50) (h6 : S.data.toList.length ≤ 50000) :
    ∃ x1 x2 x3 x4 x5 x6 x7 x8 x9 x10 x11 : ByteArray, Adds ⟨#[100, 111, 109, 97, 105, 110, 32]⟩ NM x1 ∧ Adds x1 ⟨#[32]⟩ x2 ∧ Adds x2 TL x3 ∧ Adds x3 ⟨#[32]⟩ x4 ∧ Adds x4 A x5 ∧ Adds x5 ⟨#[32]⟩ x6 ∧ Adds x6 B x7 ∧ Adds x7 ⟨#[32]⟩ x8 ∧ Adds x8 C x9 ∧ Adds x9 ⟨#[10]⟩ x10 ∧ Adds S x10 x11
      ∧ x11.data.toList = S.data.toList ++ rowText ([kwDomain, NM, TL].map (·.data.toList) ++ [A.data.toList, B.data.toList, C.data.toList]) := by
  have l7 : (⟨#[100, 111, 109, 97, 105, 110, 32]⟩ : ByteArray).data.toList.length = 7 := rfl
  have l32 : (⟨#[32]⟩ : ByteArray).data.toList.length = 1 := rfl
  have l10 : (⟨#[10]⟩ : ByteArray).data.toList.length = 1 := rfl
  obtain ⟨x1, a1, e1, n1⟩ := add_ok ⟨#[100, 111, 109, 97, 105, 110, 32]⟩ NM (by omega) (by omega)
  obtain ⟨x2, a2, e2, n2⟩ := add_ok x1 ⟨#[32]⟩ (by omega) (by omega)
  obtain ⟨x3, a3, e3, n3⟩ := add_ok x2 TL (by omega) (by omega)
  obtain ⟨x4, a4, e4, n4⟩ := add_ok x3 ⟨#[32]⟩ (by omega) (by omega)
  obtain ⟨x5, a5, e5, n5⟩ := add_ok x4 A (by omega) (by omega)
  obtain ⟨x6, a6, e6, n6⟩ := add_ok x5 ⟨#[32]⟩ (by omega) (by omega)
  obtain ⟨x7, a7, e7, n7⟩ := add_ok x6 B (by omega) (by omega)
  obtain ⟨x8, a8, e8, n8⟩ := add_ok x7 ⟨#[32]⟩ (by omega) (by omega)
  obtain ⟨x9, a9, e9, n9⟩ := add_ok x8 C (by omega) (by omega)
  obtain ⟨x10, a10, e10, n10⟩ := add_ok x9 ⟨#[10]⟩ (by omega) (by omega)
  obtain ⟨x11, a11, e11, n11⟩ := add_ok S x10 (by omega) (by omega)
  refine ⟨x1, x2, x3, x4, x5, x6, x7, x8, x9, x10, x11, a1, a2, a3, a4, a5, a6, a7, a8, a9, a10, a11, ?_⟩
  rw [e11, e10, e9, e8, e7, e6, e5, e4, e3, e2, e1]
  simp [rowText, Lib.join_cons, Lib.joinTail, kwDomain]

theorem slot_chain (NM A S : ByteArray) (h1 : NM.data.toList.length ≤ 50) (h3 : A.data.toList.length ≤ 50) (h6 : S.data.toList.length ≤ 50000) :
    ∃ x1 x2 x3 x4 x5 : ByteArray, Adds ⟨#[115, 108, 111, 116, 32]⟩ NM x1 ∧ Adds x1 ⟨#[32]⟩ x2 ∧ Adds x2 A x3 ∧ Adds x3 ⟨#[10]⟩ x4 ∧ Adds S x4 x5
      ∧ x5.data.toList = S.data.toList ++ rowText ([kwSlot, NM].map (·.data.toList) ++ [A.data.toList]) := by
  have l7 : (⟨#[115, 108, 111, 116, 32]⟩ : ByteArray).data.toList.length = 5 := rfl
  have l32 : (⟨#[32]⟩ : ByteArray).data.toList.length = 1 := rfl
  have l10 : (⟨#[10]⟩ : ByteArray).data.toList.length = 1 := rfl
  obtain ⟨x1, a1, e1, n1⟩ := add_ok ⟨#[115, 108, 111, 116, 32]⟩ NM (by omega) (by omega)
  obtain ⟨x2, a2, e2, n2⟩ := add_ok x1 ⟨#[32]⟩ (by omega) (by omega)
  obtain ⟨x3, a3, e3, n3⟩ := add_ok x2 A (by omega) (by omega)
  obtain ⟨x4, a4, e4, n4⟩ := add_ok x3 ⟨#[10]⟩ (by omega) (by omega)
  obtain ⟨x5, a5, e5, n5⟩ := add_ok S x4 (by omega) (by omega)
  refine ⟨x1, x2, x3, x4, x5, a1, a2, a3, a4, a5, ?_⟩
  rw [e5, e4, e3, e2, e1]
  simp [rowText, Lib.join_cons, Lib.joinTail, kwSlot]

/-- A link's word with its blank. -/
def kwOfB (k : Int) : ByteArray := if k = 2 then ⟨#[112, 117, 109, 112, 32]⟩ else ⟨#[99, 101, 108, 108, 32]⟩
theorem link_chain (KB KW NM NN A S : ByteArray) (hk : KB.data.toList = KW.data.toList ++ [32]) (h0 : KW.data.toList.length ≤ 50) (h1 : NM.data.toList.length ≤ 50) (h2 : NN.data.toList.length ≤ 50) (h3 : A.data.toList.length ≤ 50) (h6 : S.data.toList.length ≤ 50000) :
    ∃ x1 x2 x3 x4 x5 x6 x7 : ByteArray, Adds KB NM x1 ∧ Adds x1 ⟨#[32]⟩ x2 ∧ Adds x2 NN x3 ∧ Adds x3 ⟨#[32]⟩ x4 ∧ Adds x4 A x5 ∧ Adds x5 ⟨#[10]⟩ x6 ∧ Adds S x6 x7
      ∧ x7.data.toList = S.data.toList ++ rowText ([KW, NM, NN].map (·.data.toList) ++ [A.data.toList]) := by
  have l7 : KB.data.toList.length ≤ 51 := by rw [hk, List.length_append, List.length_singleton]; omega
  have l32 : (⟨#[32]⟩ : ByteArray).data.toList.length = 1 := rfl
  have l10 : (⟨#[10]⟩ : ByteArray).data.toList.length = 1 := rfl
  obtain ⟨x1, a1, e1, n1⟩ := add_ok KB NM (by omega) (by omega)
  obtain ⟨x2, a2, e2, n2⟩ := add_ok x1 ⟨#[32]⟩ (by omega) (by omega)
  obtain ⟨x3, a3, e3, n3⟩ := add_ok x2 NN (by omega) (by omega)
  obtain ⟨x4, a4, e4, n4⟩ := add_ok x3 ⟨#[32]⟩ (by omega) (by omega)
  obtain ⟨x5, a5, e5, n5⟩ := add_ok x4 A (by omega) (by omega)
  obtain ⟨x6, a6, e6, n6⟩ := add_ok x5 ⟨#[10]⟩ (by omega) (by omega)
  obtain ⟨x7, a7, e7, n7⟩ := add_ok S x6 (by omega) (by omega)
  refine ⟨x1, x2, x3, x4, x5, x6, x7, a1, a2, a3, a4, a5, a6, a7, ?_⟩
  rw [e7, e6, e5, e4, e3, e2, e1, hk]
  simp [rowText, Lib.join_cons, Lib.joinTail]

end Go.Proofs.YtmhjoomkeidcaaaDoor
/- What the reference's Print comes to. -/
namespace Go.Proofs.YtmhjoomkeidcaaaDoor
open Go.RowKit L2
attribute [local go_sem] regrown_cell

set_option maxHeartbeats 2000000 in
set_option maxRecDepth 100000 in
theorem refPolPrint_any (a1 a2 a3 : Option Addr) (nd ns nl c1 c2 c3 : Nat) (p : Pol) (w : World) (h1 : p.ds.length = nd) (h2 : p.ss.length = ns) (h3 : p.ls.length = nl) (hh : Held w a1 a2 a3 c1 c2 c3 p)
    (hI : ∀ d ∈ p.ds, In64 d.cat ∧ d.name.size ≤ 9223372036854775807) :
    Calls Tryd.prog 19 #[.agg #[.slice a1 nd c1, .slice a2 ns c2, .slice a3 nl c3]] w fun e w' => e = .returned (.tuple #[.string ⟨(printOf p).1.toArray⟩, .int .i64 ((printOf p).2 : Nat)]) ∧ Below w.heap.size w w' := by
  have hC := fun W hW => refCheck_any a1 a2 a3 nd ns nl c1 c2 c3 p W h1 h2 h3 hW hI
  have HH : Hid (Held w a1 a2 a3 c1 c2 c3 p) := hh
  clear hh hI
  by_cases hck : checkOf p = 0
  · obtain ⟨z0, z1, z2, z3, z4⟩ := check_zero hck
    have HT : Hid (printOf p = (p.ds.flatMap domText ++ (p.ss.flatMap (slotText p.ds) ++ p.ls.flatMap (linkText p.ds)), 0)) := print_text hck
    rw [HT.out]
    rw [hck] at hC
    clear HT hck
    rw [h1] at z1 z2 z3
    rw [h2] at z2
    rw [h3] at z4
    rw [countB_of, h1, h2, h3] at z0
    have hbd := countB_bounds z0
    have HOK : Hid (∀ i, i < nd → OkD (dm p.ds i)) := fun i hi => okD_of (z1 i hi)
    have HSL : Hid (∀ i, i < ns → slotE nd p.ss i = 0) := z2
    have HLK : Hid (∀ i, i < nl → linkE p.ds p.ls i = 0) := z4
    clear z0 z1 z2 z3 z4
    obtain ⟨ds, ss, ls⟩ := p
    dsimp only at *
    go_enter Tryd.func19, Tryd.ntmps19
    go_wp2_with fail
    refine (hC _ (HH.out.below (below1 _ _))).mono ?_
    rintro e w1 ⟨rfl, hB1⟩
    obtain ⟨hz1, x0, x1, x2⟩ := pol_cells hB1
    have hBw : Below w.heap.size w w1 := (below1 _ _).trans (hB1.mono (by simp))
    have HH1 : Hid (Held w1 a1 a2 a3 c1 c2 c3 ⟨ds, ss, ls⟩) := HH.out.below hBw
    have HX : Hid (w1.cell? ⟨w.heap.size, 0, none⟩ = some (.slice a1 nd c1) ∧ w1.cell? ⟨w.heap.size, 1, none⟩ = some (.slice a2 ns c2) ∧ w1.cell? ⟨w.heap.size, 2, none⟩ = some (.slice a3 nl c3)) := ⟨x0, x1, x2⟩
    clear HH hC hB1
    go_wp2_with fail
    clear x0 x1 x2
    go_loopw [5, 6] (fun s i wr => ∃ (k : Nat) (S : ByteArray), k ≤ nd ∧ i = .int .i64 k ∧ s = .string S ∧ S.data.toList = (ds.take k).flatMap domText ∧ S.data.toList.length ≤ k * 100 ∧ Below w1.heap.size w1 wr) (fun _ i _ => nd - (intOf i).toNat)
    case atStart => exact ⟨0, ⟨#[]⟩, Nat.zero_le _, rfl, rfl, rfl, Nat.le_refl _, Below.refl _ _⟩
    case round =>
      obtain ⟨k, S, hk, rfl, rfl, hS, hSl, hbl⟩ := hrel
      have HS : Hid (S.data.toList = (ds.take k).flatMap domText) := hS
      have hsz := hbl.size
      have hzr : w.heap.size < wr.heap.size := by omega
      have m0 : wr.cell? ⟨w.heap.size, 0, none⟩ = some (.slice a1 nd c1) := (hbl.cell (p := ⟨w.heap.size, 0, none⟩) hz1).trans HX.out.1
      clear hS
      by_cases hlt : k < nd
      · obtain ⟨b, off, rfl, hb, q0, q1, q2, q3, q4, q5⟩ := (HH1.out.below hbl).d.dom (dm_at (i := k) (by show k < ds.length; omega))
        have hok := HOK.out k hlt
        have HSN : Hid ((ds.take (k + 1)).flatMap domText = (ds.take k).flatMap domText ++ domText (dm ds k)) := flat_snoc domText (dm_at (by omega))
        generalize (ds.take k).flatMap domText = acc at *
        generalize dm ds k = d at *
        obtain ⟨L, K, hL, hK, hL7, hK6⟩ := hok.lab
        obtain ⟨qa, qb, qc, ha, hb', hc, la, lb, lc⟩ := hok.quo
        have hwl := domWords_len hok
        have HDW : Hid (domWords d = [kwDomain, d.name, textB L K].map (·.data.toList) ++ [qa, qb, qc].map Lib.decDigits) := by
          unfold domWords
          rw [hL, hK, ha, hb', hc]
          simp only [Int.toNat_natCast, List.map_cons, List.map_nil]
          rw [textB_list]; exact rfl
        rw [hL] at q1
        rw [hK] at q2
        rw [ha] at q3
        rw [hb'] at q4
        rw [hc] at q5
        have HTX : Hid (domText d = rowText ([kwDomain, d.name, textB L K].map (·.data.toList) ++ [qa, qb, qc].map Lib.decDigits)) := by unfold domText; rw [HDW.out]; exact rfl
        have htl : (domText d).length ≤ 100 := by unfold domText rowText; rw [List.length_append]; simp; omega
        have hnm : d.name.data.toList.length ≤ 50 := by have := name_short hok.name; omega
        have htb : (textB L K).data.toList.length ≤ 50 := by rw [textB_list]; have := text_len L K; omega
        obtain ⟨t1, t2, t3, t4, t5, t6, t7, t8, t9, t10, t11, u1, u2, u3, u4, u5, u6, u7, u8, u9, u10, u11, ht⟩ := dom_chain d.name (textB L K) (decB qa) (decB qb) (decB qc) S hnm htb (by rw [decB_list]; have := dec_len la; omega) (by rw [decB_list]; have := dec_len lb; omega) (by rw [decB_list]; have := dec_len lc; omega) (by omega)
        have HE : Hid (t11.data.toList = (ds.take (k + 1)).flatMap domText ∧ t11.data.toList.length ≤ (k + 1) * 100) := by
          have e : t11.data.toList = acc ++ domText d := by
            rw [ht, HS.out, HTX.out]
            simp only [decB_list]; exact rfl
          refine ⟨by rw [HSN.out]; exact e, ?_⟩
          rw [e, List.length_append, ← HS.out]; omega
        have hPr := fun W => refPrint_yes L K hL7 hK6 W
        have hN1 := fun W => num_any qa la W
        have hN2 := fun W => num_any qb lb W
        have hN3 := fun W => num_any qc lc W
        unfold Adds at u1 u2 u3 u4 u5 u6 u7 u8 u9 u10 u11
        clear hwl HDW HTX hok hL hK ha hb' hc ht HSN HS hnm htb htl
        generalize textB L K = TL at *
        generalize d.name = NM at *
        generalize (L : Int) = LI at *
        generalize (K : Int) = KI at *
        generalize decB qa = QA at *
        generalize decB qb = QB at *
        generalize decB qc = QC at *
        generalize (qa : Int) = A at *
        generalize (qb : Int) = B at *
        generalize (qc : Int) = C at *
        go_wp2_with fail
        refine (hPr _).mono ?_
        rintro e w2 ⟨rfl, hB2⟩
        obtain ⟨hy, y0, y1, y2, y3, y4, y5⟩ := dom_cells (d := ⟨NM, LI, KI, A, B, C⟩) hB2
        dsimp only at y0 y1 y2 y3 y4 y5
        have hbl2 : Below w1.heap.size w1 w2 := hbl.trans (((below1 _ _).trans (hB2.mono (by simp))).mono hsz)
        clear hB2 hPr
        go_wp2_with fail
        refine wp_region_quiet_below (by kernel_rfl) (by kernel_rfl) ?_
        repeat (first | go_big_quiet_skip | quiet_step (first | (go_at_call 43; (with_reducible exact Calls.regrown_of (hN1 _))) | (go_at_call 43; (with_reducible exact Calls.regrown_of (hN2 _))) | (go_at_call 43; (with_reducible exact Calls.regrown_of (hN3 _)))))
        refine wpQuiet_nil ?_
        intro w3 hw'
        have hb3 := below_of_regrown hw'
        clear hw'
        have hbl3 : Below w1.heap.size w1 w3 := hbl2.trans (hb3.mono hbl2.size)
        clear hb3
        go_wp2_with fail
        go_roundw
        case rel => exact ⟨k + 1, t11, by omega, by go_num, rfl, HE.out.1, HE.out.2, hbl3⟩
        case measure => simp [intOf]; omega
      · have ht : ds.take k = ds := List.take_of_length_le (by omega)
        rw [ht] at HS
        have m1 : wr.cell? ⟨w.heap.size, 1, none⟩ = some (.slice a2 ns c2) := (hbl.cell (p := ⟨w.heap.size, 1, none⟩) hz1).trans HX.out.2.1
        have HS0 : Hid (S.data.toList.length ≤ 800) := by show _ ≤ 800; omega
        have HB0 : Hid (Below w1.heap.size w1 wr) := hbl
        clear ht
        go_wp2_with fail
        clear m0 m1 hSl hk hlt hsz hbl hzr
        go_loopw [5, 10] (fun s i wr => ∃ (k : Nat) (S : ByteArray), k ≤ ns ∧ i = .int .i64 k ∧ s = .string S ∧ S.data.toList = ds.flatMap domText ++ (ss.take k).flatMap (slotText ds) ∧ S.data.toList.length ≤ 800 + k * 100 ∧ Below w1.heap.size w1 wr) (fun _ i _ => ns - (intOf i).toNat)
        case atStart => exact ⟨0, S, Nat.zero_le _, rfl, rfl, by rw [List.take_zero, List.flatMap_nil, List.append_nil]; exact HS.out, HS0.out, HB0.out⟩
        case round =>
          clear HS HS0 HB0
          obtain ⟨k, S, hk, rfl, rfl, hS, hSl, hbl⟩ := hrel
          have HS : Hid (S.data.toList = ds.flatMap domText ++ (ss.take k).flatMap (slotText ds)) := hS
          have hsz := hbl.size
          have hzr : w.heap.size < wr.heap.size := by omega
          have m1 : wr.cell? ⟨w.heap.size, 1, none⟩ = some (.slice a2 ns c2) := (hbl.cell (p := ⟨w.heap.size, 1, none⟩) hz1).trans HX.out.2.1
          clear hS
          by_cases hlt : k < ns
          · obtain ⟨b, off, rfl, hb, q0, q1⟩ := (HH1.out.below hbl).s.slot (sl_at (i := k) (by show k < ss.length; omega))
            obtain ⟨a, q, ha, hq, hal', hq9⟩ := slot_nats (slot_zero (HSL.out k hlt))
            obtain ⟨b2, off2, rfl, hb2, n0, _⟩ := (HH1.out).d.dom (dm_at (i := a) (by show a < ds.length; omega))
            have hok := HOK.out a hal'
            have HSN : Hid ((ss.take (k + 1)).flatMap (slotText ds) = (ss.take k).flatMap (slotText ds) ++ slotText ds (sl ss k)) := flat_snoc (slotText ds) (sl_at (by omega))
            have hwl := slotWords_len (ds := ds) (s := sl ss k) (by rw [ha]; simp only [Int.toNat_natCast]; exact hok) (by rw [hq]; simp only [Int.toNat_natCast]; exact hq9)
            have hdw : slotWords ds (sl ss k) = [kwSlot, (dm ds a).name].map (·.data.toList) ++ [q].map Lib.decDigits := by
              unfold slotWords
              rw [ha, hq]
              simp only [Int.toNat_natCast, List.map_cons, List.map_nil]
            have HTX : Hid (slotText ds (sl ss k) = rowText ([kwSlot, (dm ds a).name].map (·.data.toList) ++ [q].map Lib.decDigits)) := by unfold slotText; rw [hdw]; exact rfl
            have htl : (slotText ds (sl ss k)).length ≤ 100 := by unfold slotText rowText; rw [List.length_append]; simp; omega
            have hnm : (dm ds a).name.data.toList.length ≤ 50 := by have := name_short hok.name; omega
            obtain ⟨t1, t2, t3, t4, t5, u1, u2, u3, u4, u5, ht⟩ := slot_chain (dm ds a).name (decB q) S hnm (by rw [decB_list]; have := dec_len hq9; omega) (by omega)
            have HE : Hid (t5.data.toList = ds.flatMap domText ++ (ss.take (k + 1)).flatMap (slotText ds) ∧ t5.data.toList.length ≤ 800 + (k + 1) * 100) := by
              have e : t5.data.toList = S.data.toList ++ slotText ds (sl ss k) := by
                rw [ht, HTX.out]
                simp only [decB_list]; exact rfl
              refine ⟨by rw [e, HSN.out, HS.out, List.append_assoc], ?_⟩
              rw [e, List.length_append]; omega
            have hN1 := fun W => num_any q hq9 W
            unfold Adds at u1 u2 u3 u4 u5
            rw [ha] at q0
            rw [hq] at q1
            clear hwl hdw HTX hok ha hq ht HSN HS hnm htl
            have m0 : wr.cell? ⟨w.heap.size, 0, none⟩ = some (.slice (some ⟨b2, off2, none⟩) nd c1) := (hbl.cell (p := ⟨w.heap.size, 0, none⟩) hz1).trans HX.out.1
            have m2 : wr.cell? ⟨b2, off2 + a * 6, none⟩ = some (.string (dm ds a).name) := (hbl.cell (p := ⟨b2, off2 + a * 6, none⟩) hb2).trans n0
            clear n0
            have hb2r : b2 < wr.heap.size := by omega
            have g1 : (0 : Int) ≤ (a : Int) := by omega
            have g2 : (a : Int) < (nd : Int) := by omega
            have g3 : (0 : Int) ≤ (k : Int) := by omega
            have g4 : (k : Int) < (ns : Int) := by omega
            generalize (dm ds a).name = NM at *
            generalize decB q = QA at *
            generalize (q : Int) = A at *
            go_wp2_with fail
            refine wp_region_quiet_below (by kernel_rfl) (by kernel_rfl) ?_
            repeat (first | go_big_quiet_skip | quiet_step (first | (go_at_call 43; (with_reducible exact Calls.regrown_of (hN1 _)))))
            refine wpQuiet_nil ?_
            intro w3 hw'
            have hb3 := below_of_regrown hw'
            clear hw'
            have hbl3 : Below w1.heap.size w1 w3 := hbl.trans (hb3.mono hbl.size)
            clear hb3
            go_wp2_with fail
            go_roundw
            case rel => exact ⟨k + 1, t5, by omega, by go_num, rfl, HE.out.1, HE.out.2, hbl3⟩
            case measure => simp [intOf]; omega
          · have ht : ss.take k = ss := List.take_of_length_le (by omega)
            rw [ht] at HS
            have m2 : wr.cell? ⟨w.heap.size, 2, none⟩ = some (.slice a3 nl c3) := (hbl.cell (p := ⟨w.heap.size, 2, none⟩) hz1).trans HX.out.2.2
            have HS0 : Hid (S.data.toList.length ≤ 2400) := by show _ ≤ 2400; omega
            have HB0 : Hid (Below w1.heap.size w1 wr) := hbl
            clear ht
            go_wp2_with fail
            clear m1 m2 hSl hk hlt hsz hbl hzr
            go_loopw [5, 11] (fun s i wr => ∃ (k : Nat) (S : ByteArray), k ≤ nl ∧ i = .int .i64 k ∧ s = .string S ∧ S.data.toList = (ds.flatMap domText ++ ss.flatMap (slotText ds)) ++ (ls.take k).flatMap (linkText ds) ∧ S.data.toList.length ≤ 2400 + k * 100 ∧ Below w1.heap.size w1 wr) (fun _ i _ => nl - (intOf i).toNat)
            case atStart => exact ⟨0, S, Nat.zero_le _, rfl, rfl, by rw [List.take_zero, List.flatMap_nil, List.append_nil]; exact HS.out, HS0.out, HB0.out⟩
            case round =>
              clear HS HS0 HB0
              obtain ⟨k, S, hk, rfl, rfl, hS, hSl, hbl⟩ := hrel
              have HS : Hid (S.data.toList = (ds.flatMap domText ++ ss.flatMap (slotText ds)) ++ (ls.take k).flatMap (linkText ds)) := hS
              have hsz := hbl.size
              have hzr : w.heap.size < wr.heap.size := by omega
              have m3 : wr.cell? ⟨w.heap.size, 2, none⟩ = some (.slice a3 nl c3) := (hbl.cell (p := ⟨w.heap.size, 2, none⟩) hz1).trans HX.out.2.2
              clear hS
              by_cases hlt : k < nl
              · obtain ⟨b, off, rfl, hb, q0, q1, q2, q3⟩ := (HH1.out.below hbl).l.link (lk_at (i := k) (by show k < ls.length; omega))
                obtain ⟨y1, y2, y3⟩ := link_zero (HLK.out k hlt)
                rw [h1] at y1
                obtain ⟨a, c, q, ha, hc, hq, hal', hcl', hq9⟩ := link_nats y1 y2
                have hkd : (lk ls k).kind = 1 ∨ (lk ls k).kind = 2 := (of_decide_eq_true y2).imp And.left And.left
                obtain ⟨b2, off2, rfl, hb2, n0, _⟩ := (HH1.out).d.dom (dm_at (i := a) (by show a < ds.length; omega))
                obtain ⟨b3, off3, he3, _, n1, _⟩ := (HH1.out).d.dom (dm_at (i := c) (by show c < ds.length; omega))
                injection he3 with he3
                injection he3 with e5 e6
                subst e5 e6
                have hok := HOK.out a hal'
                have hok2 := HOK.out c hcl'
                have HSN : Hid ((ls.take (k + 1)).flatMap (linkText ds) = (ls.take k).flatMap (linkText ds) ++ linkText ds (lk ls k)) := flat_snoc (linkText ds) (lk_at (by omega))
                have hwl := linkWords_len (ds := ds) (l := lk ls k) (by rw [ha]; simp only [Int.toNat_natCast]; exact hok) (by rw [hc]; simp only [Int.toNat_natCast]; exact hok2) (by rw [hq]; simp only [Int.toNat_natCast]; exact hq9)
                have hdw : linkWords ds (lk ls k) = [kwOf (lk ls k), (dm ds a).name, (dm ds c).name].map (·.data.toList) ++ [q].map Lib.decDigits := by
                  unfold linkWords
                  rw [ha, hc, hq]
                  simp only [Int.toNat_natCast, List.map_cons, List.map_nil]
                have HTX : Hid (linkText ds (lk ls k) = rowText ([kwOf (lk ls k), (dm ds a).name, (dm ds c).name].map (·.data.toList) ++ [q].map Lib.decDigits)) := by unfold linkText; rw [hdw]; exact rfl
                have htl : (linkText ds (lk ls k)).length ≤ 100 := by unfold linkText rowText; rw [List.length_append]; simp; omega
                have hnm : (dm ds a).name.data.toList.length ≤ 50 := by have := name_short hok.name; omega
                have hnn : (dm ds c).name.data.toList.length ≤ 50 := by have := name_short hok2.name; omega
                have hkb : (kwOfB (lk ls k).kind).data.toList = (kwOf (lk ls k)).data.toList ++ [32] := by
                  unfold kwOfB kwOf
                  rcases hkd with e | e <;> rw [e] <;> rfl
                obtain ⟨t1, t2, t3, t4, t5, t6, t7, u1, u2, u3, u4, u5, u6, u7, ht⟩ := link_chain (kwOfB (lk ls k).kind) (kwOf (lk ls k)) (dm ds a).name (dm ds c).name (decB q) S hkb (by rw [kw_len]; omega) hnm hnn (by rw [decB_list]; have := dec_len hq9; omega) (by omega)
                have HE : Hid (t7.data.toList = (ds.flatMap domText ++ ss.flatMap (slotText ds)) ++ (ls.take (k + 1)).flatMap (linkText ds) ∧ t7.data.toList.length ≤ 2400 + (k + 1) * 100) := by
                  have e : t7.data.toList = S.data.toList ++ linkText ds (lk ls k) := by
                    rw [ht, HTX.out]
                    simp only [decB_list]; exact rfl
                  refine ⟨by rw [e, HSN.out, HS.out, List.append_assoc], ?_⟩
                  rw [e, List.length_append]; omega
                have hN1 := fun W => num_any q hq9 W
                unfold Adds at u1 u2 u3 u4 u5 u6 u7
                rw [ha] at q1
                rw [hc] at q2
                rw [hq] at q3
                clear hwl hdw HTX hok hok2 ha hc hq ht HSN HS hnm hnn htl hkb y1 y2 y3
                have m0 : wr.cell? ⟨w.heap.size, 0, none⟩ = some (.slice (some ⟨b2, off2, none⟩) nd c1) := (hbl.cell (p := ⟨w.heap.size, 0, none⟩) hz1).trans HX.out.1
                have m1 : wr.cell? ⟨b2, off2 + a * 6, none⟩ = some (.string (dm ds a).name) := (hbl.cell (p := ⟨b2, off2 + a * 6, none⟩) hb2).trans n0
                have m2 : wr.cell? ⟨b2, off2 + c * 6, none⟩ = some (.string (dm ds c).name) := (hbl.cell (p := ⟨b2, off2 + c * 6, none⟩) hb2).trans n1
                clear n0 n1
                have hb2r : b2 < wr.heap.size := by omega
                have j1 : w.heap.size < wr.heap.size + 1 := by omega
                have j3 : b2 < wr.heap.size + 1 := by omega
                have g1 : (0 : Int) ≤ (a : Int) := by omega
                have g2 : (a : Int) < (nd : Int) := by omega
                have g3 : (0 : Int) ≤ (c : Int) := by omega
                have g4 : (c : Int) < (nd : Int) := by omega
                generalize (dm ds a).name = NM at *
                generalize (dm ds c).name = NN at *
                generalize decB q = QA at *
                generalize (q : Int) = A at *
                generalize (lk ls k).kind = lk0 at *
                rcases hkd with rfl | rfl
                · have u1' : ∀ W : World, (Op.stringOp .add ⟨#[99, 101, 108, 108, 32]⟩ NM).run Tryd.prog W = .ok (.string t1) W := u1
                  clear u1
                  go_wp2_with fail
                  refine wp_region_quiet_below (by kernel_rfl) (by kernel_rfl) ?_
                  repeat (first | go_big_quiet_skip | quiet_step (first | (go_at_call 43; (with_reducible exact Calls.regrown_of (hN1 _)))))
                  refine wpQuiet_nil ?_
                  intro w3 hw'
                  have hb3 := below_of_regrown hw'
                  clear hw'
                  have hbl3 : Below w1.heap.size w1 w3 := hbl.trans (((below1 _ _).trans (hb3.mono (by simp))).mono hbl.size)
                  clear hb3
                  go_wp2_with fail
                  go_roundw
                  case rel => exact ⟨k + 1, t7, by omega, by go_num, rfl, HE.out.1, HE.out.2, hbl3⟩
                  case measure => simp [intOf]; omega
                · have u1' : ∀ W : World, (Op.stringOp .add ⟨#[112, 117, 109, 112, 32]⟩ NM).run Tryd.prog W = .ok (.string t1) W := u1
                  clear u1
                  go_wp2_with fail
                  refine wp_region_quiet_below (by kernel_rfl) (by kernel_rfl) ?_
                  repeat (first | go_big_quiet_skip | quiet_step (first | (go_at_call 43; (with_reducible exact Calls.regrown_of (hN1 _)))))
                  refine wpQuiet_nil ?_
                  intro w3 hw'
                  have hb3 := below_of_regrown hw'
                  clear hw'
                  have hbl3 : Below w1.heap.size w1 w3 := hbl.trans (((below1 _ _).trans (hb3.mono (by simp))).mono hbl.size)
                  clear hb3
                  go_wp2_with fail
                  go_roundw
                  case rel => exact ⟨k + 1, t7, by omega, by go_num, rfl, HE.out.1, HE.out.2, hbl3⟩
                  case measure => simp [intOf]; omega
              · have ht : ls.take k = ls := List.take_of_length_le (by omega)
                rw [ht, List.append_assoc] at HS
                have HF : Hid (S = ⟨(ds.flatMap domText ++ (ss.flatMap (slotText ds) ++ ls.flatMap (linkText ds))).toArray⟩) := by
                  refine ByteArray.ext (Array.toList_inj.1 ?_)
                  rw [HS.out]
                clear ht HS
                go_wp2
                go_ret2
                exact ⟨by rw [← HF.out]; rfl, hBw.trans (hbl.mono hBw.size)⟩
  · have hne : ((checkOf p : Int) != 0) = true := by simp; exact hck
    rw [print_check hck]
    clear hck
    generalize checkOf p = ck at *
    go_enter Tryd.func19, Tryd.ntmps19
    go_wp2_with fail
    refine (hC _ (HH.out.below (below1 _ _))).mono ?_
    rintro e w1 ⟨rfl, hB1⟩
    go_wp2
    go_ret2
    exact ⟨rfl, (below1 _ _).trans (hB1.mono (by simp))⟩

end Go.Proofs.YtmhjoomkeidcaaaDoor
/- The walk of the law PolicyPrints. -/
namespace Go.Proofs.YtmhjoomkeidcaaaDoor
open Go.RowKit L2

set_option maxHeartbeats 2000000 in
set_option maxRecDepth 100000 in
theorem prints_walk (a1 a2 a3 : Option Addr) (nd ns nl c1 c2 c3 : Nat) (p : Pol) (w : World) (h1 : p.ds.length = nd) (h2 : p.ss.length = ns) (h3 : p.ls.length = nl) (hh : Held w a1 a2 a3 c1 c2 c3 p) (hI : ∀ d ∈ p.ds, In64 d.cat ∧ d.name.size ≤ 9223372036854775807) :
    Calls Tryd.prog 6 #[.agg #[.slice a1 nd c1, .slice a2 ns c2, .slice a3 nl c3]] w fun e w' => e = .returned (.bool true) ∧ Below w.heap.size w w' := by
  have hC := fun W hW => policyPrint_any a1 a2 a3 nd ns nl c1 c2 c3 p W h1 h2 h3 hW
  have hR := fun W hW => refPolPrint_any a1 a2 a3 nd ns nl c1 c2 c3 p W h1 h2 h3 hW hI
  have HH : Hid (Held w a1 a2 a3 c1 c2 c3 p) := hh
  clear hh hI h1 h2 h3
  generalize (((printOf p).2 : Nat) : Int) = x at *
  generalize (⟨(printOf p).1.toArray⟩ : ByteArray) = S at *
  have hx : (x == x) = true := by simp
  have hs : (S.toList == S.toList) = true := by simp
  go_enter Tryd.func6, Tryd.ntmps6
  go_wp2_with fail
  refine (hC _ (HH.out.below (below1 _ _))).mono ?_
  rintro e w1 ⟨rfl, hB1⟩
  obtain ⟨hz1, x0, x1, x2⟩ := pol_cells hB1
  have hBw : Below w.heap.size w w1 := (below1 _ _).trans (hB1.mono (by simp))
  clear hB1
  go_wp2_with fail
  refine (hR _ (HH.out.below hBw)).mono ?_
  rintro e w2 ⟨rfl, hB2⟩
  go_wp2_with fail
  refine (awake_any _).mono ?_
  rintro e w3 ⟨rfl, hB3⟩
  go_wp2
  go_ret
  exact ⟨rfl, hBw.trans ((hB2.trans (hB3.mono hB2.size)).mono hBw.size)⟩

end Go.Proofs.YtmhjoomkeidcaaaDoor
namespace Go.Proofs.YtmhjoomkeidcaaaDoor
open Go.ChangeShapes Go.WideShapes Go.ChangeAt Go.RowKit Go.Joins Go.Deep
open Go.ChangeMaps (open_string shut_string)

set_option maxRecDepth 100000 in
theorem prints_lifted (os : Os) (started : os.Started) (H : Type) (enc : TypeId × Value → H) :
    ReturnsInHanded {} Tryd.checked os 6 .any (fun w args => (Rows.policyPrintsSpec.pre enc Tryd.prog Tryd.f6 [] false w args ∧ laidMetH Tryd.prog Rows.policyPrintsRow.laid w) ∧ sizedMet enc Tryd.prog Tryd.f6 (OpenSpec.ofChange Rows.policyPrintsSpec) false w args)
      (Rows.policyPrintsSpec.post enc Tryd.prog Tryd.f6 false true false false) := by
  refine returnsInHanded_of_change_and (C := Tryd.checked) (X := fun w _ => laidMetH Tryd.prog Rows.policyPrintsRow.laid w) (fun _ _ _ hh h => h.of_heap hh) own started (by kernel_rfl) Tryd.func6
    (ChangeSpec.witness_shaped (enc := enc) (C := Tryd.checked) (os := os) (X := fun w _ => laidMetH Tryd.prog Rows.policyPrintsRow.laid w) false (World.doorLaid Tryd.prog 400 os) #[.agg #[.slice none 0 0, .slice none 0 0, .slice none 0 0]] 8 rfl (World.shaped_of_RefB (by kernel_rfl) (by kernel_rfl)) (by kernel_rfl) (by kernel_rfl) (by kernel_rfl) (door_met os _)) ?_
  intro W base args ds gs before hval0 hW _ _ _ _
  have hval : ∀ (j : Nat) t v, Tryd.f6.params[j]? = some t → args[j]? = some v → Value.okWide Tryd.prog W .any base t v := hval0
  have hW' := hW
  obtain ⟨p, q, hA0, hV, rfl, hfz, hnd⟩ := hW
  have hA : DataW.TrodAll enc Tryd.prog W 0 (fun _ => true) true Tryd.f6.params.toList args.toList ds p := hA0
  rw [Tryd.params6] at hA hval
  obtain ⟨v0, d0, rfl, rfl, h0⟩ := trodAll_one hA
  obtain ⟨rfl, rfl⟩ := trodVars_none hV
  have k0 := h0
  have lt0 : ∀ x ∈ p, x.block < W.heap.size := by obtain ⟨m, hm⟩ := k0; exact DataW.trod_lt m _ _ _ hm
  obtain ⟨a1, a2, a3, c1, c2, c3, pol, rfl, hheld, hfit, hm1, hm2, hm3⟩ := open_pol (hval 0 26 v0 rfl rfl) h0
  clear hA0 hval0
  simp only [List.append_nil] at hW'
  refine (prints_walk a1 a2 a3 _ _ _ c1 c2 c3 pol W rfl rfl rfl hheld hfit).mono fun e W' ⟨he, hg⟩ => ?_
  subst he
  exact ⟨_, rfl, _, _, _, [], _, [], hW', trodAll_mk1 (shut_bool Tryd.underlying4 _), trodAll_mk1 (Below.trod laidOut (by kernel_rfl) (of_decide_eq_true (by kernel_rfl)) k0 hg lt0), rfl, hg.frame _, fun h => by cases h⟩

theorem prints_over : Rows.policyPrintsRow.holds Tryd.pinned (OpenSpec.ofChange Rows.policyPrintsSpec) :=
  OpenClaim.holds_of_wide 6 Tryd.f6 rfl rfl rfl rfl rfl rfl rfl ⟨rfl, rfl, rfl, rfl, rfl⟩ rfl rfl rfl rfl rfl (by kernel_rfl) Tryd.func6 (by kernel_rfl)
    (of_decide_eq_true (by kernel_rfl)) (by unfold Func.isWrapper; first | (rw [if_pos (by decide +kernel)]; kernel_rfl) | (rw [if_neg (by decide +kernel)]; exact ⟨rfl, rfl⟩))
    (fun os started H enc _ => prints_lifted os started H enc)

theorem prints_proved : Rows.PolicyPrintsCardSaid :=
  Claim7.holds_tied_plain_at .later [] [.data, .data, .data] true _ false
    prints_over (fun _ h => by cases h) (by kernel_rfl) (fun _ h => by cases h) policyPrints_row_tie rfl ⟨rfl, rfl⟩ (by kernel_rfl) rfl
    (fun f fn hf hfn => by
      obtain rfl : f = 6 := Option.some.inj ((show Tryd.prog.funcNamed Rows.policyPrintsRow.func = some 6 by kernel_rfl).symm.trans hf) |>.symm
      obtain rfl : fn = Tryd.f6 := (Option.some.inj (Tryd.func6.symm.trans hfn)).symm
      exact ⟨by kernel_rfl, fun j t ht => by
        rw [Tryd.params6] at ht
        have hm : t ∈ [26] := by simpa using Array.mem_of_getElem? ht
        have hall : ([26].all fun u => !Tryd.prog.wantsStandIn u) = true := by kernel_rfl
        exact (show Tryd.prog.wantsStandIn t = false by simpa using List.all_eq_true.1 hall t hm)⟩)
    (by kernel_rfl)
#print axioms prints_proved
end Go.Proofs.YtmhjoomkeidcaaaDoor
