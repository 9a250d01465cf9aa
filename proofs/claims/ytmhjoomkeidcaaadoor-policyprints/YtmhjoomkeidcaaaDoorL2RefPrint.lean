/-
  What the document's own answer for a label's text comes to: the same text.
-/
import Derived.Test.YtmhjoomkeidcaaaDoorL2Name
namespace Go.Proofs.YtmhjoomkeidcaaaDoor.L2
open Go.RowKit

theorem good_nats {l c : Int} (h : goodB l c = true) : ∃ a b : Nat, l = a ∧ c = b ∧ a ≤ 7 ∧ b < 65536 := by
  have := of_decide_eq_true h
  exact ⟨l.toNat, c.toNat, by omega, by omega, by omega, by omega⟩

theorem info5 : (Tryd.prog.info? 5).map (fun i => (i.zero, i.size, i.bytes)) = some (some (.int .u8 0), 1, 1) := by kernel_rfl

/-- The two bytes of a sign, as the document has them. -/
theorem sign_low (n : Nat) (h : n < 15) : Lib.byteCells (signOf n) = [.int .u8 206, .int .u8 (177 + n)] := by
  have e1 : (945 + n) / 64 + 192 = 206 := by omega
  have e2 : (945 + n) % 64 + 128 = 177 + n := by omega
  simp only [Lib.byteCells, signOf, List.map_cons, List.map_nil]
  rw [toUInt8_toNat _ (by omega), toUInt8_toNat _ (by omega), e1, e2]
  rfl
theorem sign_15 : Lib.byteCells (signOf 15) = [.int .u8 207, .int .u8 128] := rfl

set_option maxHeartbeats 1000000 in
theorem greekOf_low (n : Nat) (h : n < 15) (w : World) :
    Calls Tryd.prog 69 #[.int .i64 n] w fun e w' => e = .returned (.slice (some ⟨w.heap.size, 0, none⟩) 2 2) ∧ w' = w.alloc (.cells #[.int .u8 206, .int .u8 (177 + n)] 5) := by
  go_enter Tryd.func69, Tryd.ntmps69
  go_wp2
  go_ret
  exact ⟨rfl, rfl⟩
set_option maxHeartbeats 1000000 in
theorem greekOf_15 (w : World) :
    Calls Tryd.prog 69 #[.int .i64 15] w fun e w' => e = .returned (.slice (some ⟨w.heap.size, 0, none⟩) 2 2) ∧ w' = w.alloc (.cells #[.int .u8 207, .int .u8 128] 5) := by
  go_enter Tryd.func69, Tryd.ntmps69
  go_wp2
  go_ret
  exact ⟨rfl, rfl⟩

theorem greekOf_any (n : Nat) (h : n < 16) (w : World) :
    Calls Tryd.prog 69 #[.int .i64 n] w fun e w' => ∃ x y, Lib.byteCells (signOf n) = [.int .u8 x, .int .u8 y] ∧ e = .returned (.slice (some ⟨w.heap.size, 0, none⟩) 2 2) ∧ w' = w.alloc (.cells #[.int .u8 x, .int .u8 y] 5) := by
  by_cases h15 : n < 15
  · exact (greekOf_low n h15 w).mono fun e w' ⟨h1, h2⟩ => ⟨_, _, sign_low n h15, h1, h2⟩
  · obtain rfl : n = 15 := by omega
    exact (greekOf_15 w).mono fun e w' ⟨h1, h2⟩ => ⟨_, _, sign_15, h1, h2⟩

/-- A row of two bytes that was just laid is the call's own. -/
theorem owns_two (w : World) (x y : Int) : (w.alloc (.cells #[.int .u8 x, .int .u8 y] 5)).ownsRow w.heap.size 5 1 (.slice (some ⟨w.heap.size, 0, none⟩) 2 2) 2 [.int .u8 x, .int .u8 y] := by
  refine ⟨by simp, .inr ⟨w.heap.size, 2, #[.int .u8 x, .int .u8 y], rfl, Nat.le_refl _, alloc_at _ _, ?_⟩⟩
  exact ⟨Nat.le_refl _, by unfold maxLen; omega, rfl, rfl⟩

/-- A text out of a row of bytes of the call's own. -/
theorem conv_own {w : World} {B : Nat} {v : Value} {n : Nat} {l : List UInt8} (h : w.ownsRow B 5 1 v n (Lib.byteCells l)) (hn : n = l.length) (h0 : 0 < n) :
    (convert 76 9 v).run Tryd.prog w = .ok (.string ⟨l.toArray⟩) w := by
  have h' := h
  rcases h.2 with ⟨_, h2⟩ | ⟨g, cap, cur, rfl, _, _, _⟩
  · omega
  · subst hn
    refine run_convert_bytes_back _ 76 9 5 ⟨g, 0, none⟩ cap l Tryd.underlying76 Tryd.underlying5 Tryd.underlying9 ?_
    intro j hj
    rw [h'.cells (g := g) rfl j (.int .u8 (l[j].toNat : Int)) (by simp [Lib.byteCells, hj])]

set_option maxHeartbeats 1000000 in
theorem refPrint_no (l c : Int) (hc : In64 c) (h : goodB l c = false) (w : World) :
    Calls Tryd.prog 42 #[.agg #[.int .i64 l, .int .i64 c]] w fun e w' => e = .returned (.tuple #[.string ⟨#[]⟩, .int .i64 3]) ∧ Below w.heap.size w w' := by
  go_enter Tryd.func42, Tryd.ntmps42
  go_wp2_with fail
  refine (refGood_any _ _ _ hc).mono ?_
  rintro e w1 ⟨rfl, hB⟩
  go_wp2
  go_ret2
  exact ⟨rfl, (below1 _ _).trans (hB.mono (by simp))⟩

theorem bit_rem (c n : Nat) : (((c : Int) / 2 ^ n).tmod 2 == 1) = c.testBit n := by
  have e : ((c : Int) / 2 ^ n) = ((c / 2 ^ n : Nat) : Int) := by rw [Int.natCast_ediv]; simp
  rw [e, Int.tmod_eq_emod_of_nonneg (Int.natCast_nonneg _), Nat.testBit_eq_decide_div_mod_eq, Bool.eq_iff_iff]
  simp
  omega

theorem owns_below {w w' : World} {base : Nat} {e : TypeId} {size : Nat} {v : Value} {n : Nat} {xs : List Value} (h : w.ownsRow base e size v n xs) (k : Below w.heap.size w w') : w'.ownsRow base e size v n xs := by
  obtain ⟨h1, h2⟩ := h
  refine ⟨h1, ?_⟩
  rcases h2 with h2 | ⟨g, cap, cur, hv, hg, hh, r⟩
  · exact Or.inl h2
  · refine Or.inr ⟨g, cap, cur, hv, hg, ?_, r⟩
    have hlt : g < w.heap.size := (Array.getElem?_eq_some_iff.1 hh).1
    rw [k.block g hlt]; exact hh

set_option maxHeartbeats 2000000 in
set_option maxRecDepth 20000 in
theorem refPrint_yes (l c : Nat) (hl : l ≤ 7) (hc : c < 65536) (w : World) :
    Calls Tryd.prog 42 #[.agg #[.int .i64 l, .int .i64 c]] w fun e w' => e = .returned (.tuple #[.string (textB l c), .int .i64 0]) ∧ Below w.heap.size w w' := by
  obtain ⟨i0, hi, hz0, hz1, hz2⟩ := info_parts info5
  have hg : goodB l c = true := decide_eq_true (by omega)
  have hIn : In64 c := by unfold In64; omega
  obtain ⟨d, hd⟩ : ∃ d, d = (48 + l).toUInt8 := ⟨_, rfl⟩
  have hT : Hid (textB l c = ⟨(d :: 123 :: (signsFrom c 16 0 ++ [125])).toArray⟩) := by rw [hd]; exact rfl
  have hD : Hid ((d.toNat : Int) = 48 + l) := by rw [hd, toUInt8_toNat _ (by omega)]; exact (by omega : ((48 + l : Nat) : Int) = 48 + l)
  clear hd
  go_enter Tryd.func42, Tryd.ntmps42
  go_wp2_with fail
  refine (refGood_any _ _ _ hIn).mono ?_
  rintro e w1 ⟨rfl, hB⟩
  have hz : w.heap.size < w1.heap.size := by have := hB.size; simp at this; omega
  have k0 : w1.cell? ⟨w.heap.size, 0, none⟩ = some (.int .i64 l) := by rw [(bcell hB).1 _ _ (by simp)]; simp [go_sem]
  have k1 : w1.cell? ⟨w.heap.size, 1, none⟩ = some (.int .i64 c) := by rw [(bcell hB).1 _ _ (by simp)]; simp [go_sem]
  go_wp2_with fail
  go_loopw [4, 5] (fun v i wr => ∃ (n : Nat) (acc : List UInt8), n ≤ 16 ∧ i = .int .i64 n ∧ wr.ownsRow w1.heap.size 5 1 v acc.length (Lib.byteCells acc) ∧ Below w1.heap.size w1 wr ∧ acc ++ signsFrom c (16 - n) n = d :: 123 :: signsFrom c 16 0 ∧ acc.length ≤ 2 + 2 * n)
    (fun _ i _ => 16 - (intOf i).toNat)
  case atStart =>
    refine ⟨0, [d, 123], by omega, rfl, ?_, below1 _ _, rfl, by simp⟩
    have := owns_two w1 (48 + l) 123
    rw [show Lib.byteCells [d, 123] = [.int .u8 (d.toNat : Int), .int .u8 123] from rfl, hD.out]
    exact this
  case round =>
    obtain ⟨n, acc, hn, rfl, hI, hbw, hacc, hal⟩ := hrel
    have q1 : wr.cell? ⟨w.heap.size, 1, none⟩ = some (.int .i64 c) := kept_old hbw hz 1 k1
    have hsz := hbw.size
    by_cases hlt : n < 16
    · cases hb : c.testBit n
      · have ht : (((c : Int) / 2 ^ n).tmod 2 == 1) = false := by rw [bit_rem c n, hb]
        go_wp2_with fail
        go_roundw
        case rel =>
          refine ⟨n + 1, acc, by omega, by go_num, hI, hbw, ?_, by omega⟩
          rw [← hacc, show 16 - n = (16 - (n + 1)) + 1 by omega]
          simp [signsFrom, hb]
        case measure => simp [intOf]; omega
      · have ht : (((c : Int) / 2 ^ n).tmod 2 == 1) = true := by rw [bit_rem c n, hb]
        go_wp2_with fail
        refine (greekOf_any n hlt _).mono ?_
        rintro e w4 ⟨x, y, hxy, rfl, rfl⟩
        go_wp2_with (at_builtin; refine wpList_append_own _ rfl _ _ 76 rfl w1.heap.size 5 i0 (.int .u8 0) 1 1 Tryd.underlying76 hi hz0 hz1 hz2 rfl (by decide) _ _ _ rfl (hI.alloc _) ⟨wr.heap.size, 0, none⟩ 2 2 [.int .u8 x, .int .u8 y] rfl rfl ?c1 ?c2 ?c3 ?c4 ?c5 ?_)
        case c1 =>
          intro j u hj
          match j, hj with
          | 0, hj => simp at hj; subst hj; simp [Addr.add]
          | 1, hj => simp at hj; subst hj; simp [Addr.add]
          | (j + 2), hj => simp at hj
        case c2 => intro u hu; simp at hu; rcases hu with rfl | rfl <;> rfl
        case c3 => unfold maxLen; omega
        case c4 => omega
        case c5 => simp; omega
        intro v' w3 hown' hgrow _
        have hb3 : Below w1.heap.size w1 w3 := (hbw.alloc (by omega) _).grown hgrow (by simp; omega) (fun j hj => (hI.lt j hj).1)
        have hown3 : w3.ownsRow w1.heap.size 5 1 v' (acc ++ signOf n).length (Lib.byteCells (acc ++ signOf n)) := by
          rw [Lib.byteCells_append, hxy, List.length_append]; exact hown'
        clear hown' hgrow hI
        go_wp2_with fail
        go_roundw
        case rel =>
          refine ⟨n + 1, acc ++ signOf n, by omega, by go_num, hown3, hb3, ?_, by simp [signOf]; omega⟩
          rw [← hacc, show 16 - n = (16 - (n + 1)) + 1 by omega]
          simp [signsFrom, hb]
        case measure => simp [intOf]; omega
    · have e16 : n = 16 := by omega
      subst e16
      have ea : Hid (acc = d :: 123 :: signsFrom c 16 0) := by
        have : acc = d :: 123 :: signsFrom c 16 0 := by simpa [signsFrom] using hacc
        exact this
      clear hacc
      go_wp2_with (at_builtin; refine wpList_append_own _ rfl _ _ 76 rfl w1.heap.size 5 i0 (.int .u8 0) 1 1 Tryd.underlying76 hi hz0 hz1 hz2 rfl (by decide) _ _ _ rfl (hI.alloc _) ⟨wr.heap.size, 0, none⟩ 1 1 [.int .u8 125] rfl rfl ?c1 ?c2 ?c3 ?c4 ?c5 ?_)
      case c1 =>
        intro j u hj
        match j, hj with
        | 0, hj => simp at hj; subst hj; simp [Addr.add]
      case c2 => intro u hu; simp at hu; subst hu; rfl
      case c3 => unfold maxLen; omega
      case c4 => omega
      case c5 => simp; omega
      intro v' w3 hown' hgrow _
      have hb3 : Below w1.heap.size w1 w3 := (hbw.alloc (by omega) _).grown hgrow (by simp; omega) (fun j hj => (hI.lt j hj).1)
      have hown3 : w3.ownsRow w1.heap.size 5 1 v' (acc.length + 1) (Lib.byteCells (acc ++ [125])) := by
        rw [Lib.byteCells_append]; exact hown'
      have hcv := conv_own hown3 (by simp) (by omega)
      clear hown' hgrow hI hown3
      go_wp2
      go_ret2
      rw [hT.out, ea.out]
      exact ⟨rfl, (below1 _ _).trans ((hB.trans (hb3.mono hB.size)).mono (by simp))⟩

theorem refPrint_any (l c : Int) (hc : In64 c) (w : World) :
    Calls Tryd.prog 42 #[.agg #[.int .i64 l, .int .i64 c]] w fun e w' => e = .returned (.tuple #[.string (if goodB l c = true then textB l.toNat c.toNat else ⟨#[]⟩), .int .i64 (if goodB l c = true then 0 else 3)]) ∧ Below w.heap.size w w' := by
  cases hg : goodB l c with
  | false => exact refPrint_no l c hc hg w
  | true =>
    obtain ⟨a, b, rfl, rfl, h1, h2⟩ := good_nats hg
    exact refPrint_yes a b h1 h2 w
theorem print_any (l c : Int) (w : World) :
    Calls Tryd.prog 37 #[.agg #[.int .i64 l, .int .i64 c]] w fun e w' => e = .returned (.tuple #[.string (if goodB l c = true then textB l.toNat c.toNat else ⟨#[]⟩), .int .i64 (if goodB l c = true then 0 else 3)]) ∧ Below w.heap.size w w' := by
  cases hg : goodB l c with
  | false => exact print_no l c hg w
  | true =>
    obtain ⟨a, b, rfl, rfl, h1, h2⟩ := good_nats hg
    exact print_yes a b h1 h2 w

end Go.Proofs.YtmhjoomkeidcaaaDoor.L2
