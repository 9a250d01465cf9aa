/-
  What buffer's Deliver comes to.
-/
import Derived.Test.YtiookbmffdmdeaaSets
import Derived.Laws.CopyOwn
import Derived.Laws.MakeOwn
namespace Go.Proofs.Ytiookbmffdmdeaa
open Go.RowKit

theorem info31 : (Try.prog.info? 31).map (fun i => (i.zero, i.size, i.bytes)) = some (some (.agg #[.int .i64 0, .int .i64 0]), 2, 16) := by kernel_rfl

/-- 'copy' of structs, a row that is known whole. -/
theorem run_copy_wide (P : Program) (w : World) (dT sT ty elem : TypeId) (sz g o dLen dCap m : Nat) (a : Addr) (sLen sCap : Nat) (cur : Array Value) (t : TypeId) (cs : List Value)
    (hu : P.underlying dT = some (.slice elem)) (hs : (P.info? elem).map (·.size) = some sz)
    (hg : w.heap[g]? = some (.cells cur t (0, 0))) (hm : m = Nat.min sLen dLen) (hn : cs.length = m * sz)
    (hsrc : ∀ j v, cs[j]? = some v → w.cell? (a.add j) = some v) (hfit : o + cs.length ≤ cur.size) (h1 : ∀ v ∈ cs, v.oneCell' = true) :
    (Builtin.copy_ #[dT, sT] ty #[.slice (some ⟨g, o, none⟩) dLen dCap, .slice (some a) sLen sCap]).run P w =
      .ok (goInt m) (w.setRow g (cur.toList.take o ++ cs ++ cur.toList.drop (o + cs.length)).toArray) := by
  have hl := run_loadCells_list (P := P) w a cs hsrc
  have hst := run_storeCells_at P g o t cs 0 cur w hg (by simpa using hfit) h1
  cases hq : P.info? elem with
  | none => simp [hq] at hs
  | some i =>
    have hi : i.size = sz := by simpa [hq] using hs
    simp [Builtin.copy_, run_underlying hu, Builtin.lenOf, Builtin.firstCells, sizeOf, typeInfo, hq, hi, ← hm, ← hn, hl, hst]

/-- What lies in a buffer's block, up to eight wake-ups. -/
theorem AtB.front {w : World} {B n : Nat} {l : List Wk} (h : AtB w B n l) {m : Nat} (hm : m ≤ 8) (hl : l.length ≤ m) : ∀ j v, (cW (told m l))[j]? = some v → w.cell? ⟨B, j, none⟩ = some v := by
  intro j v hv
  have hlen := told_len hl
  have hj : j < m * 2 := by
    have := (List.getElem?_eq_some_iff.1 hv).1
    rw [cW_len, hlen] at this
    exact this
  obtain ⟨a, b⟩ := h.cells (k := j / 2) (by omega)
  obtain ⟨c, d⟩ := cW_at (told m l) (j / 2) (by omega)
  rw [told_wk] at c d
  by_cases e : j % 2 = 0
  · rw [show j = j / 2 * 2 by omega] at hv ⊢
    rw [a, ← c, hv]
  · rw [show j = j / 2 * 2 + 1 by omega] at hv ⊢
    rw [b, ← d, hv]

set_option maxHeartbeats 2000000 in
theorem deliver_any (B n : Nat) (l : List Wk) (hO : Ok n l) (w : World) (hA : AtB w B n l) :
    Calls Try.prog 13 #[.pointer (some ⟨B, 0, none⟩)] w fun e w' => e = .returned (.slice (some ⟨w.heap.size, 0, none⟩) n n) ∧ w'.ownsRow w.heap.size 31 2 (.slice (some ⟨w.heap.size, 0, none⟩) n n) n (cW (told n l)) ∧ Now B n [] w w' := by
  obtain ⟨i0, hi, hz0, hz1, hz2⟩ := info_parts info31
  obtain ⟨c0, c1⟩ := hA.tops
  have h8 := hO.n8
  have hBlt := hA.lt
  have hmk : ∀ W : World, (Instr.makeSlice 22 (.int .i64 (n : Int)) (.int .i64 (n : Int))).run Try.prog W = .ok (.slice (some ⟨W.heap.size, 0, none⟩) n n) (W.alloc (.cells (madeCells #[Value.int .i64 0, .int .i64 0] (n * 2)) 31)) := fun W => by
    have h := run_make (P := Try.prog) W 22 31 i0 _ Try.underlying22 hi hz0 .i64 .i64 n n (by omega) (by omega) (by rw [hz2]; omega) (by omega)
    simp only [Int.toNat_natCast, hz1] at h
    exact h
  have hsz : (Try.prog.info? 31).map (·.size) = some 2 := by rw [hi]; simpa using hz1
  obtain ⟨zs, hzs⟩ : ∃ zs, zs = madeCells #[Value.int .i64 0, .int .i64 0] (n * 2) := ⟨_, rfl⟩
  have hzl : zs.size = n * 2 := by rw [hzs, size_madeCells]
  rw [← hzs] at hmk
  clear hzs hi hz0 hz1 hz2
  have hb := below1 w (.cells zs 31)
  have hA1 := hA.below hb
  obtain ⟨xs, hxs⟩ : ∃ xs, xs = cW (told n l) := ⟨_, rfl⟩
  have hxl : xs.length = n * 2 := by rw [hxs, cW_len, told_len hO.len]
  have hcp : ∀ ty, (Builtin.copy_ #[22, 22] ty #[.slice (some ⟨w.heap.size, 0, none⟩) n n, .slice (some ⟨B, 0, none⟩) 8 8]).run Try.prog (w.alloc (.cells zs 31)) = .ok (goInt n) ((w.alloc (.cells zs 31)).setRow w.heap.size xs.toArray) := fun ty => by
    have h := run_copy_wide Try.prog (w.alloc (.cells zs 31)) 22 22 ty 31 2 w.heap.size 0 n n n ⟨B, 0, none⟩ 8 8 zs 31 xs Try.underlying22 hsz (heap_alloc_new _ _) (by show n = min 8 n; omega) (by rw [hxl])
      (fun j v hv => by
        rw [hxs] at hv
        have := hA1.front h8 hO.len j v hv
        have e : (⟨B, 0, none⟩ : Addr).add j = ⟨B, j, none⟩ := by unfold Addr.add; split <;> simp_all
        rw [e]; exact this) (by rw [hxl, hzl]; omega) (by rw [hxs]; exact cW_ones _)
    rw [h]
    congr 2
    rw [hxl, List.drop_of_length_le (by rw [Array.length_toList, hzl]; omega)]
    simp
  obtain ⟨W2, hW2⟩ : ∃ W2, W2 = (w.alloc (.cells zs 31)).setRow w.heap.size xs.toArray := ⟨_, rfl⟩
  rw [← hW2] at hcp
  have hrow : W2.heap[w.heap.size]? = some (.cells xs.toArray 31 (0, 0)) := by rw [hW2]; exact setRow_heap _ _ _ _ _ _ (heap_alloc_new _ _)
  have hB2 : Below w.heap.size w W2 := by rw [hW2]; exact below_setRow hb (Nat.le_refl _) _
  have hA2 := hA.below hB2
  obtain ⟨d0, d1⟩ := hA2.tops
  obtain ⟨g0, g1⟩ := hA2.cells (k := 0) (by omega)
  simp only [Nat.reduceMul, Nat.reduceAdd] at g0 g1
  obtain ⟨g2, g3⟩ := hA2.cells (k := 1) (by omega)
  simp only [Nat.reduceMul, Nat.reduceAdd] at g2 g3
  obtain ⟨g4, g5⟩ := hA2.cells (k := 2) (by omega)
  simp only [Nat.reduceMul, Nat.reduceAdd] at g4 g5
  obtain ⟨g6, g7⟩ := hA2.cells (k := 3) (by omega)
  simp only [Nat.reduceMul, Nat.reduceAdd] at g6 g7
  obtain ⟨g8, g9⟩ := hA2.cells (k := 4) (by omega)
  simp only [Nat.reduceMul, Nat.reduceAdd] at g8 g9
  obtain ⟨g10, g11⟩ := hA2.cells (k := 5) (by omega)
  simp only [Nat.reduceMul, Nat.reduceAdd] at g10 g11
  obtain ⟨g12, g13⟩ := hA2.cells (k := 6) (by omega)
  simp only [Nat.reduceMul, Nat.reduceAdd] at g12 g13
  obtain ⟨g14, g15⟩ := hA2.cells (k := 7) (by omega)
  simp only [Nat.reduceMul, Nat.reduceAdd] at g14 g15
  have f0 := hA2.frozen 0
  have f1 := hA2.frozen 1
  have f2 := hA2.frozen 2
  have f3 := hA2.frozen 3
  have f4 := hA2.frozen 4
  have f5 := hA2.frozen 5
  have f6 := hA2.frozen 6
  have f7 := hA2.frozen 7
  have f8 := hA2.frozen 8
  have f9 := hA2.frozen 9
  have f10 := hA2.frozen 10
  have f11 := hA2.frozen 11
  have f12 := hA2.frozen 12
  have f13 := hA2.frozen 13
  have f14 := hA2.frozen 14
  have f15 := hA2.frozen 15
  have f16 := hA2.frozen 16
  have f17 := hA2.frozen 17
  generalize (wk l 0).t = a0 at *
  generalize (wk l 0).e = a1 at *
  generalize (wk l 1).t = a2 at *
  generalize (wk l 1).e = a3 at *
  generalize (wk l 2).t = a4 at *
  generalize (wk l 2).e = a5 at *
  generalize (wk l 3).t = a6 at *
  generalize (wk l 3).e = a7 at *
  generalize (wk l 4).t = a8 at *
  generalize (wk l 4).e = a9 at *
  generalize (wk l 5).t = a10 at *
  generalize (wk l 5).e = a11 at *
  generalize (wk l 6).t = a12 at *
  generalize (wk l 6).e = a13 at *
  generalize (wk l 7).t = a14 at *
  generalize (wk l 7).e = a15 at *
  have HX := hide hxs
  have HL := hide hxl
  have HA2 := hide hA2
  have HB2 := hide hB2
  have HR := hide hrow
  clear hxs hxl hsz hA1 hA2 hB2 hrow hb hzl hW2 hA
  go_enter Try.func13, Try.ntmps13
  go_wp2_with fail
  go_ret
  have hown : W2.ownsRow w.heap.size 31 2 (.slice (some ⟨w.heap.size, 0, none⟩) n n) n (cW (told n l)) :=
    ⟨by rw [← HX.out, HL.out], Or.inr ⟨w.heap.size, n, xs.toArray, rfl, Nat.le_refl _, HR.out, Nat.le_refl _, by unfold maxLen; omega, by simpa using HL.out, by rw [← HX.out, List.take_of_length_le (by simp [HL.out])]⟩⟩
  have ht := sets_turn B (noneOf n) 0 W2 W2 (Turn.refl _ _)
  have hBl := hBlt
  refine ⟨rfl, ?_, HA2.out.clr, (Turn.of_below HB2.out).trans ht⟩
  exact ⟨hown.1, by
    rcases hown.2 with ⟨h, _⟩ | ⟨g, cap, cur, e, hb, hh, r⟩
    · cases h
    · cases e
      exact Or.inr ⟨w.heap.size, n, cur, rfl, hb, (ht.block w.heap.size (Array.getElem?_eq_some_iff.1 hh).1 (by omega)).trans hh, r⟩⟩

end Go.Proofs.Ytiookbmffdmdeaa
