/-
  What policy.Parse comes to: the policy of any text, or what is wrong, and where.
-/
import Derived.Test.YtmhjoomkeidcaaaDoorPSpec
namespace Go.Proofs.YtmhjoomkeidcaaaDoor
open Go.RowKit L2
open L3 (Wd cellsW ansOf)

theorem parse_over {l : List UInt8} (h : (ansOf l).e ≠ 0) : parseOf l = ((ansOf l).e, (ansOf l).line, pol0) := if_pos h
theorem parse_rows {l : List UInt8} (h : (ansOf l).e = 0) : parseOf l = finish (rowsN (ansOf l).list.length pol0 (ansOf l).list) := if_neg (fun hh => hh h)

/-- A box of three lists, all of which are laid anew. -/
theorem three_set {w w1 : World} {B : Nat} {x y z : Value} {T : TypeId} (h : w1.heap[B]? = some (.cells #[x, y, z] T (0, 0))) (hb : Below w.heap.size w w1) (hB : w.heap.size ≤ B) (a b c : Value) :
    (((w1.setCell ⟨B, 0, none⟩ a).setCell ⟨B, 1, none⟩ b).setCell ⟨B, 2, none⟩ c).heap[B]? = some (.cells #[a, b, c] T (0, 0)) ∧ Below w.heap.size w (((w1.setCell ⟨B, 0, none⟩ a).setCell ⟨B, 1, none⟩ b).setCell ⟨B, 2, none⟩ c) :=
  ⟨Lib.heap_setCell_same (Lib.heap_setCell_same (Lib.heap_setCell_same h a) b) c, ((hb.setCell hB _).setCell hB _).setCell hB _⟩

/-- What Parse hands back out of its box. -/
theorem parse_ret {w W : World} {B : Nat} {t : Array Value} {a1 a2 a3 : Option Addr} {n1 n2 n3 c1 c2 c3 line e : Nat} {R : Nat × Nat × Pol} {p : Pol} (h : W.heap[B]? = some (.cells #[.slice a1 n1 c1, .slice a2 n2 c2, .slice a3 n3 c3] 26 (0, 0))) (hb : Below w.heap.size w W) (hh : Held W a1 a2 a3 c1 c2 c3 p)
    (hR : R = (e, line, p)) (h1 : n1 = p.ds.length) (h2 : n2 = p.ss.length) (h3 : n3 = p.ls.length)
    (e2 : t[2]? = some (.pointer (some ⟨B, 0, none⟩)) := by rfl) (e3 : t[3]? = some (.int .i64 line) := by rfl) (e4 : t[4]? = some (.int .i64 e) := by rfl) :
    bodyPost Tryd.prog Tryd.f15 (PSaid w R) Exit.ret { tmps := t, defers := [] } W := by
  subst hR h1 h2 h3
  obtain ⟨q0, q1, q2, _⟩ := blk_cells h
  exact bodyPost_ret (v := .tuple #[.agg #[.slice a1 p.ds.length c1, .slice a2 p.ss.length c2, .slice a3 p.ls.length c3], .int .i64 line, .int .i64 e]) (by simp [results, Tryd.results15, go_sem, e2, e3, e4, q0, q1, q2]) rfl ⟨a1, a2, a3, c1, c2, c3, rfl, hh, hb⟩

set_option maxHeartbeats 1000000 in
theorem parse_bad (s : ByteArray) (h : (ansOf s.data.toList).e ≠ 0) (w : World) : Calls Tryd.prog 15 #[.string s] w (PSaid w (parseOf s.data.toList)) := by
  rw [parse_over h]
  have H := fun w => L3.words_any s w
  generalize ansOf s.data.toList = A at *
  obtain ⟨L, E, P, Q⟩ := A
  have hE : ((E : Int) != 0) = true := by simp; exact h
  clear h
  go_enter Tryd.func15, Tryd.ntmps15
  go_wp2_with fail
  refine (H _).mono ?_
  rintro e w1 ⟨v, rfl, _, hB⟩
  have hb : w1.heap[w.heap.size]? = some (.cells #[.slice none 0 0, .slice none 0 0, .slice none 0 0] 26 (0, 0)) := (hB.block _ (by simp)).trans (alloc_at _ _)
  obtain ⟨k0, k1, k2, f0, f1, f2⟩ := blk_cells hb
  have hB1 : Below w.heap.size w w1 := (below1 _ _).trans (hB.mono (by simp))
  obtain ⟨hs, hbs⟩ := three_set hb hB1 (Nat.le_refl _) (.slice none 0 0) (.slice none 0 0) (.slice none 0 0)
  clear hb hB
  go_wp2
  exact parse_ret hs hbs (held_none _) rfl rfl rfl rfl

end Go.Proofs.YtmhjoomkeidcaaaDoor
