/-
  What fifo's Len comes to, and the iterator's word for a queue that there is not, or of no queues.
-/
import Derived.Test.YtonahaembfbgbaaIter
namespace Go.Proofs.Ytonahaembfbgbaa
open Go.RowKit Go.Shelf
attribute [local go_sem] Oper.semAt_some

/-- What is gone through, of queues or of none. -/
def Gives (p : Option Addr) (k : Int) (L : List Nat) (w : World) : Prop :=
  (∃ B P s, p = some ⟨B, 0, none⟩ ∧ Ok s ∧ AtQ w B P s ∧ L = allOf s k) ∨ (p = none ∧ L = [])
theorem Gives.below {p : Option Addr} {k : Int} {L : List Nat} {w w' : World} (h : Gives p k L w) (hb : Below w.heap.size w w') : Gives p k L w' := by
  rcases h with ⟨B, P, s, h1, h2, h3, h4⟩ | h
  · exact .inl ⟨B, P, s, h1, h2, h3.below hb, h4⟩
  · exact .inr h

set_option maxRecDepth 100000 in
set_option maxHeartbeats 2000000 in
theorem iter_no (n : Nat) (hn : 1 ≤ n) (l Bq Bk : Nat) (p : Option Addr) (k : Int) (J Jx : List Nat → World → Prop) (B0 : Nat) (hJ : AbidesFrom B0 J) (W : World) (hQ : Calls Try.prog 26 #[.pointer p, .int .i64 k] W fun e w' => e = .returned (.bool false) ∧ Drawn W w')
    (cq : W.cell? ⟨Bq, 0, none⟩ = some (.pointer p)) (ck : W.cell? ⟨Bk, 0, none⟩ = some (.int .i64 k)) (h0 : J [] W) :
    CallsIn Fence.wide n Try.prog 28 #[.func (.yield l) #[] #[], .pointer (some ⟨Bq, 0, none⟩), .pointer (some ⟨Bk, 0, none⟩)] W fun e W' => (∃ v, e = .returned v) ∧
      ((∃ ys, ys = [] ∧ J ys W') ∨ (∃ p, (∃ j, j < ([] : List Nat).length ∧ p = ([] : List Nat).take (j + 1)) ∧ Jx p W')) := by
  refine callsIn_of_wp Try.func28 rfl trivial ?_ rfl
  simp only [Try.ntmps28, List.size_toArray, List.length_cons, List.length_nil, Nat.reduceAdd, Nat.reduceSub, Array.replicate_succ, Array.replicate_zero, List.push_toArray, List.append_toArray, List.nil_append, List.cons_append]
  gi_wp2_with (refine ⟨trivial, ?_⟩; gi_at_call 26; refine (callsIn_wide.2 hQ).mono ?_; rintro e' w1 ⟨rfl, hD⟩)
  refine bodyPost_ret (results_none rfl _ _ _) rfl ?_
  exact ⟨⟨_, rfl⟩, .inl ⟨_, rfl, hJ _ _ _ none h0 (drawn_grown hD) (by simp)⟩⟩

theorem iter_stops (n : Nat) (hn : 1 ≤ n) (Bq Bk : Nat) (p : Option Addr) (k : Int) (L : List Nat) (S : Nat → Prop) (w0 w : World) (hg : Gives p k L w0) (hS : ∀ b, b < w0.heap.size → S b) (hSq : S Bq) (hb : Below w0.heap.size w0 w)
    (bq : Boxed w Bq 23 (.pointer p)) (bk : Boxed w Bk 3 (.int .i64 k)) :
    SeqStopsK Fence.wide n Try.prog 28 #[.pointer (some ⟨Bq, 0, none⟩), .pointer (some ⟨Bk, 0, none⟩)] enc (KeepS S) (fun ys => ys = L) (fun p => ∃ j, j < L.length ∧ p = L.take (j + 1)) L.length w := fun l J Jx W hW hJ _ hY h0 => by
  have hq : W.heap[Bq]? = some (.cells #[.pointer p] 23 (0, 0)) := (hW.block Bq bq.lt).trans bq
  have hk : W.heap[Bk]? = some (.cells #[.int .i64 k] 3 (0, 0)) := (hW.block Bk bk.lt).trans bk
  have hbW : Below w0.heap.size w0 W := hb.trans (hW.mono hb.size)
  rcases hg with ⟨B, P, s, rfl, hs, hA, rfl⟩ | ⟨rfl, rfl⟩
  · have hSB := hS B hA.ltB
    have hSP := hS P hA.ltP
    obtain ⟨f, hr, hF⟩ := hA.below hbW
    have b1 := hs.nq
    have b2 := hs.ni
    by_cases hkq : hasQ s k
    · obtain ⟨j, rfl⟩ : ∃ j : Nat, k = (j : Int) := ⟨k.toNat, by omega⟩
      have e : allOf s (j : Int) = s.l j := if_pos hkq
      rw [e] at hY ⊢
      exact iter_yes n hn l Bq Bk B P S s j f hs hr (by omega) hSq hSB hSP J Jx _ hJ hY W hq hk hF h0
    · have e : allOf s k = [] := if_neg hkq
      rw [e]
      exact iter_no n hn l Bq Bk _ k J Jx _ hJ W (hasQ_no B P _ _ f k (by omega) (by omega) (by omega) W hF) (Lib.cell_of_heap hq 0) (Lib.cell_of_heap hk 0) h0
  · exact iter_no n hn l Bq Bk _ k J Jx _ hJ W (hasQ_nil k W) (Lib.cell_of_heap hq 0) (Lib.cell_of_heap hk 0) h0

theorem boxed_keep {W W' : World} {row : Option Nat} {B : Nat} {t : TypeId} {v : Value} (h : Boxed W B t v) (hg : W.grownBy W' row) (hr : ∀ r, row = some r → ∃ o : Obj, W.heap[r]? = some o ∧ o.isCells = false) : Boxed W' B t v :=
  h.kept hg (fun e => by
    obtain ⟨o, ho, hc⟩ := hr B e.symm
    rw [show W.heap[B]? = _ from h] at ho; cases ho; cases hc)
theorem boxed_below {W W' : World} {n B : Nat} {t : TypeId} {v : Value} (h : Boxed W B t v) (hB : Below n W W') (hlt : B < n) : Boxed W' B t v := (hB.block B hlt).trans h

theorem below3 (w : World) (o1 o2 o3 : Obj) : Below w.heap.size w (((w.alloc o1).alloc o2).alloc o3) :=
  (((Below.refl _ _).alloc (Nat.le_refl _) _).alloc (by simp) _).alloc (by simp; omega) _

/-- The blocks that a body of All or Len leaves alone. -/
def Aside (m : Nat) (b : Nat) : Prop := b < m ∨ b = m + 1

set_option maxRecDepth 100000 in
set_option maxHeartbeats 2000000 in
theorem len_gives (p : Option Addr) (k : Int) (L : List Nat) (hL : L.length ≤ 1000) (w : World) (hg : Gives p k L w) :
    Calls Try.prog 18 #[.pointer p, .int .i64 k] w fun e W' => e = .returned (.int .i64 (L.length : Int)) ∧ Below w.heap.size w W' := by
  refine (callsIn_wide (n := 3)).1 ?_
  refine callsIn_of_wp_marks Try.func18 rfl trivial ?_ rfl
  simp only [Try.ntmps18, List.size_toArray, List.length_cons, List.length_nil, Nat.reduceAdd, Nat.reduceSub, Array.replicate_succ, Array.replicate_zero, List.push_toArray, List.append_toArray, List.nil_append, List.cons_append]
  gi_wp2_with (refine ⟨trivial, ?_⟩; gi_at_call 25; refine (in_in _ _ _ _).mono ?_; rintro e w' ⟨rfl, rfl⟩)
  have bN := ((Boxed.new w 3 (.int .i64 0)).alloc (.cells #[.pointer p] 23)).alloc (.cells #[.int .i64 k] 3)
  have bQ := (Boxed.new (w.alloc (.cells #[.int .i64 0] 3)) 23 (.pointer p)).alloc (.cells #[.int .i64 k] 3)
  have bK := Boxed.new ((w.alloc (.cells #[.int .i64 0] 3)).alloc (.cells #[.pointer p] 23)) 3 (.int .i64 k)
  simp only [World.size_alloc] at bQ bK
  have hB0 := below3 w (.cells #[.int .i64 0] 3) (.cells #[.pointer p] 23) (.cells #[.int .i64 k] 3)
  refine wpIn_rangeFunc_ownG rfl (by decide) (gf := 28) (lb := #[.pointer (some ⟨w.heap.size + 1, 0, none⟩), .pointer (some ⟨w.heap.size + 1 + 1, 0, none⟩)]) rfl trivial (enters_of Try.func28 (by kernel_rfl) rfl)
    (iter_stops 2 (by decide) (w.heap.size + 1) (w.heap.size + 1 + 1) p k L (Aside w.heap.size) w _ hg (fun b h => .inl h) (.inr rfl) hB0 bQ bK)
    (fun h k => h.trans k) (keepS_b) (Below.refl _ _) (fun _ => rfl)
    (fun pr W => Boxed W w.heap.size 3 (.int .i64 (pr.length : Int)) ∧ Below w.heap.size w W)
    (fun _ _ _ => False)
    (OwnFrom.and (Own.from (boxed_own w.heap.size 3 (fun pr : List Nat => Value.int .i64 (pr.length : Int))) _) (ownFrom_below (Nat.le_refl _) (by simp; omega)))
    (fun _ _ _ _ _ hs _ _ => hs)
    ⟨bN, hB0⟩
    (fun x => { tmps := #[.pointer p, .int .i64 k, undef, undef, .int .i64 0, .pointer (some ⟨w.heap.size, 0, none⟩), .pointer p, .int .i64 k, .func (.func 28) #[] #[.pointer (some ⟨w.heap.size + 1, 0, none⟩), .pointer (some ⟨w.heap.size + 1 + 1, 0, none⟩)], .int .i64 (x : Int), undef, undef, undef], defers := [] }) ?assign ?body ?done ?stop
  case assign =>
    intro l x W K hK
    unfold enc
    gi_wp2
    simpa using hK
  case body =>
    rintro l pr x W ⟨hb, hB⟩ hN
    have hc := hb.cell
    have hf := hb.frozen
    have hl : (pr ++ [x]).length = pr.length + 1 := by simp
    have hp0 : (0 : Int) ≤ (pr.length : Int) := by omega
    have hp1 : (pr.length : Int) < 1000 := by omega
    have HL : Hid (((pr ++ [x]).length : Int) = (pr.length : Int) + 1) := by show _ = _; omega
    clear hl hN
    generalize (pr.length : Int) = m at *
    gi_wp2
    refine ⟨(KeepsOthers.setCell _ _ _).from _, KeepS.setCell W _ _ (by unfold Aside; omega), ?_, hB.setCell (p := ⟨w.heap.size, 0, none⟩) (Nat.le_refl _) _⟩
    rw [HL.out]
    exact hb.set _
  case done =>
    rintro D ys W hD rfl ⟨hb, hB⟩ hK
    have hc := hb.cell
    gi_wp2
    refine ⟨by simp, .inl ⟨_, _, rfl, run_takeDeferred hK, ?_⟩⟩
    exact ⟨_, results_tmp rfl _ _ _, rfl, hB.trans (belowK_b (w := w) (Nat.le_refl _) W D _ _ (by simp at hD; omega) hK rfl rfl)⟩
  case stop =>
    rintro D c pre W _ _ h _
    exact h.elim

theorem len_any (B P : Nat) (s : Qs) (k : Int) (w : World) (hs : Ok s) (hA : AtQ w B P s) (hL : (allOf s k).length ≤ 1000) :
    Calls Try.prog 18 #[.pointer (some ⟨B, 0, none⟩), .int .i64 k] w fun e W' => e = .returned (.int .i64 ((allOf s k).length : Int)) ∧ Below w.heap.size w W' :=
  len_gives _ k _ hL w (.inl ⟨B, P, s, rfl, hs, hA, rfl⟩)
theorem len_nil (k : Int) (w : World) : Calls Try.prog 18 #[.pointer none, .int .i64 k] w fun e W' => e = .returned (.int .i64 0) ∧ Below w.heap.size w W' :=
  len_gives none k [] (by simp) w (.inr ⟨rfl, rfl⟩)

end Go.Proofs.Ytonahaembfbgbaa
