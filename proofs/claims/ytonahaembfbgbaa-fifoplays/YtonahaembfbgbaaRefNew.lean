/-
  What the document's held and New come to; appends in regions that draw their order.
-/
import Derived.Test.YtonahaembfbgbaaRef
namespace Go.Proofs.Ytonahaembfbgbaa
open Go.RowKit

section
variable {P : Program} (w : World)
/-- 'append' onto a row that the call owns, of whatever number, as one step of a region that draws its order. -/
theorem step_append_any {ops : Array Oper} {o : Oper} {a : Act} {K : Act → World → Prop} {Q : Exit → Act → World → Prop} {E : Prop} (hgd : o.guard = none) (s x : Operand) (t : TypeId)
    (ho : o.op = .call { callee := .builtin .append, args := #[s, x], argTypes := #[t, t] })
    (base : Nat) (e : TypeId) (i : TypeInfo) (z : Value) (size bytes : Nat) (ht : P.underlying t = some (.slice e)) (hi : P.info? e = some i) (hz : i.zero = some z)
    (hsize : i.size = size) (hby : i.bytes = bytes) (hzs : z.cells.size = size) (hsz : 0 < size)
    (v : Value) (n : Nat) (xs : List Value) (hs : a.eval s = v) (hown : w.ownsRow base e size v n xs)
    (ad : Addr) (m c : Nat) (news : List Value) (hx : a.eval x = .slice (some ad) m c) (hl : news.length = m * size) (hnews : ∀ j u, news[j]? = some u → w.cell? (ad.add j) = some u) (h1 : ∀ u ∈ news, u.oneCell' = true)
    (h63 : n + m ≤ maxLen) (hbytes : (n + m) * bytes ≤ 140737488355328) (hbase : base ≤ w.heap.size)
    (h : ∀ ad' cap' w', w'.ownsRow base e size (.slice ad' (n + m) cap') (n + m) (xs ++ news) → w.grownBy w' v.ownBlock → ((Value.slice ad' (n + m) cap').ownBlock = v.ownBlock ∨ (Value.slice ad' (n + m) cap').ownBlock = some w.heap.size) → K (a.put o.dst (.slice ad' (n + m) cap')) w') :
    if Region.wanted o (yielded ops a.tmps) = true then Oper.wp P o a w K Q else E := by
  have hw : Region.wanted o (yielded ops a.tmps) = true := by simp [Region.wanted, hgd]
  rw [if_pos hw]
  obtain ⟨v', w', hr, h2, h3, _, h5⟩ := run_append_own_at (P := P) w base t o.type e i z size bytes ht hi hz hsize hby hzs hsz v n xs hown ad m c news hl hnews h1 h63 hbytes hbase
  obtain ⟨ad', cap', rfl⟩ := owns_slice h2
  unfold Oper.wp execOp
  simp only [ho, resolve, invoke, builtin, Sem.run_bind, Sem.run_pure, Result.andThen_ok, List.map_toArray, List.map_cons, List.map_nil, hs, hx, hr]
  exact h ad' cap' w' h2 h3 h5
end

/-- The cells of a row's first numbers. -/
theorem news_row {W : World} {g : Nat} {l : List Nat} (h : ∀ k, k < l.length → W.cell? ⟨g, k, none⟩ = some (.int .i64 ((gs_ l k : Nat) : Int))) (m : Nat) (hm : m ≤ l.length) : ∀ j u, (cI (l.take m))[j]? = some u → W.cell? ((⟨g, 0, none⟩ : Addr).add j) = some u := by
  intro j u hj
  have hjl : j < m := by
    have := (List.getElem?_eq_some_iff.1 hj).1
    rw [cI_len, List.length_take] at this
    omega
  have hadd : (⟨g, 0, none⟩ : Addr).add j = ⟨g, j, none⟩ := by unfold Addr.add; split <;> simp_all
  have hjl' : j < l.length := by omega
  rw [hadd, h j hjl', ← hj]
  simp [cI, gs_, hjl, hjl']
theorem ones_row (l : List Nat) : ∀ u ∈ cI l, u.oneCell' = true := by
  intro u hu
  simp [cI] at hu
  obtain ⟨a, _, rfl⟩ := hu
  rfl

section
variable {P : Program} (w : World)
/-- 'append' onto a new row in which there is nothing. -/
theorem step_copy_any {ops : Array Oper} {o : Oper} {a : Act} {K : Act → World → Prop} {Q : Exit → Act → World → Prop} {E : Prop} (hgd : o.guard = none) (s x : Operand) (t : TypeId)
    (ho : o.op = .call { callee := .builtin .append, args := #[s, x], argTypes := #[t, t] })
    (base : Nat) (e : TypeId) (i : TypeInfo) (z : Value) (size bytes : Nat) (ht : P.underlying t = some (.slice e)) (hi : P.info? e = some i) (hz : i.zero = some z)
    (hsize : i.size = size) (hby : i.bytes = bytes) (hzs : z.cells.size = size) (hsz : 0 < size)
    (v : Value) (hs : a.eval s = v) (hown : w.ownsRow base e size v 0 [])
    (ad : Addr) (m c : Nat) (news : List Value) (hx : a.eval x = .slice (some ad) m c) (hl : news.length = m * size) (hnews : ∀ j u, news[j]? = some u → w.cell? (ad.add j) = some u) (h1 : ∀ u ∈ news, u.oneCell' = true)
    (h63 : m ≤ maxLen) (hbytes : m * bytes ≤ 140737488355328) (hbase : base ≤ w.heap.size)
    (h : ∀ ad' cap' w', w'.ownsRow base e size (.slice ad' m cap') m news → w.grownBy w' v.ownBlock → ((Value.slice ad' m cap').ownBlock = v.ownBlock ∨ (Value.slice ad' m cap').ownBlock = some w.heap.size) → K (a.put o.dst (.slice ad' m cap')) w') :
    if Region.wanted o (yielded ops a.tmps) = true then Oper.wp P o a w K Q else E := by
  refine step_append_any w hgd s x t ho base e i z size bytes ht hi hz hsize hby hzs hsz v 0 [] hs hown ad m c news hx hl hnews h1 (by omega) (by simpa using hbytes) hbase ?_
  intro ad' cap' w' h2 h3 h4
  simp only [Nat.zero_add, List.nil_append] at h2 h4 ⊢
  exact h ad' cap' w' h2 h3 h4
end

theorem below_new {w W1 w5 : World} (h : Below w.heap.size w W1) (hg : W1.grownBy w5 (some w.heap.size)) : Below w.heap.size w w5 :=
  h.grown hg h.size (fun k hk => by injection hk with hk; omega)


theorem info37 : (Try.prog.info? 37).map (fun i => (i.zero, i.size, i.bytes)) = some (some (.slice none 0 0), 1, 24) := by kernel_rfl

set_option maxHeartbeats 400000 in
theorem held_any (n : Int) (w : World) : Calls Try.prog 24 #[.int .i64 n] w fun e w' => e = .returned (.int .i64 (heldN n : Int)) ∧ w' = w := by
  by_cases h1 : n < 0
  · have e : heldN n = 0 := by unfold heldN; omega
    rw [e]
    go_enter Try.func24, Try.ntmps24
    go_wp2
    go_ret
    exact ⟨rfl, rfl⟩
  · by_cases h2 : 32 < n
    · have e : heldN n = 32 := by unfold heldN; omega
      rw [e]
      go_enter Try.func24, Try.ntmps24
      go_wp2
      go_ret
      exact ⟨rfl, rfl⟩
    · have e : ((heldN n : Nat) : Int) = n := by unfold heldN; omega
      rw [e]
      go_enter Try.func24, Try.ntmps24
      go_wp2
      go_ret
      exact ⟨rfl, rfl⟩

theorem refNew_at {w w' : World} {cs : Array Value} {nq ni : Nat} (hc : cs = madeCells #[Value.slice none 0 0] nq) (h1 : w'.heap[w.heap.size]? = some (.cells cs 37 (0, 0))) (h2 : w'.heap[w.heap.size + 1]? = some (.cells #[.slice (some ⟨w.heap.size, 0, none⟩) nq nq, .int .i64 (ni : Int)] 35 (0, 0))) :
    AtR w' (w.heap.size + 1) w.heap.size (newOf nq ni) (fun _ => .slice none 0 0) := by
  refine ⟨h2, ⟨cs, h1, by rw [hc, size_madeCells]; rfl, fun k hk => ?_⟩, fun k _ => World.ownsRow_nil _ _ _ _⟩
  have hk' : k < nq := hk
  rw [hc]
  simp [madeCells, hk', Nat.mod_one]

set_option maxHeartbeats 2000000 in
theorem refNew_any (queues items : Int) (w : World) :
    Calls Try.prog 9 #[.int .i64 queues, .int .i64 items] w fun e w' => e = .returned (.pointer (some ⟨w.heap.size + 1, 0, none⟩)) ∧ AtR w' (w.heap.size + 1) w.heap.size (newOf (heldN queues) (heldN items)) (fun _ => .slice none 0 0) ∧ Below w.heap.size w w' := by
  have b1 := heldN_le queues
  have hb1 := fun W => held_any queues W
  have hb2 := fun W => held_any items W
  generalize heldN queues = nq at *
  generalize heldN items = ni at *
  obtain ⟨i0, hi, hz0, hz1, hz2⟩ := info_parts info37
  have hmk : ∀ W : World, (Instr.makeSlice 33 (.int .i64 (nq : Int)) (.int .i64 (nq : Int))).run Try.prog W = .ok (.slice (some ⟨W.heap.size, 0, none⟩) nq nq) (W.alloc (.cells (madeCells #[Value.slice none 0 0] nq) 37)) := fun W => by
    have h := run_make (P := Try.prog) W 33 37 i0 _ Try.underlying33 hi hz0 .i64 .i64 nq nq (by omega) (by omega) (by rw [hz2]; omega) (by omega)
    simp only [Int.toNat_natCast, hz1, Nat.mul_one] at h
    exact h
  obtain ⟨cs, hcs⟩ : ∃ cs, cs = madeCells #[Value.slice none 0 0] nq := ⟨_, rfl⟩
  have HC : Hid (cs = madeCells #[Value.slice none 0 0] nq) := hcs
  rw [← hcs] at hmk
  clear hcs hi hz0 hz1 hz2
  go_enter Try.func9, Try.ntmps9
  go_wp2_with fail
  go_region_with (go_at_call 24; first | (with_reducible refine (hb1 _).mono ?_; rintro e w1 ⟨rfl, hw1⟩; have hw1' := hw1.symm; clear hw1; subst hw1') | (with_reducible refine (hb2 _).mono ?_; rintro e w2 ⟨rfl, hw2⟩; have hw2' := hw2.symm; clear hw2; subst hw2'))
  all_goals
    go_wp2
    go_ret
    have a1 : ((w.alloc (.cells cs 37)).alloc (.cells #[.slice (some ⟨w.heap.size, 0, none⟩) nq nq, .int .i64 (ni : Int)] 35)).heap[w.heap.size]? = some (.cells cs 37 (0, 0)) := (Lib.alloc_old _ _ _ (by simp)).trans (heap_alloc_new _ _)
    have a2 : ((w.alloc (.cells cs 37)).alloc (.cells #[.slice (some ⟨w.heap.size, 0, none⟩) nq nq, .int .i64 (ni : Int)] 35)).heap[w.heap.size + 1]? = some (.cells #[.slice (some ⟨w.heap.size, 0, none⟩) nq nq, .int .i64 (ni : Int)] 35 (0, 0)) := by
      rw [show w.heap.size + 1 = (w.alloc (.cells cs 37)).heap.size by simp]; exact heap_alloc_new _ _
    exact ⟨rfl, refNew_at HC.out a1 a2, (((Below.refl _ _).alloc (Nat.le_refl _) _).alloc (by simp) _).drew⟩

end Go.Proofs.Ytonahaembfbgbaa
