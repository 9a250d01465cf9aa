/-
  What the document's Set comes to.
-/
import Derived.Test.YtnciefdhgokffaaRefStop
import Derived.Deep.RegionLaw
import Derived.Deep.DrawnRows
import Derived.Deep.AppendLies
import Derived.Deep.CutBlock
namespace Go.Proofs.Ytnciefdhgokffaa
open Go.RowKit

/-- How many lead that are due no later. -/
def lead (A : Nat) : List (Nat × Nat) → Nat
  | [] => 0
  | p :: l => if p.2 ≤ A then lead A l + 1 else 0
theorem lead_le (A : Nat) : ∀ l : List (Nat × Nat), lead A l ≤ l.length
  | [] => Nat.le_refl _
  | p :: l => by have := lead_le A l; simp only [lead, List.length_cons]; split <;> omega
theorem lead_spec (A : Nat) : ∀ (l : List (Nat × Nat)) (k : Nat), k ≤ l.length → (∀ j, j < k → (gp l j).2 ≤ A) → (k < l.length → A < (gp l k).2) → lead A l = k
  | [], k, h, _, _ => by simp at h; subst h; rfl
  | p :: l, 0, _, _, h => by
    have h2 : A < p.2 := h (by simp)
    simp only [lead]; rw [if_neg (by omega)]
  | p :: l, k + 1, h, h1, h2 => by
    have h0 : p.2 ≤ A := h1 0 (by omega)
    simp only [lead]; rw [if_pos h0]
    rw [lead_spec A l k (by simpa using h) (fun j hj => by have := h1 (j + 1) (by omega); simpa [gp] using this) (fun hk => by have := h2 (by simpa using hk); simpa [gp] using this)]
def insR (l : List (Nat × Nat)) (id A : Nat) : List (Nat × Nat) := l.take (lead A l) ++ [(id, A)] ++ l.drop (lead A l)

section
variable {P : Program} (w : World)
/-- 'append' onto a row that the call owns, of whatever number, as one step of a region that draws its order. -/
theorem step_append_any {ops : Array Oper} {o : Oper} {a : Act} {K : Act → World → Prop} {Q : Exit → Act → World → Prop} {E : Prop} (hgd : o.guard = none) (s x : Operand) (t : TypeId)
    (ho : o.op = .call { callee := .builtin .append, args := #[s, x], argTypes := #[t, t] })
    (base : Nat) (e : TypeId) (i : TypeInfo) (z : Value) (size bytes : Nat) (ht : P.underlying t = some (.slice e)) (hi : P.info? e = some i) (hz : i.zero = some z)
    (hsize : i.size = size) (hby : i.bytes = bytes) (hzs : z.cells.size = size) (hsz : 0 < size)
    (v : Value) (n : Nat) (xs : List Value) (hs : a.eval s = v) (hown : w.ownsRow base e size v n xs)
    (ad : Addr) (m c : Nat) (news : List Value) (hx : a.eval x = .slice (some ad) m c) (hl : news.length = m * size) (hnews : ∀ j u, news[j]? = some u → w.cell? (ad.add j) = some u) (h1 : ∀ u ∈ news, u.oneCell' = true)
    (h63 : n + m ≤ maxLen) (hbytes : (n + m) * bytes ≤ 140737488355328) (hbase : base ≤ w.heap.size)
    (h : ∀ ad' cap' w', w'.ownsRow base e size (.slice ad' (n + m) cap') (n + m) (xs ++ news) → w.grownBy w' v.ownBlock → ((Value.slice ad' (n + m) cap').ownBlock = v.ownBlock ∨ (Value.slice ad' (n + m) cap').ownBlock = some w.heap.size) → K (a.put o.dst (.slice ad' (n + m) cap')) w') :
    if Region.wanted o (yielded ops a.tmps) = true then Oper.wp P o a w K Q else E := by
  have hw : Region.wanted o (yielded ops a.tmps) = true := by simp [Region.wanted, hgd]
  rw [if_pos hw]
  obtain ⟨v', w', hr, h2, h3, _, h5⟩ := run_append_own_at (P := P) w base t o.type e i z size bytes ht hi hz hsize hby hzs hsz v n xs hown ad m c news hl hnews h1 h63 hbytes hbase
  obtain ⟨ad', cap', rfl⟩ := owns_slice h2
  unfold Oper.wp execOp
  simp only [ho, resolve, invoke, builtin, Sem.run_bind, Sem.run_pure, Result.andThen_ok, List.map_toArray, List.map_cons, List.map_nil, hs, hx, hr]
  exact h ad' cap' w' h2 h3 h5
end

section
variable {P : Program} (w : World)
/-- 'append' onto a new row in which there is nothing. -/
theorem step_copy_any {ops : Array Oper} {o : Oper} {a : Act} {K : Act → World → Prop} {Q : Exit → Act → World → Prop} {E : Prop} (hgd : o.guard = none) (s x : Operand) (t : TypeId)
    (ho : o.op = .call { callee := .builtin .append, args := #[s, x], argTypes := #[t, t] })
    (base : Nat) (e : TypeId) (i : TypeInfo) (z : Value) (size bytes : Nat) (ht : P.underlying t = some (.slice e)) (hi : P.info? e = some i) (hz : i.zero = some z)
    (hsize : i.size = size) (hby : i.bytes = bytes) (hzs : z.cells.size = size) (hsz : 0 < size)
    (v : Value) (hs : a.eval s = v) (hown : w.ownsRow base e size v 0 [])
    (ad : Addr) (m c : Nat) (news : List Value) (hx : a.eval x = .slice (some ad) m c) (hl : news.length = m * size) (hnews : ∀ j u, news[j]? = some u → w.cell? (ad.add j) = some u) (h1 : ∀ u ∈ news, u.oneCell' = true)
    (h63 : m ≤ maxLen) (hbytes : m * bytes ≤ 140737488355328) (hbase : base ≤ w.heap.size)
    (h : ∀ ad' cap' w', w'.ownsRow base e size (.slice ad' m cap') m news → w.grownBy w' v.ownBlock → ((Value.slice ad' m cap').ownBlock = v.ownBlock ∨ (Value.slice ad' m cap').ownBlock = some w.heap.size) → K (a.put o.dst (.slice ad' m cap')) w') :
    if Region.wanted o (yielded ops a.tmps) = true then Oper.wp P o a w K Q else E := by
  refine step_append_any w hgd s x t ho base e i z size bytes ht hi hz hsize hby hzs hsz v 0 [] hs hown ad m c news hx hl hnews h1 (by omega) (by simpa using hbytes) hbase ?_
  intro ad' cap' w' h2 h3 h4
  simp only [Nat.zero_add, List.nil_append] at h2 h4 ⊢
  exact h ad' cap' w' h2 h3 h4
end

theorem cO_get {l : List (Nat × Nat)} {W : World} {g : Nat} (h : ∀ k, k < l.length → W.cell? ⟨g, k * 2, none⟩ = some (.int .i64 ((gp l k).1 : Int)) ∧ W.cell? ⟨g, k * 2 + 1, none⟩ = some (.int .i64 ((gp l k).2 : Int))) : ∀ j u, (cO l)[j]? = some u → W.cell? ⟨g, j, none⟩ = some u := by
  intro j u hj
  have hjl : j < l.length * 2 := by rw [← cO_len]; exact (List.getElem?_eq_some_iff.1 hj).1
  have hk : j / 2 < l.length := by omega
  obtain ⟨e1, e2⟩ := cO_at l (j / 2) hk
  obtain ⟨h1, h2⟩ := h (j / 2) hk
  by_cases m : j % 2 = 0
  · have : j = j / 2 * 2 := by omega
    rw [this] at hj ⊢
    rw [e1] at hj; rw [h1]; exact hj
  · have : j = j / 2 * 2 + 1 := by omega
    rw [this] at hj ⊢
    rw [e2] at hj; rw [h2]; exact hj
theorem cO_take (l : List (Nat × Nat)) (k : Nat) : cO (l.take k) = (cO l).take (k * 2) := by
  induction l generalizing k with
  | nil => simp [cO]
  | cons p l ih =>
    cases k with
    | zero => simp [cO]
    | succ k => rw [show (k + 1) * 2 = k * 2 + 1 + 1 by omega]; show _ :: _ :: cO (l.take k) = _ :: _ :: (cO l).take (k * 2); rw [ih]
theorem cO_drop (l : List (Nat × Nat)) (k : Nat) : cO (l.drop k) = (cO l).drop (k * 2) := by
  induction l generalizing k with
  | nil => simp [cO]
  | cons p l ih =>
    cases k with
    | zero => simp [cO]
    | succ k => rw [show (k + 1) * 2 = k * 2 + 1 + 1 by omega]; show cO (l.drop k) = (cO l).drop (k * 2); rw [ih]
theorem news_take {l : List (Nat × Nat)} {W : World} {g : Nat} (h : ∀ j u, (cO l)[j]? = some u → W.cell? ⟨g, j, none⟩ = some u) (k : Nat) : ∀ j u, (cO (l.take k))[j]? = some u → W.cell? ((⟨g, 0, none⟩ : Addr).add j) = some u := by
  intro j u hj
  have hadd : (⟨g, 0, none⟩ : Addr).add j = ⟨g, j, none⟩ := by unfold Addr.add; split <;> simp_all
  rw [hadd]
  rw [cO_take, List.getElem?_take] at hj
  split at hj
  · exact h j u hj
  · cases hj
theorem news_dropped {l : List (Nat × Nat)} {W : World} {g : Nat} (h : ∀ j u, (cO l)[j]? = some u → W.cell? ⟨g, j, none⟩ = some u) (k : Nat) : ∀ j u, (cO (l.drop k))[j]? = some u → W.cell? ((⟨g, k * 2, none⟩ : Addr).add j) = some u := by
  intro j u hj
  have hadd : (⟨g, k * 2, none⟩ : Addr).add j = ⟨g, k * 2 + j, none⟩ := by unfold Addr.add; split <;> simp_all <;> omega
  rw [hadd]
  rw [cO_drop, List.getElem?_drop] at hj
  exact h _ u hj

theorem AtR.get {w : World} {R g c : Nat} {M : Int} {l : List (Nat × Nat)} (h : AtR w R M (.slice (some ⟨g, 0, none⟩) l.length c) l) : ∀ j u, (cO l)[j]? = some u → w.cell? ⟨g, j, none⟩ = some u := by
  intro j u hj
  have hjl : j < l.length * 2 := by rw [← cO_len]; exact (List.getElem?_eq_some_iff.1 hj).1
  rw [h.row.cellAt j hjl]; exact hj
theorem left_of {A R : Prop} (h : A ∧ R) : A := h.1
theorem lit0 (w : World) : (w.alloc (.cells #[] 41)).ownsRow 0 41 2 (.slice (some ⟨w.heap.size, 0, none⟩) 0 0) 0 [] := World.ownsRow_lit w #[] 0 (Nat.zero_le _) (by unfold maxLen; omega) rfl
theorem new2 {W : World} {x : Nat} {a b : Int} (h0 : W.cell? ⟨x, 0, none⟩ = some (.int .i64 a)) (h1 : W.cell? ⟨x, 1, none⟩ = some (.int .i64 b)) : ∀ j u, [Value.int .i64 a, .int .i64 b][j]? = some u → W.cell? ((⟨x, 0, none⟩ : Addr).add j) = some u := by
  intro j u hj
  have hadd : (⟨x, 0, none⟩ : Addr).add j = ⟨x, j, none⟩ := by unfold Addr.add; split <;> simp_all
  rw [hadd]
  match j, hj with
  | 0, hj => simp at hj; subst hj; exact h0
  | 1, hj => simp at hj; subst hj; exact h1
  | n + 2, hj => simp at hj

set_option maxHeartbeats 4000000 in
theorem refSet_yes (R : Nat) (M : Int) (v : Value) (l : List (Nat × Nat)) (id : Nat) (t : Int) (hid : (id : Int) < M) (hl : l.length ≤ 100) (w : World) (hR : AtR w R M v l) :
    Calls Try.prog 16 #[.pointer (some ⟨R, 0, none⟩), .int .i64 (id : Int), .int .i64 t] w fun e w' => e = .returned (.bool true) ∧ NowR R M (insR (keepR (id : Int) l) id (holdN t)) w w' := by
  obtain ⟨i0, hi, hz0, hz1, hz2⟩ := info_parts info41
  obtain ⟨c0, _, _⟩ := hR.cells
  have HST := hide (refStop_any R M v l (id : Int) hl w hR)
  have hk1 := keep_len (id : Int) l
  generalize keepR (id : Int) l = l1 at *
  have hb := fun W => held_any t W
  rw [← holdN_int] at hb
  generalize holdN t = A at *
  have d1 : decide ((id : Int) < 0) = false := by simp
  have d2 : decide (M ≤ (id : Int)) = false := by simp; omega
  have HRw := hide hR
  clear hR
  go_enter Try.func16, Try.ntmps16
  go_upto_block 0 with (first | (go_at_call 14; refine HST.out.mono ?_; rintro e w1 ⟨rfl, v1, hR1, ht1, hn1⟩) | (go_at_call 21; refine (hb _).mono ?_; rintro e w2 ⟨rfl, hw2⟩; subst hw2))
  obtain ⟨g, c, rfl, hgl, hgc⟩ := hR1.solid hn1
  have HR1 := hide hR1
  have HT1 := hide ht1
  clear hR1 ht1 hn1 HST hb
  obtain ⟨W0, hW0⟩ : ∃ W0, W0 = w2.alloc (.cells #[.int .i64 (id : Int), .int .i64 (A : Int)] 41) := ⟨_, rfl⟩
  obtain ⟨d, hd⟩ : ∃ d, d = w2.heap.size := ⟨_, rfl⟩
  rw [← hW0, ← hd]
  have HB0 : Hid (Below w2.heap.size w2 W0) := hide (by rw [hW0]; exact (Below.refl _ _).alloc (Nat.le_refl _) _)
  have x0 : W0.cell? ⟨d, 0, none⟩ = some (.int .i64 (id : Int)) := by rw [hW0, hd]; simp
  have x1 : W0.cell? ⟨d, 1, none⟩ = some (.int .i64 (A : Int)) := by rw [hW0, hd]; simp
  have hdl : d < W0.heap.size := by rw [hW0, hd]; simp
  have HRW := hide (HR1.out.below HB0.out)
  have HKEEP : Hid (∀ W, Below W0.heap.size W0 W → W.cell? ⟨R, 1, none⟩ = some (.slice (some ⟨g, 0, none⟩) l1.length c) ∧ W.cell? ⟨d, 0, none⟩ = some (.int .i64 (id : Int)) ∧ W.cell? ⟨d, 1, none⟩ = some (.int .i64 (A : Int))) := hide (fun W h => ⟨(HRW.out.below h).cells.2.1, (h.cell (p := ⟨d, 0, none⟩) hdl).trans x0, (h.cell (p := ⟨d, 1, none⟩) hdl).trans x1⟩)
  clear hW0 hd x0 x1
  go_cut [8] (fun u w' => ∃ k : Nat, u = .int .i64 (k : Int) ∧ k ≤ l1.length ∧ Hid (lead A l1 = k) ∧ Below W0.heap.size W0 w')
  case first =>
    go_wp2_with fail
    go_loopw [8] (fun u wr => ∃ k : Nat, u = .int .i64 (k : Int) ∧ k ≤ l1.length ∧ Hid (∀ j, j < k → (gp l1 j).2 ≤ A) ∧ Below W0.heap.size W0 wr) (fun u _ => l1.length - (intOf u).toNat)
    case atStart => exact ⟨0, rfl, Nat.zero_le _, hide (fun j h => by omega), Below.refl _ _⟩
    case round =>
      obtain ⟨k, rfl, hk, HLE, hnx⟩ := hrel
      obtain ⟨r1, y0, y1⟩ := HKEEP.out wr hnx
      by_cases hlt : k < l1.length
      · obtain ⟨g', c', hv, _, _, hc⟩ := (HRW.out.below hnx).open (by omega)
        simp only [Value.slice.injEq, Option.some.injEq, Addr.mk.injEq, and_true, true_and] at hv
        obtain ⟨rfl, rfl⟩ := hv
        obtain ⟨q1, q2⟩ := hc k hlt
        have b1 : (k : Int) < (l1.length : Int) := by omega
        have b2 : decide (k < l1.length) = true := decide_eq_true hlt
        have b0 : (0 : Int) ≤ (k : Int) := by omega
        clear hc
        by_cases e : (gp l1 k).2 ≤ A
        · have HN2 : Hid (∀ j, j < k + 1 → (gp l1 j).2 ≤ A) := hide (fun j hj => by
            by_cases z : j = k
            · subst z; exact e
            · exact HLE.out j (by omega))
          have e1 : decide ((gp l1 k).2 ≤ A) = true := decide_eq_true e
          clear e
          generalize ((gp l1 k).1 : Int) = X at *
          generalize (gp l1 k).2 = Y at *
          go_wp2_with fail
          go_quiet (fail)
          go_wp2
          go_roundw
          case rel => exact ⟨k + 1, by go_num, by omega, HN2, hnx.trans ((below_drewN _ _).mono hnx.size)⟩
          case measure => simp [intOf]; omega
        · have HN2 : Hid (lead A l1 = k) := hide (lead_spec A l1 k hk HLE.out (fun _ => by omega))
          have e1 : decide ((gp l1 k).2 ≤ A) = false := decide_eq_false e
          clear e
          generalize ((gp l1 k).1 : Int) = X at *
          generalize (gp l1 k).2 = Y at *
          go_wp2_with fail
          go_quiet (fail)
          go_wp2_with fail
          go_meet
          exact ⟨k, rfl, hk, HN2, hnx.trans ((below_drewN _ _).mono hnx.size)⟩
      · have HN2 : Hid (lead A l1 = k) := hide (lead_spec A l1 k hk HLE.out (fun h => by omega))
        have b2 : decide (k < l1.length) = false := decide_eq_false hlt
        go_wp2_with fail
        go_quiet (fail)
        go_wp2_with fail
        go_meet
        exact ⟨k, rfl, hk, HN2, hnx.trans ((below_drewN _ _).mono hnx.size)⟩
  case rest =>
    obtain ⟨k, rfl, hk, HLD, hnx⟩ := hcut
    have hzz := hnx.size
    obtain ⟨r1, y0, y1⟩ := HKEEP.out wc hnx
    have HGET : Hid (∀ W, Below W0.heap.size W0 W → ∀ j u, (cO l1)[j]? = some u → W.cell? ⟨g, j, none⟩ = some u) := hide (fun W h => (HRW.out.below h).get)
    have HS : Hid (∀ W, Below W0.heap.size W0 W → Below W0.heap.size W0 W ∧ W.cell? ⟨R, 1, none⟩ = some (.slice (some ⟨g, 0, none⟩) l1.length c) ∧ W.cell? ⟨d, 0, none⟩ = some (.int .i64 (id : Int)) ∧ W.cell? ⟨d, 1, none⟩ = some (.int .i64 (A : Int))) := hide (fun W h => ⟨h, HKEEP.out W h⟩)
    have E1 := hide (lit0 wc).drew
    have E2 := hide (((lit0 wc).alloc (.cells #[.int .i64 (id : Int), .int .i64 (A : Int)] 41)).drew)
    have E3 : Hid (((wc.alloc (.cells #[.int .i64 (id : Int), .int .i64 (A : Int)] 41)).alloc (.cells #[] 41)).drew.ownsRow 0 41 2 (.slice (some ⟨wc.heap.size + 1, 0, none⟩) 0 0) 0 []) := hide (by have h := (lit0 (wc.alloc (.cells #[.int .i64 (id : Int), .int .i64 (A : Int)] 41))).drew; simpa using h)
    have XA : Hid (((wc.alloc (.cells #[.int .i64 (id : Int), .int .i64 (A : Int)] 41)).alloc (.cells #[] 41)).drew.cell? ⟨wc.heap.size, 0, none⟩ = some (.int .i64 (id : Int)) ∧ ((wc.alloc (.cells #[.int .i64 (id : Int), .int .i64 (A : Int)] 41)).alloc (.cells #[] 41)).drew.cell? ⟨wc.heap.size, 1, none⟩ = some (.int .i64 (A : Int))) := hide (by
      have hb := ((Below.refl (wc.alloc (.cells #[.int .i64 (id : Int), .int .i64 (A : Int)] 41)).heap.size (wc.alloc (.cells #[.int .i64 (id : Int), .int .i64 (A : Int)] 41))).alloc (Nat.le_refl _) (.cells #[] 41)).drew
      exact ⟨(hb.cell (p := ⟨wc.heap.size, 0, none⟩) (by simp)).trans (by simp), (hb.cell (p := ⟨wc.heap.size, 1, none⟩) (by simp)).trans (by simp)⟩)
    have k1 : (k : Int) ≤ (c : Int) := by omega
    have k2 : (0 : Int) ≤ (k : Int) := by omega
    have k3 : k ≤ c := by omega
    have hkl : k ≤ 100 := by omega
    have hlt : (l1.take k).length = k := by rw [List.length_take]; omega
    have HLT := hide hlt
    clear hlt
    go_wp2_with fail
    go_region_held3 (fun w' => Below W0.heap.size W0 w' ∧ w'.cell? ⟨R, 1, none⟩ = some (.slice (some ⟨g, 0, none⟩) l1.length c) ∧ w'.cell? ⟨d, 0, none⟩ = some (.int .i64 (id : Int)) ∧ w'.cell? ⟨d, 1, none⟩ = some (.int .i64 (A : Int)))
      (first | assumption | (refine HS.out _ ?_; repeat (first | assumption | refine Below.alloc ?_ (by first | omega | (simp <;> omega)) _ | refine Below.drew ?_)))
      (first
        | (refine step_copy_any _ (by rfl) _ _ _ (by rfl) 0 41 i0 _ 2 16 Try.underlying37 hi hz0 hz1 hz2 rfl (by omega) (.slice (some ⟨_, 0, none⟩) 0 0) (by rfl) (by first | exact E1.out | exact E2.out | exact E3.out) ⟨g, 0, none⟩ k _ (cO (l1.take k)) (by rfl) (by rw [cO_len, HLT.out]) (by exact news_take (HGET.out _ (left_of (by assumption))) k) (cO_one _) (by unfold maxLen; omega) (by omega) (Nat.zero_le _) ?_; intro ad5 cap5 w5 hown5 hgrow5 hat5; have hB5 : Below W0.heap.size W0 w5 := (Below.grown (left_of (by assumption)) hgrow5 (by first | omega | (simp <;> omega)) (by intro q hq; simp [Value.ownBlock] at hq; omega)); have hz5 := hB5.size; have hq5 : ∀ q, (Value.slice ad5 k cap5).ownBlock = some q → W0.heap.size ≤ q := (by intro q hq; rcases hat5 with h | h <;> (rw [hq] at h; simp [Value.ownBlock] at h; omega)))
        | (refine step_append_any _ (by rfl) _ _ _ (by rfl) 0 41 i0 _ 2 16 Try.underlying37 hi hz0 hz1 hz2 rfl (by omega) (.slice ad5 k cap5) k (cO (l1.take k)) (by rfl) (by first | exact hown5 | exact hown5.alloc _) ⟨_, 0, none⟩ 1 1 [.int .i64 (id : Int), .int .i64 (A : Int)] (by rfl) rfl (by first | (exact new2 (by simp; done) (by simp; done)) | (exact new2 ((World.cell?_of_block (hgrow5.block _ (by first | (simp; done) | (simp; omega)) (by first | (simp [Value.ownBlock]; done) | (simp [Value.ownBlock]; omega)))).trans (by first | exact XA.out.1 | (simp; done))) ((World.cell?_of_block (hgrow5.block _ (by first | (simp; done) | (simp; omega)) (by first | (simp [Value.ownBlock]; done) | (simp [Value.ownBlock]; omega)))).trans (by first | exact XA.out.2 | (simp; done))))) (by intro u hu; simp at hu; rcases hu with rfl | rfl <;> rfl) (by unfold maxLen; omega) (by omega) (Nat.zero_le _) ?_; intro ad6 cap6 w6 hown6 hgrow6 hat6; have hB6 : Below W0.heap.size W0 w6 := (Below.grown (left_of (by assumption)) hgrow6 (by first | omega | (simp <;> omega)) (by intro q hq; exact hq5 q hq)); have hz6 := hB6.size; have hq6 : ∀ q, (Value.slice ad6 (k + 1) cap6).ownBlock = some q → W0.heap.size ≤ q := (by intro q hq; rcases hat6 with h | h; exact hq5 q (h ▸ hq); (rw [hq] at h; simp at h; omega))))
    all_goals
      have HO6 : Hid (w6.ownsRow 0 41 2 (.slice ad6 (k + 1) cap6) (k + 1) (cO (l1.take k ++ [(id, A)]))) := hide (by rw [cO_snoc]; exact hown6)
      obtain ⟨r6, _, _⟩ := HKEEP.out w6 hB6
      have rf6 := (HRW.out.below hB6).cells.2.2
      have HG6 := hide (HGET.out w6 hB6)
      have HB6 := hide hB6
      have HQ6 := hide hq6
      clear hown5 hgrow5 hat5 hown6 hgrow6 hat6 hB5 hB6 hq5 hq6 E1 E2 E3 XA HGET HS hz5 r1 y0 y1 hnx
      by_cases hck : c = k
      · have hck2 : (c == k) = true := by simp [hck]
        have hkn : (k : Int) ≤ (l1.length : Int) := by omega
        have hnc : (l1.length : Int) ≤ (c : Int) := by omega
        go_wp2_with (at_builtin; refine wpList_append_own _ rfl _ _ 37 rfl 0 41 i0 (.agg #[.int .i64 0, .int .i64 0]) 2 16 Try.underlying37 hi hz0 hz1 hz2 rfl (by decide) _ _ _ rfl HO6.out ⟨g, 0, none⟩ (l1.length - k) _ (cO (l1.drop k)) rfl ?c1 ?c2 ?c3 ?c4 ?c5 ?c6 ?_)
        case c1 => rw [cO_len, List.length_drop]
        case c2 => rw [List.drop_eq_nil_of_le (by omega)]; intro j u hj; simp [cO] at hj
        case c3 => exact cO_one _
        case c4 => unfold maxLen; omega
        case c5 => omega
        case c6 => exact Nat.zero_le _
        · intro v7 w7 hown7 hgrow7 hnn7
          obtain ⟨a7, c7, rfl⟩ := owns_slice hown7
          have hB7 : Below W0.heap.size W0 w7 := Below.grown HB6.out hgrow7 hz6 (fun q hq => HQ6.out q hq)
          obtain ⟨r7, _, _⟩ := HKEEP.out w7 hB7
          have rf7 := (HRW.out.below hB7).cells.2.2
          have hlen7 : k + 1 + (l1.length - k) = (insR l1 id A).length := by unfold insR; rw [HLD.out]; simp [HLT.out]; omega
          have HO7 : Hid (w7.ownsRow 0 41 2 (.slice a7 (k + 1 + (l1.length - k)) c7) (insR l1 id A).length (cO (insR l1 id A))) := hide (by
            rw [← hlen7]
            unfold insR
            rw [HLD.out, cO_append]; exact hown7)
          have HF : Hid (NowR R M (insR l1 id A) w (w7.setCell ⟨R, 1, none⟩ (.slice a7 (k + 1 + (l1.length - k)) c7))) := hide (by
            have hb2 : Below w2.heap.size w2 w7 := HB0.out.trans (hB7.mono HB0.out.size)
            exact ⟨_, HR1.out.store hb2 HO7.out, HT1.out.trans ((Turn.of_below hb2).set _ _), hnn7⟩)
          clear hown7 hgrow7 hnn7 hlen7 HO7 hB7 HO6 HG6 HB6 HQ6
          go_wp2
          go_ret
          exact ⟨rfl, HF.out⟩
      · have hck2 : (c == k) = false := by simp [hck]
        have hkn : (k : Int) ≤ (l1.length : Int) := by omega
        have hnc : (l1.length : Int) ≤ (c : Int) := by omega
        go_wp2_with (at_builtin; refine wpList_append_own _ rfl _ _ 37 rfl 0 41 i0 (.agg #[.int .i64 0, .int .i64 0]) 2 16 Try.underlying37 hi hz0 hz1 hz2 rfl (by decide) _ _ _ rfl HO6.out ⟨g, k * 2, none⟩ (l1.length - k) (c - k) (cO (l1.drop k)) rfl ?c1 ?c2 ?c3 ?c4 ?c5 ?c6 ?_)
        case c1 => rw [cO_len, List.length_drop]
        case c2 => exact news_dropped HG6.out k
        case c3 => exact cO_one _
        case c4 => unfold maxLen; omega
        case c5 => omega
        case c6 => exact Nat.zero_le _
        · intro v7 w7 hown7 hgrow7 hnn7
          obtain ⟨a7, c7, rfl⟩ := owns_slice hown7
          have hB7 : Below W0.heap.size W0 w7 := Below.grown HB6.out hgrow7 hz6 (fun q hq => HQ6.out q hq)
          obtain ⟨r7, _, _⟩ := HKEEP.out w7 hB7
          have rf7 := (HRW.out.below hB7).cells.2.2
          have hlen7 : k + 1 + (l1.length - k) = (insR l1 id A).length := by unfold insR; rw [HLD.out]; simp [HLT.out]; omega
          have HO7 : Hid (w7.ownsRow 0 41 2 (.slice a7 (k + 1 + (l1.length - k)) c7) (insR l1 id A).length (cO (insR l1 id A))) := hide (by
            rw [← hlen7]
            unfold insR
            rw [HLD.out, cO_append]; exact hown7)
          have HF : Hid (NowR R M (insR l1 id A) w (w7.setCell ⟨R, 1, none⟩ (.slice a7 (k + 1 + (l1.length - k)) c7))) := hide (by
            have hb2 : Below w2.heap.size w2 w7 := HB0.out.trans (hB7.mono HB0.out.size)
            exact ⟨_, HR1.out.store hb2 HO7.out, HT1.out.trans ((Turn.of_below hb2).set _ _), hnn7⟩)
          clear hown7 hgrow7 hnn7 hlen7 HO7 hB7 HO6 HG6 HB6 HQ6
          go_wp2
          go_ret
          exact ⟨rfl, HF.out⟩

end Go.Proofs.Ytnciefdhgokffaa
