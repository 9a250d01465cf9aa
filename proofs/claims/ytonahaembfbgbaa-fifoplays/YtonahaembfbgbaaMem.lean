/-
  Lists that a law gathers beside queues, as they lie in memory; and two rows that hold the same.
-/
import Derived.Test.YtonahaembfbgbaaAwake
namespace Go.Proofs.Ytonahaembfbgbaa
open Go.RowKit

theorem hide {p : Prop} (h : p) : Hid p := h
def gs_ (gs : List Nat) (k : Nat) : Nat := gs.getD k 0

/-- What a call owns, of another kind than the queues' blocks, is another block. -/
theorem own_other {w : World} {B P : Nat} {s : Qs} {base e size n : Nat} {v : Value} {xs : List Value} (hA : AtQ w B P s) (h : w.ownsRow base e size v n xs) (h1 : e ≠ 48) (h2 : e ≠ 50) : ∀ k, v.ownBlock = some k → k ≠ B ∧ k ≠ P := by
  intro k hk
  obtain ⟨f, _, hA⟩ := hA
  rcases h.2 with ⟨rfl, _⟩ | ⟨g, cap, cur, rfl, _, hh, _⟩
  · simp [Value.ownBlock] at hk
  · simp [Value.ownBlock] at hk
    subst hk
    refine ⟨fun x => ?_, fun x => ?_⟩
    · subst x
      have := hA.box.symm.trans hh
      simp at this
      exact h1 this.2.symm
    · subst x
      obtain ⟨cs, c1, _⟩ := hA.row
      have := c1.symm.trans hh
      simp at this
      exact h2 this.2.symm
theorem owns_turn {w w' : World} {B P : Nat} {s : Qs} {base e size n : Nat} {v : Value} {xs : List Value} (hA : AtQ w B P s) (h : w.ownsRow base e size v n xs) (h1 : e ≠ 48) (h2 : e ≠ 50) (ht : Turn B P w w') : w'.ownsRow base e size v n xs := by
  have ho := own_other hA h h1 h2
  refine ⟨h.1, ?_⟩
  rcases h.2 with h3 | ⟨g, cap, cur, rfl, hb, hh, r⟩
  · exact Or.inl h3
  · obtain ⟨n1, n2⟩ := ho g rfl
    exact Or.inr ⟨g, cap, cur, rfl, hb, (ht.block g (Array.getElem?_eq_some_iff.1 hh).1 n1 n2).trans hh, r⟩
theorem AtQ.grown {w w' : World} {B P : Nat} {s : Qs} {base e size n : Nat} {v : Value} {xs : List Value} (hA : AtQ w B P s) (h : w.ownsRow base e size v n xs) (h1 : e ≠ 48) (h2 : e ≠ 50) (hg : w.grownBy w' v.ownBlock) : AtQ w' B P s := by
  have ho := own_other hA h h1 h2
  exact hA.same (hg.block _ hA.ltB (fun x => (ho _ x.symm).1 rfl)) (hg.block _ hA.ltP (fun x => (ho _ x.symm).2 rfl))
theorem owns_below {w w' : World} {base e size n : Nat} {v : Value} {xs : List Value} (h : w.ownsRow base e size v n xs) (k : Below w.heap.size w w') : w'.ownsRow base e size v n xs := by
  refine ⟨h.1, ?_⟩
  rcases h.2 with h3 | ⟨g, cap, cur, rfl, hb, hh, r⟩
  · exact Or.inl h3
  · exact Or.inr ⟨g, cap, cur, rfl, hb, (k.block g (Array.getElem?_eq_some_iff.1 hh).1).trans hh, r⟩
/-- A row of another element type is another block. -/
theorem row_other {w w' : World} {b1 b2 e1 e2 s1 s2 n1 n2 : Nat} {v u : Value} {xs ys : List Value} (h : w.ownsRow b1 e1 s1 v n1 xs) (k : w.ownsRow b2 e2 s2 u n2 ys) (hne : e1 ≠ e2) (hg : w.grownBy w' u.ownBlock) : w'.ownsRow b1 e1 s1 v n1 xs := by
  refine h.kept hg ?_
  rcases h.2 with ⟨rfl, _⟩ | ⟨g, cap, cur, rfl, _, hh, _⟩
  · exact .inl rfl
  · rcases k.2 with ⟨rfl, _⟩ | ⟨g', cap', cur', rfl, _, hh', _⟩
    · right; simp [Value.ownBlock]
    · right
      simp only [Value.ownBlock, ne_eq, Option.some.injEq]
      intro e; subst e
      rw [hh] at hh'
      cases hh'
      exact hne rfl

theorem Turn.cell {B P : Nat} {a b : World} (h : Turn B P a b) {k o : Nat} (hk : k < a.heap.size) (h1 : k ≠ B) (h2 : k ≠ P) : b.cell? ⟨k, o, none⟩ = a.cell? ⟨k, o, none⟩ := World.cell?_of_block (w := a) (h.block k hk h1 h2)
theorem Turn.frozen {B P : Nat} {a b : World} (h : Turn B P a b) {k o : Nat} (hk : k < a.heap.size) (h1 : k ≠ B) (h2 : k ≠ P) : b.frozen? ⟨k, o, none⟩ = a.frozen? ⟨k, o, none⟩ := World.frozen?_of_block (w := a) (h.block k hk h1 h2)

theorem row_open {w : World} {base : Nat} {v : Value} {l : List Nat} (h : w.ownsRow base 3 1 v l.length (cI l)) (h0 : 0 < l.length) :
    ∃ g c, v = .slice (some ⟨g, 0, none⟩) l.length c ∧ base ≤ g ∧ g < w.heap.size ∧ (∀ k, k < l.length → w.cell? ⟨g, k, none⟩ = some (.int .i64 ((gs_ l k : Nat) : Int)) ∧ w.frozen? ⟨g, k, none⟩ = false) ∧ l.length ≤ c := by
  have h' := h
  rcases h.2 with ⟨_, h1⟩ | ⟨g, c, cur, rfl, hb, hh, hc, _⟩
  · omega
  refine ⟨g, c, rfl, hb, (Array.getElem?_eq_some_iff.1 hh).1, fun k hk => ⟨?_, h'.frozenAt k⟩, hc⟩
  rw [h'.cellAt k (by omega)]
  simp [cI, gs_, hk]

/-- Queues, and a list of numbers. -/
structure St (w : World) (base B P : Nat) (s : Qs) (v : Value) (ws : List Nat) : Prop where
  a : AtQ w B P s
  g : w.ownsRow base 3 1 v ws.length (cI ws)
theorem St.below {w w' : World} {base B P : Nat} {s : Qs} {v : Value} {ws : List Nat} (h : St w base B P s v ws) (k : Below w.heap.size w w') : St w' base B P s v ws := ⟨h.a.below k, owns_below h.g k⟩
theorem St.now {w w' : World} {base B P : Nat} {s s' : Qs} {v : Value} {ws : List Nat} (h : St w base B P s v ws) (k : Now B P s' w w') : St w' base B P s' v ws := ⟨k.1, owns_turn h.a h.g (by decide) (by decide) k.2⟩
theorem St.app {w w3 : World} {base B P : Nat} {s : Qs} {v v' : Value} {ws : List Nat} {o : Obj} {H : Nat} (h : St w base B P s v ws) (hown : w3.ownsRow base 3 1 v' (ws.length + 1) (cI ws ++ [.int .i64 (H : Int)])) (hg : (w.alloc o).grownBy w3 v.ownBlock) : St w3 base B P s v' (ws ++ [H]) := by
  have h' : St (w.alloc o) base B P s v ws := h.below ((Below.refl _ _).alloc (Nat.le_refl _) _)
  refine ⟨h'.a.grown h'.g (by decide) (by decide) hg, ?_⟩
  rw [cI_snoc, List.length_append]
  exact hown
theorem below_owns {W a b : World} {n : Nat} {o : Obj} {base e size m : Nat} {v : Value} {xs : List Value} (h : Below n W a) (hn : n ≤ a.heap.size) (hown : a.ownsRow base e size v m xs) (hb : n ≤ base) (hg : (a.alloc o).grownBy b v.ownBlock) : Below n W b :=
  (h.alloc hn o).grown hg (by simp; omega) (fun j hj => Nat.le_trans hb (hown.lt j hj).1)

theorem kept_apart {w w' : World} {b e size n : Nat} {v : Value} {xs : List Value} {row : Option Nat} (h : w.ownsRow b e size v n xs) (hg : w.grownBy w' row) (hr : ∀ g, row = some g → g < b) : w'.ownsRow b e size v n xs := by
  refine ⟨h.1, ?_⟩
  rcases h.2 with h3 | ⟨g, cap, cur, rfl, hb, hh, r⟩
  · exact Or.inl h3
  · exact Or.inr ⟨g, cap, cur, rfl, hb, (hg.block g (Array.getElem?_eq_some_iff.1 hh).1 (fun e => by have := hr g e.symm; omega)).trans hh, r⟩

/-- An append that is asked for only where a test came out so: it did. -/
theorem wpList_append_asked {p : Program} (w : World) {ops : Array Oper} {rest : List Oper} {o : Oper} {a : Act} {Q : Exit → Act → World → Prop} (hgd : Region.wanted o (yielded ops a.tmps) = true) (s x : Operand) (t : TypeId)
    (ho : o.op = .call { callee := .builtin .append, args := #[s, x], argTypes := #[t, t] })
    (base : Nat) (e : TypeId) (i : TypeInfo) (z : Value) (size bytes : Nat) (ht : p.underlying t = some (.slice e)) (hi : p.info? e = some i) (hz : i.zero = some z)
    (hsize : i.size = size) (hby : i.bytes = bytes) (hzs : z.cells.size = size) (hsz : 0 < size)
    (v : Value) (n : Nat) (xs : List Value) (hs : a.eval s = v) (hown : w.ownsRow base e size v n xs)
    (ad : Addr) (m c : Nat) (news : List Value) (hx : a.eval x = .slice (some ad) m c) (hl : news.length = m * size) (hnews : ∀ j u, news[j]? = some u → w.cell? (ad.add j) = some u) (h1 : ∀ u ∈ news, u.oneCell' = true)
    (h63 : n + m ≤ maxLen) (hbytes : (n + m) * bytes ≤ 140737488355328) (hbase : base ≤ w.heap.size)
    (h : ∀ v' w', w'.ownsRow base e size v' (n + m) (xs ++ news) → w.grownBy w' v.ownBlock → (v' = .slice none 0 0 ↔ v = .slice none 0 0 ∧ m = 0) → wpList p ops Q rest (a.put o.dst v') w') : wpList p ops Q (o :: rest) a w :=
  wpList_step fun K hK => by
    rw [if_pos hgd]
    exact wp_append_own w s x t ho base e i z size bytes ht hi hz hsize hby hzs hsz v n xs hs hown ad m c news hx hl hnews h1 h63 hbytes hbase fun v' w' h2 h3 h4 => hK _ _ (h v' w' h2 h3 h4)

set_option maxHeartbeats 1000000 in
/-- Two rows that hold the same. -/
theorem ints_same (a1 a2 : Option Addr) (c1 c2 : Nat) (b1 b2 : Nat) (l : List Nat) (w : World) (hl : l.length ≤ 100) (h1 : w.ownsRow b1 3 1 (.slice a1 l.length c1) l.length (cI l)) (h2 : w.ownsRow b2 3 1 (.slice a2 l.length c2) l.length (cI l)) :
    Calls Try.prog 16 #[.slice a1 l.length c1, .slice a2 l.length c2] w fun e w' => e = .returned (.bool true) ∧ Below w.heap.size w w' := by
  have H1 := hide h1
  have H2 := hide h2
  clear h1 h2
  go_enter Try.func16, Try.ntmps16
  go_wp2
  go_loopw [5] (fun i wr => ∃ k : Nat, k ≤ l.length ∧ i = .int .i64 k ∧ Below w.heap.size w wr) (fun i _ => l.length - (intOf i).toNat)
  case atStart => exact ⟨0, Nat.zero_le _, rfl, Below.refl _ _⟩
  case round =>
    obtain ⟨k, hk, rfl, hnx⟩ := hrel
    by_cases hlt : k < l.length
    · obtain ⟨g1, d1, hv1, _, _, e1, _⟩ := row_open (owns_below H1.out hnx) (by omega)
      obtain ⟨g2, d2, hv2, _, _, e2, _⟩ := row_open (owns_below H2.out hnx) (by omega)
      simp only [Value.slice.injEq, true_and] at hv1 hv2
      obtain ⟨rfl, rfl⟩ := hv1
      obtain ⟨rfl, rfl⟩ := hv2
      obtain ⟨q1, _⟩ := e1 k hlt
      obtain ⟨q2, _⟩ := e2 k hlt
      have b1 : (k : Int) < (l.length : Int) := by omega
      have b0 : (0 : Int) ≤ (k : Int) := by omega
      clear e1 e2
      generalize gs_ l k = X at *
      go_wp2_with fail
      go_quiet (fail)
      go_wp2
      go_roundw
      case rel => exact ⟨k + 1, by omega, by go_num, hnx.trans ((below_drewN _ _).mono hnx.size)⟩
      case measure => simp [intOf]; omega
    · go_wp2
      go_ret
      exact ⟨rfl, hnx⟩

end Go.Proofs.Ytonahaembfbgbaa
