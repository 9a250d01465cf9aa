/-
  Lists that a law gathers beside an arena, as they lie in memory; and a list of acts that is handed in.
-/
import Derived.Test.YtngaecfainhjcaaAStale
import Derived.Test.YtngaecfainhjcaaAWornWalk
namespace Go.Proofs.Ytngaecfainhjcaa.A
open Go.RowKit

def cB (l : List Bool) : List Value := l.map fun b => Value.bool b
theorem cB_snoc (l : List Bool) (b : Bool) : cB (l ++ [b]) = cB l ++ [.bool b] := by simp [cB]
theorem cB_set (l : List Bool) (k : Nat) : cB (l.set k true) = (cB l).set k (.bool true) := by simp [cB]

/-- What a call owns, of another kind than an arena's blocks, is another block. -/
theorem own_other {w : World} {B P : Nat} {s : Ar} {base e size n : Nat} {v : Value} {xs : List Value} (hA : AtA w B P s) (h : w.ownsRow base e size v n xs) (h1 : e ≠ 57) (h2 : e ≠ 59) : ∀ k, v.ownBlock = some k → k ≠ B ∧ k ≠ P := by
  intro k hk
  rcases h.2 with ⟨rfl, _⟩ | ⟨g, cap, cur, rfl, _, hh, _⟩
  · simp [Value.ownBlock] at hk
  · simp [Value.ownBlock] at hk
    subst hk
    refine ⟨fun x => ?_, fun x => ?_⟩
    · subst x
      have := hA.box.symm.trans hh
      simp at this
      exact h1 this.2.symm
    · subst x
      obtain ⟨cs, c1, _⟩ := hA.row
      have := c1.symm.trans hh
      simp at this
      exact h2 this.2.symm
theorem owns_turn {w w' : World} {B P : Nat} {s : Ar} {base e size n : Nat} {v : Value} {xs : List Value} (hA : AtA w B P s) (h : w.ownsRow base e size v n xs) (h1 : e ≠ 57) (h2 : e ≠ 59) (ht : Turn B P w w') : w'.ownsRow base e size v n xs := by
  have ho := own_other hA h h1 h2
  refine ⟨h.1, ?_⟩
  rcases h.2 with h3 | ⟨g, cap, cur, rfl, hb, hh, r⟩
  · exact Or.inl h3
  · obtain ⟨n1, n2⟩ := ho g rfl
    exact Or.inr ⟨g, cap, cur, rfl, hb, (ht.block g (Array.getElem?_eq_some_iff.1 hh).1 n1 n2).trans hh, r⟩
theorem AtA.grown {w w' : World} {B P : Nat} {s : Ar} {base e size n : Nat} {v : Value} {xs : List Value} (hA : AtA w B P s) (h : w.ownsRow base e size v n xs) (h1 : e ≠ 57) (h2 : e ≠ 59) (hg : w.grownBy w' v.ownBlock) : AtA w' B P s := by
  have ho := own_other hA h h1 h2
  exact hA.same (hg.block _ hA.ltB (fun x => (ho _ x.symm).1 rfl)) (hg.block _ hA.ltP (fun x => (ho _ x.symm).2 rfl))
theorem owns_below {w w' : World} {base e size n : Nat} {v : Value} {xs : List Value} (h : w.ownsRow base e size v n xs) (k : Below w.heap.size w w') : w'.ownsRow base e size v n xs := by
  refine ⟨h.1, ?_⟩
  rcases h.2 with h3 | ⟨g, cap, cur, rfl, hb, hh, r⟩
  · exact Or.inl h3
  · exact Or.inr ⟨g, cap, cur, rfl, hb, (k.block g (Array.getElem?_eq_some_iff.1 hh).1).trans hh, r⟩
/-- A row of another element type is another block. -/
theorem row_other {w w' : World} {b1 b2 e1 e2 s1 s2 n1 n2 : Nat} {v u : Value} {xs ys : List Value} (h : w.ownsRow b1 e1 s1 v n1 xs) (k : w.ownsRow b2 e2 s2 u n2 ys) (hne : e1 ≠ e2) (hg : w.grownBy w' u.ownBlock) : w'.ownsRow b1 e1 s1 v n1 xs := by
  refine h.kept hg ?_
  rcases h.2 with ⟨rfl, _⟩ | ⟨g, cap, cur, rfl, _, hh, _⟩
  · exact .inl rfl
  · rcases k.2 with ⟨rfl, _⟩ | ⟨g', cap', cur', rfl, _, hh', _⟩
    · right; simp [Value.ownBlock]
    · right
      simp only [Value.ownBlock, ne_eq, Option.some.injEq]
      intro e; subst e
      rw [hh] at hh'
      cases hh'
      exact hne rfl

/-- An arena, the handles that were answered, and which of them were given back. -/
structure St (w : World) (base B P : Nat) (s : Ar) (gv bv : Value) (gs : List Nat) (bk : List Bool) : Prop where
  a : AtA w B P s
  g : w.ownsRow base 3 1 gv gs.length (cI gs)
  b : w.ownsRow base 4 1 bv bk.length (cB bk)
theorem St.below {w w' : World} {base B P : Nat} {s : Ar} {gv bv : Value} {gs : List Nat} {bk : List Bool} (h : St w base B P s gv bv gs bk) (k : Below w.heap.size w w') : St w' base B P s gv bv gs bk := ⟨h.a.below k, owns_below h.g k, owns_below h.b k⟩
theorem St.now {w w' : World} {base B P : Nat} {s s' : Ar} {gv bv : Value} {gs : List Nat} {bk : List Bool} (h : St w base B P s gv bv gs bk) (k : Now B P s' w w') : St w' base B P s' gv bv gs bk :=
  ⟨k.1, owns_turn h.a h.g (by decide) (by decide) k.2, owns_turn h.a h.b (by decide) (by decide) k.2⟩
theorem St.open {w : World} {base B P : Nat} {s : Ar} {gv bv : Value} {gs : List Nat} {bk : List Bool} (h : St w base B P s gv bv gs bk) (hl : gs.length = bk.length) (h0 : 0 < gs.length) :
    ∃ g1 c1 g2 c2, gv = .slice (some ⟨g1, 0, none⟩) gs.length c1 ∧ bv = .slice (some ⟨g2, 0, none⟩) bk.length c2 ∧ base ≤ g1 ∧ base ≤ g2 ∧ g1 < w.heap.size ∧ g2 < w.heap.size ∧ g1 ≠ B ∧ g1 ≠ P ∧ g2 ≠ B ∧ g2 ≠ P ∧ g1 ≠ g2 ∧
      (∀ k, k < gs.length → w.cell? ⟨g1, k, none⟩ = some (.int .i64 ((gs_ gs k : Nat) : Int)) ∧ w.cell? ⟨g2, k, none⟩ = some (.bool (bk_ bk k)) ∧ w.frozen? ⟨g2, k, none⟩ = false) := by
  have hg := h.g
  have hb := h.b
  have og := own_other h.a h.g (by decide) (by decide)
  have ob := own_other h.a h.b (by decide) (by decide)
  rcases h.g.2 with ⟨_, h1⟩ | ⟨g1, c1, cur1, rfl, hb1, hh1, r1⟩
  · omega
  rcases h.b.2 with ⟨_, h1⟩ | ⟨g2, c2, cur2, rfl, hb2, hh2, r2⟩
  · omega
  refine ⟨g1, c1, g2, c2, rfl, rfl, hb1, hb2, (Array.getElem?_eq_some_iff.1 hh1).1, (Array.getElem?_eq_some_iff.1 hh2).1, (og g1 rfl).1, (og g1 rfl).2, (ob g2 rfl).1, (ob g2 rfl).2, ?_, fun k hk => ⟨?_, ?_, ?_⟩⟩
  · intro e
    subst e
    rw [hh1] at hh2
    cases hh2
  · rw [hg.cellAt k (by omega)]
    simp [cI, gs_, hk]
  · rw [hb.cellAt k (by omega)]
    have : k < bk.length := by omega
    simp [cB, bk_, this]
  · exact hb.frozenAt k
/-- One more of the handles was given back. -/
theorem St.set {w : World} {base B P g2 c2 : Nat} {s : Ar} {gv : Value} {gs : List Nat} {bk : List Bool} (h : St w base B P s gv (.slice (some ⟨g2, 0, none⟩) bk.length c2) gs bk) (k : Nat) :
    St (w.setCell ⟨g2, k, none⟩ (.bool true)) base B P s gv (.slice (some ⟨g2, 0, none⟩) bk.length c2) gs (bk.set k true) := by
  obtain ⟨h1, h2⟩ := h.b.stored k (.bool true)
  refine ⟨h.a.grown h.b (by decide) (by decide) h2, row_other h.g h.b (by decide) h2, ?_⟩
  rw [cB_set, List.length_set]
  exact h1
theorem St.app_g {w w3 : World} {base B P : Nat} {s : Ar} {gv bv v : Value} {gs : List Nat} {bk : List Bool} {o : Obj} {H : Nat} (h : St w base B P s gv bv gs bk) (hown : w3.ownsRow base 3 1 v (gs.length + 1) (cI gs ++ [.int .i64 (H : Int)])) (hg : (w.alloc o).grownBy w3 gv.ownBlock) : St w3 base B P s v bv (gs ++ [H]) bk := by
  have h' : St (w.alloc o) base B P s gv bv gs bk := h.below ((Below.refl _ _).alloc (Nat.le_refl _) _)
  refine ⟨h'.a.grown h'.g (by decide) (by decide) hg, ?_, row_other h'.b h'.g (by decide) hg⟩
  rw [cI_snoc, List.length_append]
  exact hown
theorem St.app_b {w w3 : World} {base B P : Nat} {s : Ar} {gv bv v : Value} {gs : List Nat} {bk : List Bool} {o : Obj} {b : Bool} (h : St w base B P s gv bv gs bk) (hown : w3.ownsRow base 4 1 v (bk.length + 1) (cB bk ++ [.bool b])) (hg : (w.alloc o).grownBy w3 bv.ownBlock) : St w3 base B P s gv v gs (bk ++ [b]) := by
  have h' : St (w.alloc o) base B P s gv bv gs bk := h.below ((Below.refl _ _).alloc (Nat.le_refl _) _)
  refine ⟨h'.a.grown h'.b (by decide) (by decide) hg, row_other h'.g h'.b (by decide) hg, ?_⟩
  rw [cB_snoc, List.length_append]
  exact hown
theorem Turn.cell {B P : Nat} {a b : World} (h : Turn B P a b) {k o : Nat} (hk : k < a.heap.size) (h1 : k ≠ B) (h2 : k ≠ P) : b.cell? ⟨k, o, none⟩ = a.cell? ⟨k, o, none⟩ := World.cell?_of_block (w := a) (h.block k hk h1 h2)
theorem Turn.frozen {B P : Nat} {a b : World} (h : Turn B P a b) {k o : Nat} (hk : k < a.heap.size) (h1 : k ≠ B) (h2 : k ≠ P) : b.frozen? ⟨k, o, none⟩ = a.frozen? ⟨k, o, none⟩ := World.frozen?_of_block (w := a) (h.block k hk h1 h2)

/-- A list of acts as it lies in memory. -/
def Acts (w : World) (ad : Option Addr) (len : Nat) : Prop := ∀ i, i < len → ∃ b off, ∃ d h n : Int, ad = some ⟨b, off, none⟩ ∧ b < w.heap.size ∧
  w.cell? ⟨b, off + i * 3, none⟩ = some (.int .u8 d) ∧ w.cell? ⟨b, off + i * 3 + 1, none⟩ = some (.int .i64 h) ∧ w.cell? ⟨b, off + i * 3 + 2, none⟩ = some (.int .u8 n) ∧ (0 ≤ d ∧ d ≤ 255) ∧ (-9223372036854775808 ≤ h ∧ h ≤ 9223372036854775807) ∧ (0 ≤ n ∧ n ≤ 255)
theorem Acts.below {w w' : World} {ad : Option Addr} {len : Nat} (h : Acts w ad len) (k : Below w.heap.size w w') : Acts w' ad len := fun i hi => by
  obtain ⟨b, off, d, x, n, h1, h2, h3, h4, h5, h6⟩ := h i hi
  exact ⟨b, off, d, x, n, h1, Nat.lt_of_lt_of_le h2 k.size, (k.cell (p := ⟨b, _, none⟩) h2).trans h3, (k.cell (p := ⟨b, _, none⟩) h2).trans h4, (k.cell (p := ⟨b, _, none⟩) h2).trans h5, h6⟩

end Go.Proofs.Ytngaecfainhjcaa.A
