/-
  The document's arena in memory: what a store, and a new row, make of it.
-/
import Derived.Test.YtngaecfainhjcaaARef
import Derived.Deep.RegionLaw
import Derived.Deep.DrawnRows
import Derived.Deep.AppendLies
import Derived.Deep.DeepCutAuto
namespace Go.Proofs.Ytngaecfainhjcaa.A
open Go.RowKit

/-- All blocks but some are as they were. -/
structure Mov (S : Nat → Prop) (a b : World) : Prop where
  os : b.os = a.os
  tape : b.tape = a.tape
  output : b.output = a.output
  size : a.heap.size ≤ b.heap.size
  block : ∀ k, k < a.heap.size → ¬ S k → b.heap[k]? = a.heap[k]?
theorem Mov.refl (S : Nat → Prop) (a : World) : Mov S a a := ⟨rfl, rfl, rfl, Nat.le_refl _, fun _ _ _ => rfl⟩
theorem Mov.of_below {S : Nat → Prop} {a b : World} (h : Below a.heap.size a b) : Mov S a b := ⟨h.os, h.tape, h.output, h.size, fun k hk _ => h.block k hk⟩
theorem Mov.then_below {S : Nat → Prop} {a b c : World} (h : Mov S a b) (k : Below b.heap.size b c) : Mov S a c := ⟨k.os.trans h.os, k.tape.trans h.tape, k.output.trans h.output, Nat.le_trans h.size k.size, fun i hi hS => (k.block i (Nat.lt_of_lt_of_le hi h.size)).trans (h.block i hi hS)⟩
theorem Mov.set {S : Nat → Prop} {a b : World} (h : Mov S a b) {p : Addr} (hp : S p.block) (v : Value) : Mov S a (b.setCell p v) :=
  ⟨h.os, h.tape, h.output, by simpa using h.size, fun k hk hS => (Below.heap_setCell b p v k (fun e => hS (e ▸ hp))).trans (h.block k hk hS)⟩
theorem Mov.below {S : Nat → Prop} {a b : World} {n : Nat} (h : Mov S a b) (hn : n ≤ a.heap.size) (hS : ∀ k, S k → n ≤ k) : Below n a b :=
  ⟨h.os, h.tape, h.output, h.size, fun k hk => h.block k (by omega) (fun e => by have := hS k e; omega)⟩

/-- The blocks of the document's arena. -/
def Mine (R : Nat) (v1 v2 v3 : Value) (k : Nat) : Prop := k = R ∨ v1.ownBlock = some k ∨ v2.ownBlock = some k ∨ v3.ownBlock = some k

theorem AtR.boxfar {w : World} {R base : Nat} {v1 v2 v3 : Value} {r : Rf} (h : AtR w R base v1 v2 v3 r) {v : Value} {n : Nat} {xs : List Value} (ho : w.ownsRow base 3 1 v n xs) : v.ownBlock ≠ some R := by
  intro e
  rcases ho.2 with ⟨rfl, _⟩ | ⟨g, cap, cur, rfl, _, hh, _⟩
  · simp [Value.ownBlock] at e
  · simp [Value.ownBlock] at e
    subst e
    have := h.box.symm.trans hh
    simp at this

theorem owns_far {w w' : World} {base e size n : Nat} {v : Value} {xs : List Value} (h : w.ownsRow base e size v n xs) (hk : ∀ k, v.ownBlock = some k → w'.heap[k]? = w.heap[k]?) : w'.ownsRow base e size v n xs := by
  refine ⟨h.1, ?_⟩
  rcases h.2 with h3 | ⟨g, cap, cur, rfl, hb, hh, r⟩
  · exact Or.inl h3
  · exact Or.inr ⟨g, cap, cur, rfl, hb, (hk g rfl).trans hh, r⟩
theorem ne_of {v u : Value} (h : ∀ k, v.ownBlock = some k → u.ownBlock ≠ some k) : ∀ k, u.ownBlock = some k → v.ownBlock ≠ some k := fun k hu hv => h k hv hu

/-- The places that were given back are another row now. -/
theorem AtR.setBack {w w5 : World} {R base : Nat} {v1 v2 v3 v3' : Value} {r : Rf} {bs : List Nat} (h : AtR w R base v1 v2 v3 r) (hb : Below w.heap.size w w5) (ho : w5.ownsRow base 3 1 v3' bs.length (cI bs)) (hnew : ∀ k, v3'.ownBlock = some k → w.heap.size ≤ k) :
    AtR (w5.setCell ⟨R, 2, none⟩ v3') R base v1 v2 v3' { r with back := bs } := by
  have h5 := h.below hb
  have l := h.lt
  have key : ∀ {v : Value} {n : Nat} {xs : List Value}, w5.ownsRow base 3 1 v n xs → (w5.setCell ⟨R, 2, none⟩ v3').ownsRow base 3 1 v n xs := fun hh =>
    owns_far hh fun k hk => Below.heap_setCell _ _ _ _ (fun e => h5.boxfar hh (by rw [hk, e]))
  exact ⟨Lib.heap_setCell_same h5.box v3', key h5.g, key h5.n, key ho, h.gn, fun k hk e => by have := (h.g.lt k hk).2; have := hnew k e; omega, fun k hk e => by have := (h.n.lt k hk).2; have := hnew k e; omega⟩
theorem AtR.setFresh {w : World} {R base : Nat} {v1 v2 v3 : Value} {r : Rf} (h : AtR w R base v1 v2 v3 r) (x : Nat) : AtR (w.setCell ⟨R, 3, none⟩ (.int .i64 (x : Int))) R base v1 v2 v3 { r with fresh := x } := by
  have key : ∀ {v : Value} {n : Nat} {xs : List Value}, w.ownsRow base 3 1 v n xs → (w.setCell ⟨R, 3, none⟩ (.int .i64 (x : Int))).ownsRow base 3 1 v n xs := fun hh =>
    owns_far hh fun k hk => Below.heap_setCell _ _ _ _ (fun e => h.boxfar hh (by rw [hk, e]))
  exact ⟨Lib.heap_setCell_same h.box _, key h.g, key h.n, key h.b, h.gn, h.gb, h.nb⟩
theorem cI_set (l : List Nat) (k x : Nat) : cI (l.set k x) = (cI l).set k (.int .i64 (x : Int)) := by simp [cI]
theorem AtR.setNow {w : World} {R base g2 c2 : Nat} {v1 v3 : Value} {r : Rf} (h : AtR w R base v1 (.slice (some ⟨g2, 0, none⟩) r.now.length c2) v3 r) (k x : Nat) :
    AtR (w.setCell ⟨g2, k, none⟩ (.int .i64 (x : Int))) R base v1 (.slice (some ⟨g2, 0, none⟩) r.now.length c2) v3 { r with now := r.now.set k x } := by
  obtain ⟨h1, h2⟩ := h.n.stored k (.int .i64 (x : Int))
  refine ⟨(h2.block R h.lt (fun e => h.boxfar h.n (by rw [e]; rfl))).trans h.box, ?_, ?_, ?_, h.gn, h.gb, h.nb⟩
  · exact owns_far h.g fun j hj => h2.block j (h.g.lt j hj).2 (fun e => h.gn j hj (by rw [e]; rfl))
  · show (w.setCell _ _).ownsRow base 3 1 _ (r.now.set k x).length (cI (r.now.set k x))
    rw [cI_set, List.length_set]; exact h1
  · exact owns_far h.b fun j hj => h2.block j (h.b.lt j hj).2 (fun e => h.nb j (by rw [e]; rfl) hj)
theorem AtR.setGens {w : World} {R base g1 c1 : Nat} {v2 v3 : Value} {r : Rf} (h : AtR w R base (.slice (some ⟨g1, 0, none⟩) r.gens.length c1) v2 v3 r) (k x : Nat) :
    AtR (w.setCell ⟨g1, k, none⟩ (.int .i64 (x : Int))) R base (.slice (some ⟨g1, 0, none⟩) r.gens.length c1) v2 v3 { r with gens := r.gens.set k x } := by
  obtain ⟨h1, h2⟩ := h.g.stored k (.int .i64 (x : Int))
  refine ⟨(h2.block R h.lt (fun e => h.boxfar h.g (by rw [e]; rfl))).trans h.box, ?_, ?_, ?_, h.gn, h.gb, h.nb⟩
  · show (w.setCell _ _).ownsRow base 3 1 _ (r.gens.set k x).length (cI (r.gens.set k x))
    rw [cI_set, List.length_set]; exact h1
  · exact owns_far h.n fun j hj => h2.block j (h.n.lt j hj).2 (fun e => h.gn j (by rw [e]; rfl) hj)
  · exact owns_far h.b fun j hj => h2.block j (h.b.lt j hj).2 (fun e => h.gb j (by rw [e]; rfl) hj)

section
variable {P : Program} (w : World)
/-- 'append' onto a row that the call owns, of whatever number, as one step of a region that draws its order. -/
theorem step_append_any {ops : Array Oper} {o : Oper} {a : Act} {K : Act → World → Prop} {Q : Exit → Act → World → Prop} {E : Prop} (hgd : o.guard = none) (s x : Operand) (t : TypeId)
    (ho : o.op = .call { callee := .builtin .append, args := #[s, x], argTypes := #[t, t] })
    (base : Nat) (e : TypeId) (i : TypeInfo) (z : Value) (size bytes : Nat) (ht : P.underlying t = some (.slice e)) (hi : P.info? e = some i) (hz : i.zero = some z)
    (hsize : i.size = size) (hby : i.bytes = bytes) (hzs : z.cells.size = size) (hsz : 0 < size)
    (v : Value) (n : Nat) (xs : List Value) (hs : a.eval s = v) (hown : w.ownsRow base e size v n xs)
    (ad : Addr) (m c : Nat) (news : List Value) (hx : a.eval x = .slice (some ad) m c) (hl : news.length = m * size) (hnews : ∀ j u, news[j]? = some u → w.cell? (ad.add j) = some u) (h1 : ∀ u ∈ news, u.oneCell' = true)
    (h63 : n + m ≤ maxLen) (hbytes : (n + m) * bytes ≤ 140737488355328) (hbase : base ≤ w.heap.size)
    (h : ∀ ad' cap' w', w'.ownsRow base e size (.slice ad' (n + m) cap') (n + m) (xs ++ news) → w.grownBy w' v.ownBlock → ((Value.slice ad' (n + m) cap').ownBlock = v.ownBlock ∨ (Value.slice ad' (n + m) cap').ownBlock = some w.heap.size) → K (a.put o.dst (.slice ad' (n + m) cap')) w') :
    if Region.wanted o (yielded ops a.tmps) = true then Oper.wp P o a w K Q else E := by
  have hw : Region.wanted o (yielded ops a.tmps) = true := by simp [Region.wanted, hgd]
  rw [if_pos hw]
  obtain ⟨v', w', hr, h2, h3, _, h5⟩ := run_append_own_at (P := P) w base t o.type e i z size bytes ht hi hz hsize hby hzs hsz v n xs hown ad m c news hl hnews h1 h63 hbytes hbase
  obtain ⟨ad', cap', rfl⟩ := owns_slice h2
  unfold Oper.wp execOp
  simp only [ho, resolve, invoke, builtin, Sem.run_bind, Sem.run_pure, Result.andThen_ok, List.map_toArray, List.map_cons, List.map_nil, hs, hx, hr]
  exact h ad' cap' w' h2 h3 h5
end

/-- The cells of a row's first numbers. -/
theorem news_row {W : World} {g : Nat} {l : List Nat} (h : ∀ k, k < l.length → W.cell? ⟨g, k, none⟩ = some (.int .i64 ((gs_ l k : Nat) : Int))) (m : Nat) (hm : m ≤ l.length) : ∀ j u, (cI (l.take m))[j]? = some u → W.cell? ((⟨g, 0, none⟩ : Addr).add j) = some u := by
  intro j u hj
  have hjl : j < m := by
    have := (List.getElem?_eq_some_iff.1 hj).1
    rw [cI_len, List.length_take] at this
    omega
  have hadd : (⟨g, 0, none⟩ : Addr).add j = ⟨g, j, none⟩ := by unfold Addr.add; split <;> simp_all
  have hjl' : j < l.length := by omega
  rw [hadd, h j hjl', ← hj]
  simp [cI, gs_, hjl, hjl']
theorem ones_row (l : List Nat) : ∀ u ∈ cI l, u.oneCell' = true := by
  intro u hu
  simp [cI] at hu
  obtain ⟨a, _, rfl⟩ := hu
  rfl

end Go.Proofs.Ytngaecfainhjcaa.A
