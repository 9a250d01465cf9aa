/-
  Who can not run is in no row till it is ready: plain facts.
-/
import Derived.Test.YtngaecfainhjcaaSTurnsM
namespace Go.Proofs.Ytngaecfainhjcaa
open Go.RowKit A

/-- An append that is asked for only where a test came out so: it did. -/
theorem wpList_append_asked {p : Program} (w : World) {ops : Array Oper} {rest : List Oper} {o : Oper} {a : Act} {Q : Exit → Act → World → Prop} (hgd : Region.wanted o (yielded ops a.tmps) = true) (s x : Operand) (t : TypeId)
    (ho : o.op = .call { callee := .builtin .append, args := #[s, x], argTypes := #[t, t] })
    (base : Nat) (e : TypeId) (i : TypeInfo) (z : Value) (size bytes : Nat) (ht : p.underlying t = some (.slice e)) (hi : p.info? e = some i) (hz : i.zero = some z)
    (hsize : i.size = size) (hby : i.bytes = bytes) (hzs : z.cells.size = size) (hsz : 0 < size)
    (v : Value) (n : Nat) (xs : List Value) (hs : a.eval s = v) (hown : w.ownsRow base e size v n xs)
    (ad : Addr) (m c : Nat) (news : List Value) (hx : a.eval x = .slice (some ad) m c) (hl : news.length = m * size) (hnews : ∀ j u, news[j]? = some u → w.cell? (ad.add j) = some u) (h1 : ∀ u ∈ news, u.oneCell' = true)
    (h63 : n + m ≤ maxLen) (hbytes : (n + m) * bytes ≤ 140737488355328) (hbase : base ≤ w.heap.size)
    (h : ∀ v' w', w'.ownsRow base e size v' (n + m) (xs ++ news) → w.grownBy w' v.ownBlock → (v' = .slice none 0 0 ↔ v = .slice none 0 0 ∧ m = 0) → wpList p ops Q rest (a.put o.dst v') w') : wpList p ops Q (o :: rest) a w :=
  wpList_step fun K hK => by
    rw [if_pos hgd]
    exact wp_append_own w s x t ho base e i z size bytes ht hi hz hsize hby hzs hsz v n xs hs hown ad m c news hx hl hnews h1 h63 hbytes hbase fun v' w' h2 h3 h4 => hK _ _ (h v' w' h2 h3 h4)

theorem free_gone {s : Ar} {t : Int} (h : hits s t) : isB (freeOf s t) t = false := by
  rw [isB_not]
  intro hh
  have h3 := hh.2.2.1
  have e : freeOf s t = freeAt s (kOf t) := if_pos h
  have : ((freeAt s (kOf t)).f (kOf t)).taken = false := by unfold freeAt; split <;> simp only [upd_same]
  rw [e, this] at h3
  cases h3

/-- What becomes of the tasks where one of them can not run. -/
theorem waits_facts {a : Ar} {l : List Nat} (ho : Okc 0 ⟨a, l⟩) {X : Nat} (hX : X ∈ l) :
    inB l (X : Int) = true ∧ inB (rmOf l (X : Int)) (X : Int) = false ∧ isB a (X : Int) = true ∧ (X : Int) ≤ 9223372036854775807 ∧ Okc 0 ⟨a, rmOf l (X : Int)⟩ ∧
    Okc 1 ⟨freeOf a (X : Int), rmOf l (X : Int)⟩ ∧ isB (freeOf a (X : Int)) (X : Int) = false ∧ Okc 0 ⟨a, rmOf l (X : Int) ++ [X]⟩ := by
  have hh : hits a (X : Int) := ho.live X hX
  have e1 : inB l (X : Int) = true := inB_true.2 ⟨X, hX, rfl⟩
  have e2 := in_rm l (X : Int)
  have e3 : isB a (X : Int) = true := isB_hits.2 hh
  have k1 : Okc 0 ⟨a, rmOf l (X : Int)⟩ := ho.block (X : Int)
  have k2 := k1.exit (X : Int)
  have k3 := k1.ready (X : Int)
  have e4 : exitOf ⟨a, rmOf l (X : Int)⟩ (X : Int) = ⟨freeOf a (X : Int), rmOf l (X : Int)⟩ := by
    unfold exitOf
    show (if isB a (X : Int) = true then (⟨freeOf a (X : Int), rmOf (rmOf l (X : Int)) (X : Int)⟩ : Sc) else _) = _
    rw [e3, if_pos rfl, rm_none e2]
  have e5 : readyOf ⟨a, rmOf l (X : Int)⟩ (X : Int) = ⟨a, rmOf l (X : Int) ++ [X]⟩ := by
    unfold readyOf readyB
    show (if (isB a (X : Int) && !inB (rmOf l (X : Int)) (X : Int)) = true then (⟨a, rmOf l (X : Int) ++ [((X : Nat) : Int).toNat]⟩ : Sc) else _) = _
    rw [e3, e2, Int.toNat_natCast]
    rfl
  rw [e4] at k2
  rw [e5] at k3
  exact ⟨e1, e2, e3, hits_le hh ho.fit (by omega), k1, k2, free_gone hh, k3⟩

theorem rm_take (l : List Nat) (t : Int) (k : Nat) (hk : k < l.length) : rmOf (l.take (k + 1)) t = rmOf (l.take k) t ++ if ((gs_ l k : Nat) : Int) = t then [] else [gs_ l k] := by
  have e : l.take (k + 1) = l.take k ++ [gs_ l k] := by rw [List.take_add_one]; simp [gs_, hk]
  rw [e]
  unfold rmOf
  rw [List.filter_append]
  congr 1
  by_cases h : ((gs_ l k : Nat) : Int) = t
  · rw [if_pos h, List.filter_cons_of_neg (by simp [h])]; rfl
  · rw [if_neg h, List.filter_cons_of_pos (by simp [h])]; rfl

end Go.Proofs.Ytngaecfainhjcaa
