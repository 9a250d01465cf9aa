/-
  The program's arena and the document's answer alike.
-/
import Derived.Test.YtngaecfainhjcaaARefTake
import Derived.Test.YtngaecfainhjcaaARefFree
import Derived.Test.YtngaecfainhjcaaARefNew
namespace Go.Proofs.Ytngaecfainhjcaa.A
open Go.RowKit

structure Sim (s : Ar) (r : Rf) : Prop where
  n16 : s.n ≤ 16
  gl : r.gens.length = s.n
  nl : r.now.length = s.n
  each : ∀ i, i < s.n → gs_ r.gens i = (s.f i).backs ∧ gs_ r.now i = if (s.f i).taken then hd i (s.f i).backs else 0
  ok : Ok s (r.back.reverse ++ List.range' r.fresh (s.n - r.fresh))
  fr : r.fresh ≤ s.n

theorem gs_zeros (k i : Nat) : gs_ (zeros k) i = 0 := by simp [gs_, zeros, List.getElem?_replicate]; split <;> rfl
theorem sim_new {n : Nat} (hn : n ≤ 16) : Sim (newOf n) (rf0 n) :=
  ⟨hn, zeros_len n, zeros_len n, fun i _ => ⟨gs_zeros n i, gs_zeros n i⟩, ok_new n, Nat.zero_le _⟩

theorem seek_none {now : List Nat} {h : Int} : ∀ {n i : Nat}, seek now h n i = -1 → ∀ k, i ≤ k → k < i + n → ¬ (0 < h ∧ ((gs_ now k : Nat) : Int) = h)
  | 0, i, _, k, h1, h2 => by omega
  | n + 1, i, hs, k, h1, h2 => by
    simp only [seek] at hs
    split at hs
    · exfalso; omega
    · rename_i hh
      by_cases e : k = i
      · subst e; exact hh
      · exact seek_none hs k (by omega) (by omega)

theorem Sim.place {s : Ar} {r : Rf} (h : Sim s r) (x : Int) : placeOf s x = refPlace r x := by
  have h16 := h.n16
  unfold refPlace
  rw [h.nl]
  rcases seek_at r.now x s.n 0 with e | ⟨k, e, _, hk, h0, hx⟩
  · rw [e]
    refine place_miss fun hh => ?_
    obtain ⟨h1, h2, h3, h4⟩ := hh
    refine seek_none e (kOf x) (Nat.zero_le _) (by omega) ⟨by omega, ?_⟩
    rw [(h.each _ h2).2, if_pos h3]
    exact h4
  · rw [e]
    have hkn : k < s.n := by omega
    have he := (h.each k hkn).2
    rw [he] at hx
    cases ht : (s.f k).taken
    · rw [ht] at hx; simp at hx; omega
    · rw [ht, if_pos rfl] at hx
      have ek : kOf x = k := by rw [← hx]; exact kOf_hd (by omega)
      rw [place_hit ⟨by omega, by rw [ek]; exact hkn, by rw [ek]; exact ht, by rw [ek]; exact hx⟩, ek]
theorem Sim.live {s : Ar} {r : Rf} (h : Sim s r) : ∀ k, k ≤ s.n → liveTo s k = refLive r k
  | 0, _ => rfl
  | k + 1, hk => by
    have he := (h.each k (by omega)).2
    simp only [liveTo, refLive, h.live k (by omega), he]
    cases (s.f k).taken
    · simp
    · simp [hd]
theorem gs_set (l : List Nat) {k : Nat} (h : k < l.length) (x j : Nat) : gs_ (l.set k x) j = if j = k then x else gs_ l j := by
  by_cases e : j = k
  · subst e; simp [gs_, h]
  · have e' : ¬ k = j := fun q => e q.symm
    simp [gs_, e, e']
theorem take_n (s : Ar) : (takeOf s).n = s.n := by unfold takeOf; split <;> rfl

/-- What both take. -/
theorem Sim.put {s : Ar} {r r1 : Rf} {a : Nat} {l : List Nat} (h : Sim s r) (h1 : r1.gens = r.gens) (h2 : r1.now = r.now) (hl : Ok s (a :: l)) (hl1 : l = r1.back.reverse ++ List.range' r1.fresh (s.n - r1.fresh)) (hfr : r1.fresh ≤ s.n) :
    takeH s = ((hd a (gs_ r.gens a) : Nat) : Int) ∧ takeB s = true ∧ Sim (takeOf s) (rPut r1 a) := by
  obtain ⟨_, hi, ht, e, e2, e3, h'⟩ := ok_take hl
  have hn := h.nl
  have hg := h.gl
  have ea := (h.each a hi).1
  refine ⟨by rw [e2, ea], e3, ?_⟩
  have fi : (takeOf s).f a = { s.f a with taken := true } := by rw [e]; exact upd_same _ _ _
  have fo : ∀ j, j ≠ a → (takeOf s).f j = s.f j := fun j hj => by rw [e]; exact upd_other _ _ hj
  refine ⟨by rw [take_n]; exact h.n16, by rw [take_n]; show r1.gens.length = s.n; rw [h1]; exact hg, ?_, fun i hi' => ?_, ?_, by rw [take_n]; exact hfr⟩
  · rw [take_n]; show (r1.now.set a _).length = s.n; rw [List.length_set, h2]; exact hn
  · rw [take_n] at hi'
    obtain ⟨q1, q2⟩ := h.each i hi'
    show gs_ r1.gens i = _ ∧ gs_ (r1.now.set a (hd a (gs_ r1.gens a))) i = _
    rw [h1, h2, gs_set _ (by omega)]
    by_cases e' : i = a
    · subst e'
      rw [fi, if_pos rfl]
      simp only [if_true]
      exact ⟨q1, by rw [q1]⟩
    · rw [fo i e', if_neg e']
      exact ⟨q1, q2⟩
  · rw [take_n]
    show Ok (takeOf s) (r1.back.reverse ++ List.range' r1.fresh (s.n - r1.fresh))
    rw [← hl1]
    exact h'

theorem last_take {l : List Nat} {m : Nat} (h : l.length = m + 1) : l.reverse = gs_ l m :: (l.take m).reverse := by
  have e : l = l.take m ++ [gs_ l m] := by
    apply List.ext_getElem?
    intro j
    have hl : (l.take m).length = m := by rw [List.length_take]; omega
    rcases Nat.lt_trichotomy j m with hj | hj | hj
    · rw [List.getElem?_append_left (by omega), List.getElem?_take, if_pos hj]
    · subst hj
      rw [List.getElem?_append_right (by omega), hl]
      have : j < l.length := by omega
      simp [gs_, this]
    · rw [List.getElem?_eq_none (by omega), List.getElem?_eq_none (by simp; omega)]
  have e2 : l.reverse = (l.take m ++ [gs_ l m]).reverse := congrArg List.reverse e
  rw [e2, List.reverse_append]
  rfl
theorem Sim.take_back {s : Ar} {r : Rf} (h : Sim s r) {m : Nat} (h0 : r.back.length = m + 1) :
    takeH s = ((hd (gs_ r.back m) (gs_ r.gens (gs_ r.back m)) : Nat) : Int) ∧ takeB s = true ∧ Sim (takeOf s) (rPut (rBack r) (gs_ r.back m)) := by
  have hk := h.ok
  rw [last_take h0] at hk
  refine h.put rfl rfl hk ?_ h.fr
  show _ = (r.back.take (r.back.length - 1)).reverse ++ List.range' r.fresh (s.n - r.fresh)
  rw [h0]
  rfl
theorem Sim.take_fresh {s : Ar} {r : Rf} (h : Sim s r) (h0 : r.back.length = 0) (h1 : r.fresh < s.n) :
    takeH s = ((hd r.fresh (gs_ r.gens r.fresh) : Nat) : Int) ∧ takeB s = true ∧ Sim (takeOf s) (rPut (rFresh r) r.fresh) := by
  have hk := h.ok
  have hnil : r.back = [] := List.length_eq_zero_iff.1 h0
  rw [hnil, show s.n - r.fresh = (s.n - (r.fresh + 1)) + 1 by omega, List.range'_succ] at hk
  refine h.put rfl rfl hk ?_ (by show r.fresh + 1 ≤ s.n; omega)
  show _ = r.back.reverse ++ List.range' (r.fresh + 1) (s.n - (r.fresh + 1))
  rw [hnil]
  rfl
theorem Sim.take_none {s : Ar} {r : Rf} (h : Sim s r) (h0 : r.back.length = 0) (h1 : r.fresh = s.n) : takeOf s = s ∧ takeH s = 0 ∧ takeB s = false := by
  have hk := h.ok
  have hnil : r.back = [] := List.length_eq_zero_iff.1 h0
  rw [hnil, h1, Nat.sub_self] at hk
  exact ok_none hk
theorem Sim.free {s : Ar} {r : Rf} (h : Sim s r) {k : Nat} (hk : k < s.n) (ht : (s.f k).taken = true) : Sim (freeAt s k) (rFree r k) := by
  have hn := h.nl
  have hg := h.gl
  obtain ⟨q1, _⟩ := h.each k hk
  have en : (freeAt s k).n = s.n := by unfold freeAt; split <;> rfl
  have fp : ((freeAt s k).f k).backs = (s.f k).backs + 1 ∧ ((freeAt s k).f k).taken = false := by unfold freeAt; split <;> simp only [upd_same, and_self]
  have fo : ∀ j, j ≠ k → (freeAt s k).f j = s.f j := fun j hj => by unfold freeAt; split <;> exact upd_other _ _ hj
  refine ⟨by rw [en]; exact h.n16, ?_, ?_, fun i hi => ?_, ?_, by rw [en]; exact h.fr⟩
  · rw [en]; show (r.gens.set k _).length = s.n; rw [List.length_set]; exact hg
  · rw [en]; show (r.now.set k _).length = s.n; rw [List.length_set]; exact hn
  · rw [en] at hi
    obtain ⟨p1, p2⟩ := h.each i hi
    show gs_ (r.gens.set k (gs_ r.gens k + 1)) i = _ ∧ gs_ (r.now.set k 0) i = _
    rw [gs_set _ (by omega), gs_set _ (by omega)]
    by_cases e : i = k
    · subst e
      rw [if_pos rfl, if_pos rfl, fp.1, fp.2, q1]
      exact ⟨rfl, rfl⟩
    · rw [if_neg e, if_neg e, fo i e]
      exact ⟨p1, p2⟩
  · rw [en]
    have := ok_free h.ok hk ht
    show Ok (freeAt s k) ((if gs_ r.gens k + 1 ≤ 255 then r.back ++ [k] else r.back).reverse ++ List.range' r.fresh (s.n - r.fresh))
    rw [q1]
    by_cases hb : (s.f k).backs + 1 ≤ 255
    · rw [if_pos hb] at this ⊢
      simpa using this
    · rw [if_neg hb] at this ⊢
      exact this
theorem Sim.fitR {s : Ar} {r : Rf} {K : Nat} (h : Sim s r) (hf : Fit K s) (hK : K ≤ 1000) (hb : r.back.length ≤ 1000) : FitR r := by
  refine ⟨by rw [h.gl]; exact h.n16, by rw [h.nl, h.gl], fun k hk => ?_, hb, by rw [h.gl]; exact h.fr, fun k hk => ?_⟩
  · rw [h.gl]
    refine (chain_lt h.ok.1 _ ?_).1
    rw [List.mem_append, List.mem_reverse]
    left
    simp [gs_, hk]
  · rw [h.gl] at hk
    rw [(h.each k hk).1]
    exact Nat.le_trans (hf.backs k hk) hK

end Go.Proofs.Ytngaecfainhjcaa.A
