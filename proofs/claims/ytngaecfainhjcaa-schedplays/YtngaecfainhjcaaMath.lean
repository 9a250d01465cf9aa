/-
  Tasks as plain data: places that are taken by handles, and those of them that can run, in a row.
-/
import Derived.Test.YtngaecfainhjcaaARefMem
namespace Go.Proofs.Ytngaecfainhjcaa
open Go.RowKit A

structure Sc where
  a : Ar
  run : List Nat

def rmOf (l : List Nat) (t : Int) : List Nat := l.filter fun n => !decide ((n : Int) = t)
def inB (l : List Nat) (t : Int) : Bool := l.any fun n => decide ((n : Int) = t)
theorem inB_true {l : List Nat} {t : Int} : inB l t = true ↔ ∃ n ∈ l, (n : Int) = t := by simp [inB]
theorem inB_false {l : List Nat} {t : Int} : inB l t = false ↔ ∀ n ∈ l, (n : Int) ≠ t := by simp [inB]
theorem mem_rm {l : List Nat} {t : Int} {n : Nat} : n ∈ rmOf l t ↔ n ∈ l ∧ (n : Int) ≠ t := by simp [rmOf]
theorem rm_none {l : List Nat} {t : Int} (h : inB l t = false) : rmOf l t = l := by
  unfold rmOf
  rw [List.filter_eq_self]
  intro n hn
  simpa using inB_false.1 h n hn
theorem rm_nodup {l : List Nat} (h : l.Nodup) (t : Int) : (rmOf l t).Nodup := h.filter _
theorem rm_len (l : List Nat) (t : Int) : (rmOf l t).length ≤ l.length := List.length_filter_le _ _
theorem in_rm (l : List Nat) (t : Int) : inB (rmOf l t) t = false := inB_false.2 fun _ hn => (mem_rm.1 hn).2

/-- Where a number is first in a row it is taken out of there. -/
theorem rm_erase : ∀ {l : List Nat} {t : Int} {k : Nat}, l.Nodup → k < l.length → ((gs_ l k : Nat) : Int) = t → rmOf l t = l.eraseIdx k
  | [], _, _, _, h, _ => by simp at h
  | x :: l, t, 0, hn, _, e => by
    have e' : (x : Int) = t := by simpa [gs_] using e
    have h : inB l t = false := inB_false.2 fun n hm hx => (List.nodup_cons.1 hn).1 ((show n = x by omega) ▸ hm)
    show (x :: l).filter _ = _
    rw [List.filter_cons_of_neg (by simp [e'])]
    exact rm_none h
  | x :: l, t, k + 1, hn, hk, e => by
    have hk' : k < l.length := by simpa using hk
    have e' : ((gs_ l k : Nat) : Int) = t := by simpa [gs_] using e
    have hm : gs_ l k ∈ l := by
      rw [gs_, List.getD_eq_getElem?_getD, List.getElem?_eq_getElem hk']
      exact List.getElem_mem hk'
    have hx : (x : Int) ≠ t := fun h => (List.nodup_cons.1 hn).1 ((show gs_ l k = x by omega) ▸ hm)
    show (x :: l).filter _ = _
    rw [List.filter_cons_of_pos (by simp [hx]), List.eraseIdx_cons_succ]
    exact congrArg (x :: ·) (rm_erase (List.nodup_cons.1 hn).2 hk' e')
theorem gs_mem {l : List Nat} {k : Nat} (h : k < l.length) : gs_ l k ∈ l := by
  rw [gs_, List.getD_eq_getElem?_getD, List.getElem?_eq_getElem h]
  exact List.getElem_mem h
/-- One that is in a row is first at some place. -/
theorem in_at {l : List Nat} {t : Int} (h : inB l t = true) : ∃ k, k < l.length ∧ ((gs_ l k : Nat) : Int) = t ∧ ∀ m, m < k → ((gs_ l m : Nat) : Int) ≠ t := by
  induction l with
  | nil => simp [inB] at h
  | cons x l ih =>
    by_cases hx : (x : Int) = t
    · exact ⟨0, by simp, by simpa [gs_] using hx, fun m hm => by omega⟩
    · have h' : inB l t = true := by
        obtain ⟨n, hn, e⟩ := inB_true.1 h
        rcases List.mem_cons.1 hn with h1 | h1
        · subst h1; exact absurd e hx
        · exact inB_true.2 ⟨n, h1, e⟩
      obtain ⟨k, h1, h2, h3⟩ := ih h'
      refine ⟨k + 1, by simpa using h1, by simpa [gs_] using h2, fun m hm => ?_⟩
      match m with
      | 0 => simpa [gs_] using hx
      | m + 1 => simpa [gs_] using h3 m (by omega)
theorem out_at {l : List Nat} {t : Int} (h : inB l t = false) : ∀ m, m < l.length → ((gs_ l m : Nat) : Int) ≠ t := fun _ hm => inB_false.1 h _ (gs_mem hm)
theorem sub_len : ∀ {l m : List Nat}, l.Nodup → (∀ x ∈ l, x ∈ m) → l.length ≤ m.length
  | [], _, _, _ => Nat.zero_le _
  | x :: l, m, hn, h => by
    have hx : x ∈ m := h x List.mem_cons_self
    have h1 := sub_len (m := m.erase x) (List.nodup_cons.1 hn).2 (fun y hy => by
      have hne : y ≠ x := fun e => (List.nodup_cons.1 hn).1 (e ▸ hy)
      exact (List.mem_erase_of_ne hne).2 (h y (List.mem_cons_of_mem _ hy)))
    have h2 := List.length_erase_of_mem hx
    have h3 : 0 < m.length := List.length_pos_of_mem hx
    simp only [List.length_cons]
    omega

def spawnOf (s : Sc) : Sc := if takeB s.a = true then ⟨takeOf s.a, s.run ++ [(takeH s.a).toNat]⟩ else s
def exitOf (s : Sc) (t : Int) : Sc := if isB s.a t = true then ⟨freeOf s.a t, rmOf s.run t⟩ else s
def blockOf (s : Sc) (t : Int) : Sc := ⟨s.a, rmOf s.run t⟩
def readyB (s : Sc) (t : Int) : Bool := isB s.a t && !inB s.run t
def readyOf (s : Sc) (t : Int) : Sc := if readyB s t = true then ⟨s.a, s.run ++ [t.toNat]⟩ else s
def yieldOf (s : Sc) (t : Int) : Sc := if inB s.run t = true then ⟨s.a, rmOf s.run t ++ [t.toNat]⟩ else s
def pickH (s : Sc) (n : Int) : Int := if 0 ≤ n ∧ n < s.run.length then ((gs_ s.run n.toNat : Nat) : Int) else 0
def pickB (s : Sc) (n : Int) : Bool := decide (0 ≤ n ∧ n < s.run.length)

structure Okc (K : Nat) (s : Sc) : Prop where
  fit : Fit K s.a
  n8 : s.a.n ≤ 8
  ok : ∃ l, Ok s.a l
  nd : s.run.Nodup
  live : ∀ n ∈ s.run, hits s.a (n : Int)

theorem isB_hits {s : Ar} {h : Int} : isB s h = true ↔ hits s h := by
  unfold isB
  split
  · rename_i hh; exact ⟨fun _ => hh, fun _ => rfl⟩
  · rename_i hh; exact ⟨fun e => (by cases e), fun e => absurd e hh⟩
theorem isB_not {s : Ar} {h : Int} : isB s h = false ↔ ¬ hits s h := by
  unfold isB
  split
  · rename_i hh; exact ⟨fun e => (by cases e), fun e => absurd hh e⟩
  · rename_i hh; exact ⟨fun _ => hh, fun _ => rfl⟩

theorem live_mem (s : Ar) (h : Nat) (hh : hits s (h : Int)) : ∀ k, kOf (h : Int) < k → h ∈ liveTo s k
  | 0, hk => by omega
  | k + 1, hk => by
    unfold liveTo
    by_cases e : kOf (h : Int) = k
    · have h3 := hh.2.2.1
      have h4 := hh.2.2.2
      rw [e] at h3 h4
      rw [h3]
      have : hd k (s.f k).backs = h := by omega
      simp [this]
    · have := live_mem s h hh k (by omega)
      exact List.mem_append_left _ this
theorem Okc.len {K : Nat} {s : Sc} (h : Okc K s) : s.run.length ≤ (liveTo s.a s.a.n).length := sub_len h.nd fun x hx => live_mem s.a x (h.live x hx) _ (h.live x hx).2.1
theorem Okc.len8 {K : Nat} {s : Sc} (h : Okc K s) : s.run.length ≤ 8 := Nat.le_trans h.len (Nat.le_trans (liveTo_len _ _) h.n8)
theorem Okc.mono {K L : Nat} {s : Sc} (h : Okc K s) (hl : K ≤ L) : Okc L s := ⟨h.fit.mono hl, h.n8, h.ok, h.nd, h.live⟩

theorem kOf_hd' {p g : Nat} (hp : p < 16) : kOf ((hd p g : Nat) : Int) = p := kOf_hd hp
theorem takeH_nat (s : Ar) : takeH s = ((takeH s).toNat : Int) := by
  unfold takeH
  split <;> simp

theorem Okc.spawn {K : Nat} {s : Sc} (h : Okc K s) : Okc K (spawnOf s) := by
  unfold spawnOf
  split
  · rename_i hb
    obtain ⟨l, hl⟩ := h.ok
    cases l with
    | nil => rw [(ok_none hl).2.2] at hb; cases hb
    | cons i l =>
      obtain ⟨_, h2, h3, h4, h5, _, h7⟩ := ok_take hl
      have h16 := h.fit.n16
      have hn : (takeOf s.a).n = s.a.n := by rw [h4]
      have hf : ∀ j, j ≠ i → (takeOf s.a).f j = s.a.f j := fun j hj => by rw [h4]; exact upd_other _ _ hj
      have hi : (takeOf s.a).f i = { s.a.f i with taken := true } := by rw [h4]; exact upd_same _ _ _
      have hne : ∀ n ∈ s.run, kOf (n : Int) ≠ i := fun n hm e => by
        have := (h.live n hm).2.2.1
        rw [e, h3] at this
        cases this
      have hto : (takeH s.a).toNat = hd i (s.a.f i).backs := by rw [h5]; simp
      have hk : kOf ((hd i (s.a.f i).backs : Nat) : Int) = i := kOf_hd (by omega)
      refine ⟨takeOf_fit h.fit, by show (takeOf s.a).n ≤ 8; rw [hn]; exact h.n8, ⟨l, h7⟩, ?_, ?_⟩
      · show (s.run ++ [(takeH s.a).toNat]).Nodup
        rw [hto, List.nodup_append]
        refine ⟨h.nd, by simp, fun x hx y hy e => ?_⟩
        simp at hy
        subst hy e
        exact hne _ hx hk
      · intro n hm
        rcases List.mem_append.1 hm with h1 | h1
        · have := h.live n h1
          show hits (takeOf s.a) _
          refine ⟨this.1, by rw [hn]; exact this.2.1, ?_, ?_⟩
          · rw [hf _ (hne n h1)]; exact this.2.2.1
          · rw [hf _ (hne n h1)]; exact this.2.2.2
        · simp at h1
          rw [hto] at h1
          subst h1
          show hits (takeOf s.a) _
          refine ⟨by unfold hd; omega, by rw [hk, hn]; exact h2, by rw [hk, hi], by rw [hk, hi]⟩
  · exact h
theorem Okc.block {K : Nat} {s : Sc} (h : Okc K s) (t : Int) : Okc K (blockOf s t) := ⟨h.fit, h.n8, h.ok, rm_nodup h.nd t, fun n hn => h.live n (mem_rm.1 hn).1⟩
theorem nodup_snoc {l : List Nat} (h : l.Nodup) {t : Int} (h0 : 0 ≤ t) (hn : inB l t = false) : (l ++ [t.toNat]).Nodup := by
  rw [List.nodup_append]
  refine ⟨h, by simp, fun x hx y hy e => ?_⟩
  simp at hy
  subst hy e
  exact inB_false.1 hn _ hx (by omega)
theorem Okc.put {K : Nat} {s : Sc} (h : Okc K s) {t : Int} (ht : hits s.a t) (hn : inB s.run t = false) : Okc K ⟨s.a, s.run ++ [t.toNat]⟩ := by
  have h1 := ht.1
  refine ⟨h.fit, h.n8, h.ok, nodup_snoc h.nd (by omega) hn, fun n hm => ?_⟩
  rcases List.mem_append.1 hm with h2 | h2
  · exact h.live n h2
  · simp at h2
    have e : (n : Int) = t := by omega
    rw [e]
    exact ht
theorem Okc.ready {K : Nat} {s : Sc} (h : Okc K s) (t : Int) : Okc K (readyOf s t) := by
  unfold readyOf
  split
  · rename_i hb
    simp [readyB] at hb
    exact h.put (isB_hits.1 hb.1) hb.2
  · exact h
theorem Okc.yield {K : Nat} {s : Sc} (h : Okc K s) (t : Int) : Okc K (yieldOf s t) := by
  unfold yieldOf
  split
  · rename_i hb
    obtain ⟨n, hn, e⟩ := inB_true.1 hb
    exact (h.block t).put (s := blockOf s t) (e ▸ h.live n hn) (in_rm _ _)
  · exact h
theorem Okc.exit {K : Nat} {s : Sc} (h : Okc K s) (t : Int) : Okc (K + 1) (exitOf s t) := by
  unfold exitOf
  split
  · rename_i hb
    have ht := isB_hits.1 hb
    obtain ⟨l, hl⟩ := h.ok
    have e : freeOf s.a t = freeAt s.a (kOf t) := if_pos ht
    have hn : (freeAt s.a (kOf t)).n = s.a.n := by unfold freeAt; split <;> rfl
    have hf : ∀ j, j ≠ kOf t → (freeAt s.a (kOf t)).f j = s.a.f j := fun j hj => by unfold freeAt; split <;> exact upd_other _ _ hj
    refine ⟨freeOf_fit h.fit t, by show (freeOf s.a t).n ≤ 8; rw [e, hn]; exact h.n8, ⟨_, e ▸ ok_free hl ht.2.1 ht.2.2.1⟩, rm_nodup h.nd t, fun n hm => ?_⟩
    obtain ⟨h1, h2⟩ := mem_rm.1 hm
    have h3 := h.live n h1
    have hne : kOf (n : Int) ≠ kOf t := fun e' => h2 (by rw [← h3.2.2.2, e']; exact ht.2.2.2)
    show hits (freeOf s.a t) _
    rw [e]
    exact ⟨h3.1, by rw [hn]; exact h3.2.1, by rw [hf _ hne]; exact h3.2.2.1, by rw [hf _ hne]; exact h3.2.2.2⟩
  · exact h.mono (by omega)

def newS (q : Int) : Sc := spawnOf ⟨newOf (min (max q 1) 8).toNat, []⟩
theorem ok_newS (q : Int) : Okc 0 (newS q) :=
  Okc.spawn (s := ⟨newOf (min (max q 1) 8).toNat, []⟩) ⟨newOf_fit (by omega), by show (min (max q 1) 8).toNat ≤ 8; omega, ⟨_, ok_new _⟩, List.nodup_nil, fun _ h => by cases h⟩

end Go.Proofs.Ytngaecfainhjcaa
