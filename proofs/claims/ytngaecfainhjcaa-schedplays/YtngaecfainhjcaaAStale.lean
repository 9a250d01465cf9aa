/-
  Handles that were answered, and which of them were given back: none is answered twice, and one that was given back is nobody's for good.
-/
import Derived.Test.YtngaecfainhjcaaAWorn
namespace Go.Proofs.Ytngaecfainhjcaa.A
open Go.RowKit

/-- The places that may be taken, in their order: from a place on, each leads to the next. -/
def Chain (s : Ar) : Nat → List Nat → Prop
  | x, [] => x = s.n
  | x, i :: l => x = i ∧ i < s.n ∧ (s.f i).taken = false ∧ Chain s (s.f i).next l
/-- No place stands twice in that order. -/
def Ok (s : Ar) (l : List Nat) : Prop := Chain s s.nx l ∧ l.Nodup

theorem chain_lt {s : Ar} : ∀ {l : List Nat} {x : Nat}, Chain s x l → ∀ i ∈ l, i < s.n ∧ (s.f i).taken = false
  | [], _, _, i, h => by simp at h
  | j :: l, x, ⟨_, h2, h3, h4⟩, i, h => by
    rcases List.mem_cons.1 h with rfl | h
    · exact ⟨h2, h3⟩
    · exact chain_lt h4 i h
/-- Places that do not stand in the order may turn. -/
theorem chain_upd {s t : Ar} (hn : t.n = s.n) {k : Nat} (hf : ∀ i, i ≠ k → t.f i = s.f i) : ∀ {l : List Nat} {x : Nat}, k ∉ l → Chain s x l → Chain t x l
  | [], _, _, h => by rw [Chain, hn]; exact h
  | j :: l, x, hk, ⟨h1, h2, h3, h4⟩ => by
    have e : t.f j = s.f j := hf j (fun e => hk (by simp [e]))
    refine ⟨h1, by rw [hn]; exact h2, by rw [e]; exact h3, ?_⟩
    rw [e]
    exact chain_upd hn hf (fun h => hk (List.mem_cons_of_mem _ h)) h4

theorem chain_new (n : Nat) : ∀ d x, x + d = n → Chain (newOf n) x (List.range' x d)
  | 0, x, h => by show x = n; omega
  | d + 1, x, h => ⟨rfl, by show x < n; omega, rfl, chain_new n d (x + 1) (by omega)⟩
theorem ok_new (n : Nat) : Ok (newOf n) (List.range' 0 n) := ⟨chain_new n n 0 (by omega), List.nodup_range' (step := 1)⟩

theorem ok_take {s : Ar} {i : Nat} {l : List Nat} (h : Ok s (i :: l)) : s.nx = i ∧ i < s.n ∧ (s.f i).taken = false ∧ takeOf s = { s with f := upd s.f i { s.f i with taken := true }, nx := (s.f i).next } ∧ takeH s = ((hd i (s.f i).backs : Nat) : Int) ∧ takeB s = true ∧ Ok (takeOf s) l := by
  obtain ⟨⟨h1, h2, h3, h4⟩, hnd⟩ := h
  have hne : ¬ s.nx = s.n := by omega
  have e : takeOf s = { s with f := upd s.f i { s.f i with taken := true }, nx := (s.f i).next } := by unfold takeOf; rw [if_neg hne, h1]
  refine ⟨h1, h2, h3, e, by unfold takeH; rw [if_neg hne, h1], by unfold takeB; rw [if_neg hne], ?_⟩
  rw [e]
  exact ⟨chain_upd (s := s) (t := { s with f := upd s.f i { s.f i with taken := true }, nx := (s.f i).next }) (k := i) rfl (fun j hj => upd_other s.f _ hj) (List.nodup_cons.1 hnd).1 h4, (List.nodup_cons.1 hnd).2⟩
theorem ok_none {s : Ar} (h : Ok s []) : takeOf s = s ∧ takeH s = 0 ∧ takeB s = false := by
  have h1 : s.nx = s.n := h.1
  unfold takeOf takeH takeB
  rw [if_pos h1, if_pos h1, if_pos h1]
  exact ⟨rfl, rfl, rfl⟩
theorem ok_free {s : Ar} {l : List Nat} (h : Ok s l) {k : Nat} (hk : k < s.n) (ht : (s.f k).taken = true) : Ok (freeAt s k) (if (s.f k).backs + 1 ≤ 255 then k :: l else l) := by
  have hkl : k ∉ l := fun e => by have := (chain_lt h.1 k e).2; rw [ht] at this; cases this
  unfold freeAt
  split
  · refine ⟨⟨rfl, hk, by simp only [upd_same], ?_⟩, List.nodup_cons.2 ⟨hkl, h.2⟩⟩
    simp only [upd_same]
    exact chain_upd (s := s) (t := { s with f := upd s.f k ⟨(s.f k).backs + 1, false, s.nx⟩, nx := k }) (k := k) rfl (fun j hj => upd_other s.f _ hj) hkl h.1
  · exact ⟨chain_upd (s := s) (t := { s with f := upd s.f k ⟨(s.f k).backs + 1, false, (s.f k).next⟩ }) (k := k) rfl (fun j hj => upd_other s.f _ hj) hkl h.1, h.2⟩

/-- The k-th handle that was answered, and whether it was given back since. -/
def gs_ (gs : List Nat) (k : Nat) : Nat := gs.getD k 0
def bk_ (bk : List Bool) (k : Nat) : Bool := bk.getD k false
/-- How many of the first k are still somebody's. -/
def there (bk : List Bool) : Nat → Nat
  | 0 => 0
  | k + 1 => there bk k + if bk_ bk k then 0 else 1
/-- How many of the first k places are taken. -/
def held (s : Ar) : Nat → Nat
  | 0 => 0
  | k + 1 => held s k + if (s.f k).taken then 1 else 0

structure Hist (s : Ar) (gs : List Nat) (bk : List Bool) : Prop where
  ok : ∃ l, Ok s l
  len : gs.length = bk.length
  n16 : s.n ≤ 16
  each : ∀ k, k < gs.length → ∃ p g, p < s.n ∧ gs_ gs k = hd p g ∧ ((bk_ bk k = false ∧ (s.f p).taken = true ∧ g = (s.f p).backs) ∨ (bk_ bk k = true ∧ g < (s.f p).backs))
  one : ∀ m k, m < k → k < gs.length → gs_ gs m ≠ gs_ gs k
  sum : there bk bk.length = held s s.n

theorem hd_inj {p q g h : Nat} (hp : p < 16) (hq : q < 16) (e : hd p g = hd q h) : p = q ∧ g = h := by unfold hd at e; omega

theorem Hist.hits {s : Ar} {gs : List Nat} {bk : List Bool} (h : Hist s gs bk) {k : Nat} (hk : k < gs.length) :
    (bk_ bk k = false → hits s ((gs_ gs k : Nat) : Int) ∧ ∃ p, p < s.n ∧ gs_ gs k = hd p (s.f p).backs ∧ (s.f p).taken = true ∧ placeOf s ((gs_ gs k : Nat) : Int) = (p : Int)) ∧ (bk_ bk k = true → ¬ hits s ((gs_ gs k : Nat) : Int)) := by
  obtain ⟨p, g, hp, e, h1⟩ := h.each k hk
  have h16 := h.n16
  have ek : kOf ((gs_ gs k : Nat) : Int) = p := by rw [e]; exact kOf_hd (by omega)
  refine ⟨fun hb => ?_, fun hb => ?_⟩
  · rcases h1 with ⟨_, ht, hg⟩ | ⟨hb', _⟩
    · have hh : Go.Proofs.Ytngaecfainhjcaa.A.hits s ((gs_ gs k : Nat) : Int) := by
        refine ⟨by rw [e]; unfold hd; omega, by rw [ek]; exact hp, by rw [ek]; exact ht, by rw [ek, e, hg]⟩
      exact ⟨hh, p, hp, by rw [e, hg], ht, by rw [place_hit hh, ek]⟩
    · rw [hb] at hb'; cases hb'
  · rintro ⟨_, _, _, h4⟩
    rw [ek, e] at h4
    rcases h1 with ⟨hb', _⟩ | ⟨_, hg⟩
    · rw [hb] at hb'; cases hb'
    · have := hd_inj (p := p) (q := p) (by omega) (by omega) (by exact_mod_cast h4); omega

theorem Hist.is {s : Ar} {gs : List Nat} {bk : List Bool} (h : Hist s gs bk) {k : Nat} (hk : k < gs.length) : isB s ((gs_ gs k : Nat) : Int) = !bk_ bk k := by
  cases e : bk_ bk k
  · exact if_pos ((h.hits hk).1 e).1
  · exact if_neg ((h.hits hk).2 e)
theorem Hist.gone {s : Ar} {gs : List Nat} {bk : List Bool} (h : Hist s gs bk) {k : Nat} (hk : k < gs.length) (e : bk_ bk k = true) : placeOf s ((gs_ gs k : Nat) : Int) = -1 := place_miss ((h.hits hk).2 e)
theorem Hist.apart {s : Ar} {gs : List Nat} {bk : List Bool} (h : Hist s gs bk) {m k : Nat} (hm : m < k) (hk : k < gs.length) (e : bk_ bk m = false) (e' : bk_ bk k = false) : placeOf s ((gs_ gs m : Nat) : Int) ≠ placeOf s ((gs_ gs k : Nat) : Int) := by
  obtain ⟨_, p, _, h1, _, h2⟩ := (h.hits (Nat.lt_trans hm hk)).1 e
  obtain ⟨_, q, _, h3, _, h4⟩ := (h.hits hk).1 e'
  rw [h2, h4]
  intro hpq
  have : p = q := by omega
  subst this
  exact h.one m k hm hk (by rw [h1, h3])
theorem held_le (s : Ar) : ∀ k, held s k ≤ k
  | 0 => Nat.le_refl _
  | k + 1 => by have := held_le s k; simp only [held]; split <;> omega
theorem live_held (s : Ar) : ∀ k, (liveTo s k).length = held s k
  | 0 => rfl
  | k + 1 => by simp only [liveTo, held, List.length_append, live_held s k]; split <;> rfl
theorem held_same {s t : Ar} : ∀ k, (∀ i, i < k → (t.f i).taken = (s.f i).taken) → held t k = held s k
  | 0, _ => rfl
  | k + 1, h => by simp only [held, held_same k (fun i hi => h i (by omega)), h k (by omega)]
theorem held_turn {s t : Ar} {p : Nat} (ht : (t.f p).taken = true) (hs : (s.f p).taken = false) : ∀ k, p < k → (∀ i, i < k → i ≠ p → (t.f i).taken = (s.f i).taken) → held t k = held s k + 1
  | 0, hp, _ => by omega
  | k + 1, hp, h => by
    simp only [held]
    by_cases e : k = p
    · subst e
      rw [held_same k (fun i hi => h i (by omega) (by omega)), ht, hs]
      simp
    · rw [held_turn ht hs k (by omega) (fun i hi hne => h i (by omega) hne), h k (by omega) e]
      omega
theorem there_snoc (bk : List Bool) (b : Bool) : ∀ k, k ≤ bk.length → there (bk ++ [b]) k = there bk k
  | 0, _ => rfl
  | k + 1, h => by
    have e : bk_ (bk ++ [b]) k = bk_ bk k := by simp [bk_, List.getElem?_append_left (show k < bk.length by omega)]
    simp only [there, there_snoc bk b k (by omega), e]
theorem bk_snoc (bk : List Bool) (b : Bool) : bk_ (bk ++ [b]) bk.length = b := by simp [bk_]
theorem bk_old (bk : List Bool) (b : Bool) {k : Nat} (h : k < bk.length) : bk_ (bk ++ [b]) k = bk_ bk k := by simp [bk_, List.getElem?_append_left h]
theorem gs_snoc (gs : List Nat) (x : Nat) : gs_ (gs ++ [x]) gs.length = x := by simp [gs_]
theorem gs_old (gs : List Nat) (x : Nat) {k : Nat} (h : k < gs.length) : gs_ (gs ++ [x]) k = gs_ gs k := by simp [gs_, List.getElem?_append_left h]
theorem bk_set (bk : List Bool) {k : Nat} (h : k < bk.length) (j : Nat) : bk_ (bk.set k true) j = if j = k then true else bk_ bk j := by
  by_cases e : j = k
  · subst e; simp [bk_, h]
  · have e' : ¬ k = j := fun x => e x.symm
    simp [bk_, e, e']
theorem there_set (bk : List Bool) {k : Nat} (hk : k < bk.length) (hb : bk_ bk k = false) : ∀ j, there bk j = there (bk.set k true) j + if k < j then 1 else 0
  | 0 => rfl
  | j + 1 => by
    simp only [there, there_set bk hk hb j, bk_set bk hk j]
    by_cases e : j = k
    · subst e; rw [hb]; simp
    · rw [if_neg e]
      by_cases h : k < j
      · rw [if_pos h, if_pos (show k < j + 1 by omega)]; omega
      · rw [if_neg h, if_neg (show ¬ k < j + 1 by omega)]; omega

theorem hist_new {n : Nat} (hn : n ≤ 16) : Hist (newOf n) [] [] :=
  ⟨⟨_, ok_new n⟩, rfl, hn, fun k hk => by simp at hk, fun m k _ hk => by simp at hk, by
    show 0 = held (newOf n) n
    have : ∀ k, held (newOf n) k = 0 := fun k => by
      induction k with
      | zero => rfl
      | succ k ih => rw [held, ih]; rfl
    rw [this]⟩

/-- A handle is answered. -/
theorem Hist.take {s : Ar} {gs : List Nat} {bk : List Bool} (h : Hist s gs bk) (hb : takeB s = true) : ∃ H : Nat, takeH s = (H : Int) ∧ Hist (takeOf s) (gs ++ [H]) (bk ++ [false]) := by
  obtain ⟨l, hl⟩ := h.ok
  match l, hl with
  | [], hl => rw [(ok_none hl).2.2] at hb; cases hb
  | i :: l, hl =>
    obtain ⟨_, hi, ht, e, e2, _, h'⟩ := ok_take hl
    have h16 := h.n16
    have hlen := h.len
    have en : (takeOf s).n = s.n := by rw [e]
    have fi : (takeOf s).f i = { s.f i with taken := true } := by rw [e]; exact upd_same _ _ _
    have fo : ∀ j, j ≠ i → (takeOf s).f j = s.f j := fun j hj => by rw [e]; exact upd_other _ _ hj
    have hnew : ∀ k, k < gs.length → gs_ gs k ≠ hd i (s.f i).backs := fun k hk ee => by
      obtain ⟨p, g, hp, e1, h1⟩ := h.each k hk
      obtain ⟨rfl, rfl⟩ := hd_inj (p := p) (q := i) (by omega) (by omega) (e1.symm.trans ee)
      rcases h1 with ⟨_, h2, _⟩ | ⟨_, h2⟩
      · rw [ht] at h2; cases h2
      · omega
    refine ⟨_, e2, ⟨l, h'⟩, by simp [hlen], by rw [en]; exact h16, fun k hk => ?_, fun m k hm hk => ?_, ?_⟩
    · by_cases ek : k = gs.length
      · subst ek
        refine ⟨i, (s.f i).backs, by rw [en]; exact hi, gs_snoc _ _, Or.inl ⟨by rw [hlen]; exact bk_snoc _ _, by rw [fi], by rw [fi]⟩⟩
      · have hk' : k < gs.length := by simp at hk; omega
        obtain ⟨p, g, hp, e1, h1⟩ := h.each k hk'
        refine ⟨p, g, by rw [en]; exact hp, (gs_old _ _ hk').trans e1, ?_⟩
        rw [bk_old _ _ (by omega)]
        by_cases ep : p = i
        · subst ep
          rcases h1 with ⟨_, h2, _⟩ | ⟨h2, h3⟩
          · rw [ht] at h2; cases h2
          · exact Or.inr ⟨h2, by rw [fi]; exact h3⟩
        · rw [fo p ep]; exact h1
    · by_cases ek : k = gs.length
      · subst ek
        rw [gs_snoc, gs_old _ _ hm]
        exact hnew m hm
      · have hk' : k < gs.length := by simp at hk; omega
        rw [gs_old _ _ hk', gs_old _ _ (by omega)]
        exact h.one m k hm hk'
    · rw [List.length_append, List.length_singleton, there, there_snoc _ _ _ (Nat.le_refl _), bk_snoc, h.sum, en]
      rw [held_turn (s := s) (t := takeOf s) (p := i) (by rw [fi]) ht s.n hi (fun j _ hj => by rw [fo j hj])]
      rfl

/-- A handle is given back. -/
theorem Hist.free {s : Ar} {gs : List Nat} {bk : List Bool} (h : Hist s gs bk) {k : Nat} (hk : k < gs.length) : Hist (freeOf s ((gs_ gs k : Nat) : Int)) gs (bk.set k true) := by
  have hlen := h.len
  cases hb : bk_ bk k
  · obtain ⟨hh, p, hp, e1, ht, _⟩ := (h.hits hk).1 hb
    have h16 := h.n16
    have ef : freeOf s ((gs_ gs k : Nat) : Int) = freeAt s p := by
      unfold freeOf
      rw [if_pos hh, e1, kOf_hd (by omega)]
    have en : (freeAt s p).n = s.n := by unfold freeAt; split <;> rfl
    have fp : ((freeAt s p).f p).backs = (s.f p).backs + 1 ∧ ((freeAt s p).f p).taken = false := by unfold freeAt; split <;> simp only [upd_same, and_self]
    have fo : ∀ j, j ≠ p → (freeAt s p).f j = s.f j := fun j hj => by unfold freeAt; split <;> exact upd_other _ _ hj
    obtain ⟨l, hl⟩ := h.ok
    rw [ef]
    refine ⟨⟨_, ok_free hl hp ht⟩, by simpa using hlen, by rw [en]; exact h16, fun j hj => ?_, h.one, ?_⟩
    · obtain ⟨q, g, hq, e2, h2⟩ := h.each j hj
      refine ⟨q, g, by rw [en]; exact hq, e2, ?_⟩
      rw [bk_set _ (by omega)]
      by_cases ej : j = k
      · subst ej
        rw [if_pos rfl]
        obtain ⟨rfl, rfl⟩ := hd_inj (p := q) (q := p) (by omega) (by omega) (e2.symm.trans e1)
        exact Or.inr ⟨rfl, by rw [fp.1]; omega⟩
      · rw [if_neg ej]
        by_cases eq : q = p
        · subst eq
          rcases h2 with ⟨h3, _, h4⟩ | ⟨h3, h4⟩
          · exfalso
            have es : gs_ gs j = gs_ gs k := by rw [e2, e1, h4]
            rcases Nat.lt_or_ge j k with hjk | hjk
            · exact h.one j k hjk hk es
            · exact h.one k j (by omega) hj es.symm
          · exact Or.inr ⟨h3, by rw [fp.1]; omega⟩
        · rw [fo q eq]; exact h2
    · have h3 := there_set bk (k := k) (by omega) hb bk.length
      rw [if_pos (by omega), h.sum] at h3
      have h4 := held_turn (s := freeAt s p) (t := s) (p := p) ht fp.2 s.n hp (fun j _ hj => by rw [fo j hj])
      rw [List.length_set, en]
      omega
  · have ef : freeOf s ((gs_ gs k : Nat) : Int) = s := if_neg ((h.hits hk).2 hb)
    have es : bk.set k true = bk := by
      apply List.ext_getElem?
      intro j
      rw [List.getElem?_set]
      split
      · rename_i e
        subst e
        have : k < bk.length := by omega
        rw [if_pos this]
        simp [bk_, List.getD_eq_getElem?_getD, List.getElem?_eq_getElem this] at hb
        rw [List.getElem?_eq_getElem this, hb]
      · rfl
    rw [ef, es]
    exact h

theorem set_snoc (bk : List Bool) : (bk ++ [false]).set bk.length true = bk ++ [true] := by simp
/-- A handle is answered, and given back at once. -/
theorem Hist.both {s : Ar} {gs : List Nat} {bk : List Bool} (h : Hist s gs bk) (hb : takeB s = true) : ∃ H : Nat, takeH s = (H : Int) ∧ isB (takeOf s) (H : Int) = true ∧ Hist (freeOf (takeOf s) (H : Int)) (gs ++ [H]) (bk ++ [true]) := by
  obtain ⟨H, e, h1⟩ := h.take hb
  have h2 := h1.free (k := gs.length) (by simp)
  have h3 := h1.is (k := gs.length) (by simp)
  rw [gs_snoc] at h2 h3
  rw [h.len, set_snoc] at h2
  rw [h.len, bk_snoc] at h3
  exact ⟨H, e, h3, h2⟩
theorem ok_back {s : Ar} {l : List Nat} (_ : Ok s l) (hb : takeB s = false) : takeOf s = s := by
  unfold takeB at hb
  split at hb
  · rename_i e; exact if_pos e
  · cases hb

end Go.Proofs.Ytngaecfainhjcaa.A
