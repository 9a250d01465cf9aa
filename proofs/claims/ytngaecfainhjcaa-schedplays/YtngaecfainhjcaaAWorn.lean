/-
  The walks of the laws ArenaNone and ArenaWorn.
-/
import Derived.Test.YtngaecfainhjcaaAAwake
namespace Go.Proofs.Ytngaecfainhjcaa.A
open Go.RowKit

theorem owns_slice {w : World} {base e size n : Nat} {v : Value} {xs : List Value} (h : w.ownsRow base e size v n xs) : ∃ ad cap, v = .slice ad n cap := by
  rcases h.2 with ⟨rfl, h2⟩ | ⟨g, cap, cur, rfl, _⟩
  · exact ⟨none, 0, by rw [h2]⟩
  · exact ⟨_, _, rfl⟩

theorem none_take : takeB (newOf 0) = false ∧ takeOf (newOf 0) = newOf 0 := ⟨rfl, rfl⟩
theorem none_hits (h : Int) : ¬ hits (newOf 0) h := fun x => by have := x.2.1; simp [newOf] at this

/-- Behind so many places that are worn out, and so many rounds of the next one. -/
def wornAt (n p k : Nat) : Ar := ⟨n, fun i => ⟨if i < p then 256 else if i = p then k else 0, false, i + 1⟩, if k = 256 then p + 1 else p⟩
theorem worn_new (n : Nat) : newOf n = wornAt n 0 0 := by
  unfold newOf wornAt
  congr 1
  funext i
  by_cases h : i = 0 <;> simp [h]
theorem worn_next (n p : Nat) : wornAt n p 256 = wornAt n (p + 1) 0 := by
  unfold wornAt
  congr 1
  funext i
  congr 1
  by_cases h : i < p
  · rw [if_pos h, if_pos (by omega)]
  · by_cases h' : i = p
    · subst h'; rw [if_neg h, if_pos rfl, if_pos (by omega)]
    · rw [if_neg h, if_neg h', if_neg (by omega)]; split <;> rfl
theorem worn_fit {n p k : Nat} (hn : n ≤ 16) (hp : p < n) (hk : k ≤ 256) : Fit 256 (wornAt n p k) := by
  refine ⟨hn, ?_, fun i _ => ?_, fun i hi => hi⟩
  · show (if k = 256 then p + 1 else p) ≤ n
    split <;> omega
  · show (if i < p then 256 else if i = p then k else 0) ≤ 256
    split
    · exact Nat.le_refl _
    · split <;> omega
theorem worn_take {n p k : Nat} (hp : p < n) (hk : k < 256) : takeH (wornAt n p k) = ((hd p k : Nat) : Int) ∧ takeB (wornAt n p k) = true := by
  have e : (wornAt n p k).nx = p := if_neg (by omega)
  have e2 : (wornAt n p k).n = n := rfl
  have e3 : ((wornAt n p k).f p).backs = k := by show (if p < p then 256 else if p = p then k else 0) = k; simp
  unfold takeH takeB
  rw [e, e2, if_neg (by omega), if_neg (by omega), e3]
  exact ⟨rfl, rfl⟩
theorem kOf_hd {p g : Nat} (hp : p < 16) : kOf ((hd p g : Nat) : Int) = p := by unfold kOf hd; omega
theorem worn_taken {n p k : Nat} (hp : p < n) (hk : k < 256) : takeOf (wornAt n p k) = { wornAt n p k with f := upd (wornAt n p k).f p ⟨k, true, p + 1⟩, nx := p + 1 } := by
  have e : (wornAt n p k).nx = p := if_neg (by omega)
  have e2 : (wornAt n p k).n = n := rfl
  have e3 : ((wornAt n p k).f p) = ⟨k, false, p + 1⟩ := by
    show (⟨if p < p then 256 else if p = p then k else 0, false, p + 1⟩ : Plc) = _
    simp
  unfold takeOf
  rw [e, e2, if_neg (by omega), e3]
  rfl
theorem worn_free {n p k : Nat} (hn : n ≤ 16) (hp : p < n) (hk : k < 256) : isB (takeOf (wornAt n p k)) ((hd p k : Nat) : Int) = true ∧ freeOf (takeOf (wornAt n p k)) ((hd p k : Nat) : Int) = wornAt n p (k + 1) := by
  rw [worn_taken hp hk]
  have hh : hits { wornAt n p k with f := upd (wornAt n p k).f p ⟨k, true, p + 1⟩, nx := p + 1 } ((hd p k : Nat) : Int) := by
    refine ⟨by unfold hd; omega, ?_, ?_, ?_⟩
    · rw [kOf_hd (by omega)]; exact hp
    · rw [kOf_hd (by omega)]; simp only [upd_same]
    · rw [kOf_hd (by omega)]; simp only [upd_same]
  refine ⟨if_pos hh, ?_⟩
  unfold freeOf
  rw [if_pos hh, kOf_hd (by omega)]
  unfold freeAt
  simp only [upd_same, upd_upd]
  by_cases h : k + 1 ≤ 255
  · rw [if_pos h]
    unfold wornAt
    rw [if_neg (show ¬ k + 1 = 256 by omega)]
    congr 1
    funext i
    by_cases e : i = p
    · subst e; rw [upd_same]; simp
    · rw [upd_other _ _ e]; simp [e]
  · rw [if_neg h]
    unfold wornAt
    rw [if_pos (show k + 1 = 256 by omega)]
    congr 1
    funext i
    by_cases e : i = p
    · subst e; rw [upd_same]; simp
    · rw [upd_other _ _ e]; simp [e]
theorem worn_end {n : Nat} : takeB (wornAt n n 0) = false ∧ takeH (wornAt n n 0) = 0 ∧ takeOf (wornAt n n 0) = wornAt n n 0 := by
  have e : (wornAt n n 0).nx = n := rfl
  have e2 : (wornAt n n 0).n = n := rfl
  unfold takeB takeH takeOf
  rw [e, e2]
  simp
theorem worn_live (n p k : Nat) : ∀ j, liveTo (wornAt n p k) j = []
  | 0 => rfl
  | j + 1 => by
    simp only [liveTo, worn_live n p k j, List.nil_append]
    show (if false = true then _ else _) = _
    rfl
theorem worn_endfit {n : Nat} (hn : n ≤ 16) : Fit 256 (wornAt n n 0) := by
  refine ⟨hn, Nat.le_refl n, fun i _ => ?_, fun i hi => hi⟩
  show (if i < n then 256 else if i = n then 0 else 0) ≤ 256
  split
  · exact Nat.le_refl _
  · split <;> omega

end Go.Proofs.Ytngaecfainhjcaa.A
