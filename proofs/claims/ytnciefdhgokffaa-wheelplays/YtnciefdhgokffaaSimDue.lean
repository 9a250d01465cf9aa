/-
  The program's timers and the document's list, side by side: what is due.
-/
import Derived.Test.YtnciefdhgokffaaSim
namespace Go.Proofs.Ytnciefdhgokffaa
open Go.RowKit

theorem lead_prop (N : Nat) : ∀ l : List (Nat × Nat), (∀ j, j < lead N l → (gp l j).2 ≤ N) ∧ (lead N l < l.length → N < (gp l (lead N l)).2)
  | [] => ⟨fun j h => by simp [lead] at h, fun h => by simp [lead] at h⟩
  | p :: l => by
    obtain ⟨h1, h2⟩ := lead_prop N l
    by_cases c : p.2 ≤ N
    · have e : lead N (p :: l) = lead N l + 1 := by simp only [lead]; rw [if_pos c]
      rw [e]
      refine ⟨fun j hj => ?_, fun hl => ?_⟩
      · cases j with
        | zero => exact c
        | succ j => have := h1 j (by omega); simpa [gp] using this
      · have := h2 (by simpa using hl); simpa [gp] using this
    · have e : lead N (p :: l) = 0 := by simp only [lead]; rw [if_neg c]
      rw [e]
      exact ⟨fun j hj => by omega, fun _ => by show N < p.2; omega⟩
theorem gp_get {l : List (Nat × Nat)} {k : Nat} (hk : k < l.length) : gp l k = l[k] := by
  unfold gp; rw [List.getD_eq_getElem?_getD, List.getElem?_eq_getElem hk]; rfl
theorem sim_mono {K : Nat} (hK : K ≤ 1000000) {σ : Ws} (hO : Ok K σ) {l : List (Nat × Nat)} (h : Sim σ l) {i j : Nat} (hij : i ≤ j) (hj : j < l.length) : (gp l i).2 ≤ (gp l j).2 := by
  by_cases e : i = j
  · subst e; exact Nat.le_refl _
  · have hi : i < l.length := by omega
    have hp := (List.pairwise_iff_getElem.1 h.srt) i j hi hj (by omega)
    rw [← gp_get hi, ← gp_get hj] at hp
    have m1 := ((h.mem _).1 (gp_mem hi)).2.2
    have m2 := ((h.mem _).1 (gp_mem hj)).2.2
    have s1 := hO.set (gp l i).1
    have s2 := hO.set (gp l j).1
    have s3 := hO.small
    unfold key at hp
    omega
theorem sim_parts {K : Nat} (hK : K ≤ 1000000) {σ : Ws} (hO : Ok K σ) {l : List (Nat × Nat)} (h : Sim σ l) (N : Nat) : (∀ p, p ∈ l.take (lead N l) ↔ p ∈ l ∧ p.2 ≤ N) ∧ (∀ p, p ∈ l.drop (lead N l) ↔ p ∈ l ∧ ¬ p.2 ≤ N) := by
  obtain ⟨h1, h2⟩ := lead_prop N l
  have ht : ∀ p, p ∈ l.take (lead N l) → p ∈ l ∧ p.2 ≤ N := fun p hp => by
    obtain ⟨k, hk, e⟩ := List.getElem_of_mem hp
    rw [List.getElem_take] at e
    simp only [List.length_take] at hk
    have hk' : k < l.length := by omega
    rw [← e, ← gp_get hk']
    exact ⟨gp_mem hk', h1 k (by omega)⟩
  have hd : ∀ p, p ∈ l.drop (lead N l) → p ∈ l ∧ ¬ p.2 ≤ N := fun p hp => by
    obtain ⟨k, hk, e⟩ := List.getElem_of_mem hp
    rw [List.getElem_drop] at e
    simp only [List.length_drop] at hk
    have hk' : lead N l + k < l.length := by omega
    rw [← e, ← gp_get hk']
    have a := h2 (by omega)
    have b := sim_mono hK hO h (i := lead N l) (j := lead N l + k) (by omega) hk'
    exact ⟨gp_mem hk', by omega⟩
  refine ⟨fun p => ⟨ht p, fun hp => ?_⟩, fun p => ⟨hd p, fun hp => ?_⟩⟩
  · have := hp.1
    rw [← List.take_append_drop (lead N l) l, List.mem_append] at this
    rcases this with c | c
    · exact c
    · exact absurd hp.2 (hd p c).2
  · have := hp.1
    rw [← List.take_append_drop (lead N l) l, List.mem_append] at this
    rcases this with c | c
    · exact absurd (ht p c).2 hp.2
    · exact c
/-- What is due is the same, and what is left. -/
theorem sim_due {K : Nat} (hK : K ≤ 1000000) {σ : Ws} (hO : Ok K σ) {l : List (Nat × Nat)} (h : Sim σ l) (t : Int) : DueIs σ t (idsOf (l.take (lead (holdN t) l))) ∧ Sim (dueOf σ t) (l.drop (lead (holdN t) l)) := by
  obtain ⟨pt, pd⟩ := sim_parts hK hO h (holdN t)
  have hsub := h.srt.sublist (List.take_sublist (lead (holdN t) l) l)
  have hsub2 := h.srt.sublist (List.drop_sublist (lead (holdN t) l) l)
  refine ⟨⟨?_, ?_⟩, fun p => ?_, ?_⟩
  · have nd : (idsOf (l.take (lead (holdN t) l))).Nodup := by
      rw [idsOf, List.Nodup, List.pairwise_map]
      exact hsub.imp (fun hab e => by rw [e] at hab; omega)
    refine (List.perm_ext_iff_of_nodup nd (dueTo_nodup _ _ _)).2 (fun i => ?_)
    rw [dueTo_mem]
    constructor
    · intro hi
      simp only [idsOf, List.mem_map] at hi
      obtain ⟨p, hp, rfl⟩ := hi
      have a := (pt p).1 hp
      have b := (h.mem p).1 a.1
      exact ⟨b.1, b.2.1, by rw [← b.2.2]; exact a.2⟩
    · intro hi
      simp only [idsOf, List.mem_map]
      exact ⟨(i, (σ.f i).due), (pt _).2 ⟨(h.mem _).2 ⟨hi.1, hi.2.1, rfl⟩, hi.2.2⟩, rfl⟩
  · rw [idsOf, List.pairwise_map]; exact hsub
  · have e : (dueOf σ t).f p.1 = if p.1 < σ.n ∧ isDue σ (holdN t) p.1 then ⟨0, 0⟩ else σ.f p.1 := rfl
    rw [pd p, h.mem p]
    show _ ↔ p.1 < σ.n ∧ 0 < ((dueOf σ t).f p.1).set ∧ p.2 = ((dueOf σ t).f p.1).due
    by_cases c : p.1 < σ.n ∧ isDue σ (holdN t) p.1
    · rw [e, if_pos c]
      refine ⟨fun k => ?_, fun k => absurd k.2.1 (by simp)⟩
      exact absurd (by rw [k.1.2.2]; exact c.2.2) k.2
    · rw [e, if_neg c]
      exact ⟨fun k => k.1, fun k => ⟨k, fun z => c ⟨k.1, k.2.1, by rw [← k.2.2]; exact z⟩⟩⟩
  · refine hsub2.imp_of_mem ?_
    intro a b ha hb hab
    have ka : ∀ p, p ∈ l.drop (lead (holdN t) l) → key (dueOf σ t) p.1 = key σ p.1 := fun p hp => by
      have z := (pd p).1 hp
      have m := (h.mem p).1 z.1
      have e : (dueOf σ t).f p.1 = σ.f p.1 := if_neg (fun c => z.2 (by rw [m.2.2]; exact c.2.2))
      unfold key; rw [e]
    rw [ka a ha, ka b hb]; exact hab

end Go.Proofs.Ytnciefdhgokffaa
