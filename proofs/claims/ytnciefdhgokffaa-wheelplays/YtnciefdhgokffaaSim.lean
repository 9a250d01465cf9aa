/-
  The program's timers and the document's list, side by side: plain facts.
-/
import Derived.Test.YtnciefdhgokffaaRefDue
namespace Go.Proofs.Ytnciefdhgokffaa
open Go.RowKit

/-- The document's list has just the timers that are set, in order. -/
structure Sim (σ : Ws) (l : List (Nat × Nat)) : Prop where
  mem : ∀ p : Nat × Nat, p ∈ l ↔ p.1 < σ.n ∧ 0 < (σ.f p.1).set ∧ p.2 = (σ.f p.1).due
  srt : l.Pairwise fun a b => key σ a.1 < key σ b.1
theorem sim_new (n : Nat) : Sim (newOf n) [] := ⟨fun p => by simp [newOf], List.Pairwise.nil⟩
theorem mem_keep {id : Int} {l : List (Nat × Nat)} {p : Nat × Nat} : p ∈ keepR id l ↔ p ∈ l ∧ (p.1 : Int) ≠ id := by simp [keepR]
theorem stop_f (σ : Ws) (id : Int) (i : Nat) : (stopOf σ id).f i = if (i : Int) = id ∧ setT σ id then ⟨0, 0⟩ else σ.f i := by
  unfold stopOf
  by_cases h : setT σ id
  · rw [if_pos h]
    by_cases e : (i : Int) = id
    · subst e; simp only [Int.toNat_natCast, upd_same]; rw [if_pos ⟨trivial, h⟩]
    · rw [if_neg (fun k => e k.1)]
      exact upd_other _ _ (fun k => e (by have := h.1.1; omega))
  · rw [if_neg h, if_neg (fun k => h k.2)]
theorem sim_stop {σ : Ws} {l : List (Nat × Nat)} (h : Sim σ l) (id : Int) : Sim (stopOf σ id) (keepR id l) := by
  have hn := (stopOf_n σ id).1
  have hk : ∀ i : Nat, (i : Int) ≠ id → (stopOf σ id).f i = σ.f i := fun i e => by rw [stop_f, if_neg (fun k => e k.1)]
  refine ⟨fun p => ?_, ?_⟩
  · rw [mem_keep, h.mem, hn]
    by_cases e : (p.1 : Int) = id
    · refine ⟨fun k => absurd e k.2, fun k => ?_⟩
      exfalso
      have k2 := k.2.1
      rw [stop_f] at k2
      by_cases s : setT σ id
      · rw [if_pos ⟨e, s⟩] at k2; simp at k2
      · rw [if_neg (fun z => s z.2)] at k2
        exact s ⟨⟨by omega, by have := k.1; omega⟩, by rw [← e]; simpa using k2⟩
    · rw [hk p.1 e]
      exact ⟨fun k => k.1, fun k => ⟨k, e⟩⟩
  · refine (h.srt.filter _).imp_of_mem ?_
    intro a b ha hb hab
    have ea := (mem_keep.1 ha).2
    have eb := (mem_keep.1 hb).2
    unfold key at hab ⊢
    rw [hk a.1 ea, hk b.1 eb]; exact hab
theorem sim_stopB {σ : Ws} {l : List (Nat × Nat)} (h : Sim σ l) (id : Int) : stopB σ id = decide ((keepR id l).length < l.length) := by
  unfold stopB
  refine decide_eq_decide.2 ?_
  constructor
  · intro s
    have hm : (id.toNat, (σ.f id.toNat).due) ∈ l := (h.mem _).2 ⟨by have := s.1; simp only; omega, s.2, rfl⟩
    refine Nat.lt_of_le_of_ne (keep_len id l) (fun e => ?_)
    have := (List.length_filter_eq_length_iff.1 e) _ hm
    simp at this
    have := s.1.1
    omega
  · intro hlt
    have : ∃ p ∈ l, (p.1 : Int) = id := by
      refine Classical.byContradiction fun hc => ?_
      have : (keepR id l).length = l.length := List.length_filter_eq_length_iff.2 (fun p hp => by simpa using fun e => hc ⟨p, hp, e⟩)
      omega
    obtain ⟨p, hp, e⟩ := this
    have k := (h.mem p).1 hp
    subst e
    exact ⟨⟨by omega, by have := k.1; omega⟩, by simpa using k.2.1⟩

theorem gp_mem {l : List (Nat × Nat)} {k : Nat} (hk : k < l.length) : gp l k ∈ l := by
  unfold gp
  rw [List.getD_eq_getElem?_getD, List.getElem?_eq_getElem hk]; exact List.getElem_mem hk
theorem mem_gp {l : List (Nat × Nat)} {p : Nat × Nat} (hp : p ∈ l) : ∃ k, k < l.length ∧ gp l k = p := by
  obtain ⟨k, hk, e⟩ := List.getElem_of_mem hp
  refine ⟨k, hk, ?_⟩
  unfold gp
  rw [List.getD_eq_getElem?_getD, List.getElem?_eq_getElem hk]; exact e
/-- At answers alike. -/
theorem sim_at {σ : Ws} {l : List (Nat × Nat)} (h : Sim σ l) (id : Int) {e : Ending} (he : AtSays l id e) : e = .returned (.tuple #[.int .i64 (atX σ id), .bool (stopB σ id)]) := by
  rcases he with ⟨k, hk, h1, rfl⟩ | ⟨h1, rfl⟩
  · have m := (h.mem _).1 (gp_mem hk)
    subst h1
    have s : setT σ ((gp l k).1 : Int) := ⟨⟨by omega, by have := m.1; omega⟩, by simpa using m.2.1⟩
    rw [show stopB σ ((gp l k).1 : Int) = true from decide_eq_true s, show atX σ ((gp l k).1 : Int) = _ from if_pos s, Int.toNat_natCast, ← m.2.2]
  · have s : ¬ setT σ id := fun s => by
      have hm : (id.toNat, (σ.f id.toNat).due) ∈ l := (h.mem _).2 ⟨by have := s.1; simp only; omega, s.2, rfl⟩
      obtain ⟨k, hk, e⟩ := mem_gp hm
      refine h1 k hk ?_
      rw [e]
      have := s.1.1
      simp only; omega
    rw [show stopB σ id = false from decide_eq_false s, show atX σ id = 0 from if_neg s]
/-- Next is the first one's tick. -/
theorem sim_next {K : Nat} (hK : K ≤ 1000000) {σ : Ws} (hO : Ok K σ) {l : List (Nat × Nat)} (h : Sim σ l) : (l = [] → nx σ σ.n = (0, false)) ∧ (0 < l.length → nx σ σ.n = ((gp l 0).2, true)) := by
  obtain ⟨a, b⟩ := nx_spec σ σ.n
  refine ⟨fun e => ?_, fun hl => ?_⟩
  · cases hb : (nx σ σ.n).2
    · exact Prod.ext (a hb).1 hb
    · obtain ⟨i, h1, h2, _⟩ := (b hb).1
      have : (i, (σ.f i).due) ∈ l := (h.mem _).2 ⟨h1, h2, rfl⟩
      rw [e] at this; simp at this
  · have m := (h.mem _).1 (gp_mem hl)
    cases hb : (nx σ σ.n).2
    · have := (a hb).2 _ m.1; omega
    · refine Prod.ext ?_ hb
      obtain ⟨⟨i, h1, h2, h3⟩, h4⟩ := b hb
      have g1 := h4 _ m.1 m.2.1
      obtain ⟨k, hk, e⟩ := mem_gp ((h.mem (i, (σ.f i).due)).2 ⟨h1, h2, rfl⟩)
      have g2 : (gp l 0).2 ≤ (σ.f i).due := by
        by_cases z : k = 0
        · subst z; rw [e]; exact Nat.le_refl _
        · have hp := (List.pairwise_iff_getElem.1 h.srt) 0 k hl hk (by omega)
          have e0 : l[0] = gp l 0 := by unfold gp; rw [List.getD_eq_getElem?_getD, List.getElem?_eq_getElem hl]; rfl
          have ek : l[k] = gp l k := by unfold gp; rw [List.getD_eq_getElem?_getD, List.getElem?_eq_getElem hk]; rfl
          rw [e0, ek, e] at hp
          have s1 := hO.set (gp l 0).1
          have s2 := hO.set i
          have s3 := hO.small
          have m2 := m.2.2
          unfold key at hp
          simp only at hp
          omega
      have m2 := m.2.2
      show (nx σ σ.n).1 = (gp l 0).2
      omega

end Go.Proofs.Ytnciefdhgokffaa
