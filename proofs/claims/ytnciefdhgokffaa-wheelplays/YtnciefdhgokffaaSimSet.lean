/-
  The program's timers and the document's list, side by side: one is set; and what the document's Set answers where there is no such timer.
-/
import Derived.Test.YtnciefdhgokffaaSimDue
namespace Go.Proofs.Ytnciefdhgokffaa
open Go.RowKit

theorem sim_set {K : Nat} (hK : K + 1 ≤ 1000000) {σ : Ws} (hO : Ok K σ) {l : List (Nat × Nat)} (h : Sim σ l) (id : Nat) (hid : id < σ.n) (t : Int) : Sim (setOf σ (id : Int) t) (insR (keepR (id : Int) l) id (holdN t)) := by
  have hh : hasT σ (id : Int) := ⟨by omega, by omega⟩
  have e0 : setOf σ (id : Int) t = ⟨σ.n, σ.s + 1, upd σ.f id ⟨holdN t, σ.s + 1⟩⟩ := (if_pos hh).trans (by rw [Int.toNat_natCast])
  obtain ⟨pt, pd⟩ := sim_parts (by omega) (stopOf_ok hO (id : Int)) (sim_stop h (id : Int)) (holdN t)
  have hs1 := (sim_stop h (id : Int)).srt
  have hne : ∀ p, p ∈ keepR (id : Int) l → p.1 ≠ id := fun p hp e => (mem_keep.1 hp).2 (by rw [e])
  have hf : ∀ i, i ≠ id → (setOf σ (id : Int) t).f i = σ.f i := fun i e => by rw [e0]; exact upd_other _ _ e
  have hf2 : ∀ i, i ≠ id → (stopOf σ (id : Int)).f i = σ.f i := fun i e => by rw [stop_f, if_neg (fun k => e (by have := k.1; omega))]
  have hfi : (setOf σ (id : Int) t).f id = ⟨holdN t, σ.s + 1⟩ := by rw [e0]; exact upd_same _ _ _
  have hkey : ∀ p, p ∈ keepR (id : Int) l → key (setOf σ (id : Int) t) p.1 = key (stopOf σ (id : Int)) p.1 := fun p hp => by unfold key; rw [hf _ (hne p hp), hf2 _ (hne p hp)]
  have hval : ∀ p, p ∈ keepR (id : Int) l → p.2 = (σ.f p.1).due ∧ (σ.f p.1).set ≤ σ.s := fun p hp => ⟨((h.mem p).1 (mem_keep.1 hp).1).2.2, hO.set _⟩
  have hki : key (setOf σ (id : Int) t) id = holdN t * 1000001 + (σ.s + 1) := by unfold key; rw [hfi]
  have hsm := hO.small
  generalize hl1 : keepR (id : Int) l = l1 at *
  have mt : ∀ p, p ∈ l1.take (lead (holdN t) l1) → p ∈ l1 := fun p hp => ((pt p).1 hp).1
  have md : ∀ p, p ∈ l1.drop (lead (holdN t) l1) → p ∈ l1 := fun p hp => ((pd p).1 hp).1
  have low : ∀ p, p ∈ l1.take (lead (holdN t) l1) → key (setOf σ (id : Int) t) p.1 < key (setOf σ (id : Int) t) id := fun p hp => by
    have a := ((pt p).1 hp).2
    have v := hval p (mt p hp)
    rw [hki]
    unfold key
    rw [hf _ (hne p (mt p hp))]
    omega
  have high : ∀ p, p ∈ l1.drop (lead (holdN t) l1) → key (setOf σ (id : Int) t) id < key (setOf σ (id : Int) t) p.1 := fun p hp => by
    have a := ((pd p).1 hp).2
    have v := hval p (md p hp)
    rw [hki]
    unfold key
    rw [hf _ (hne p (md p hp))]
    omega
  have hsort : l1.Pairwise fun a b => key (setOf σ (id : Int) t) a.1 < key (setOf σ (id : Int) t) b.1 := hs1.imp_of_mem (fun ha hb hab => by rw [hkey _ ha, hkey _ hb]; exact hab)
  have hsplit := hsort
  rw [← List.take_append_drop (lead (holdN t) l1) l1, List.pairwise_append] at hsplit
  refine ⟨fun p => ?_, ?_⟩
  · have hmem : p ∈ insR l1 id (holdN t) ↔ p ∈ l1 ∨ p = (id, holdN t) := by
      unfold insR
      rw [List.mem_append, List.mem_append, List.mem_singleton]
      constructor
      · rintro ((c | c) | c)
        · exact Or.inl (mt p c)
        · exact Or.inr c
        · exact Or.inl (md p c)
      · rintro (c | c)
        · rw [← List.take_append_drop (lead (holdN t) l1) l1, List.mem_append] at c
          rcases c with c | c
          · exact Or.inl (Or.inl c)
          · exact Or.inr c
        · exact Or.inl (Or.inr c)
    rw [hmem, show (setOf σ (id : Int) t).n = σ.n by rw [e0]]
    by_cases e : p.1 = id
    · constructor
      · rintro (c | c)
        · exact absurd e (hne p c)
        · subst c; rw [hfi]; exact ⟨hid, Nat.succ_pos _, rfl⟩
      · intro k
        rw [e, hfi] at k
        exact Or.inr (Prod.ext e k.2.2)
    · rw [hf _ e]
      constructor
      · rintro (c | c)
        · rw [← hl1] at c; exact (h.mem p).1 (mem_keep.1 c).1
        · subst c; exact absurd rfl e
      · intro k
        refine Or.inl ?_
        rw [← hl1]
        exact mem_keep.2 ⟨(h.mem p).2 k, fun z => e (by omega)⟩
  · unfold insR
    rw [List.pairwise_append, List.pairwise_append]
    refine ⟨⟨hsplit.1, List.pairwise_singleton _ _, fun a ha b hb => ?_⟩, hsplit.2.1, fun a ha b hb => ?_⟩
    · rw [List.mem_singleton] at hb; subst hb; exact low a ha
    · rw [List.mem_append, List.mem_singleton] at ha
      rcases ha with ha | ha
      · exact hsplit.2.2 a ha b hb
      · subst ha; exact high b hb

set_option maxHeartbeats 1000000 in
theorem refSet_no (R : Nat) (M : Int) (v : Value) (l : List (Nat × Nat)) (id t : Int) (hid : ¬ (0 ≤ id ∧ id < M)) (w : World) (hR : AtR w R M v l) :
    Calls Try.prog 16 #[.pointer (some ⟨R, 0, none⟩), .int .i64 id, .int .i64 t] w fun e w' => e = .returned (.bool false) ∧ w' = w := by
  obtain ⟨c0, _, _⟩ := hR.cells
  clear hR
  by_cases h : id < 0
  · have d1 : decide (id < 0) = true := decide_eq_true h
    go_enter Try.func16, Try.ntmps16
    go_wp2
    go_ret
    exact ⟨rfl, rfl⟩
  · have d1 : decide (id < 0) = false := decide_eq_false h
    have d2 : decide (M ≤ id) = true := by simp; omega
    go_enter Try.func16, Try.ntmps16
    go_wp2
    go_ret
    exact ⟨rfl, rfl⟩

end Go.Proofs.Ytnciefdhgokffaa
