/-
  What wheel's Due comes to.
-/
import Derived.Test.YtnciefdhgokffaaPdq
namespace Go.Proofs.Ytnciefdhgokffaa
open Go.RowKit

theorem info3 : (Try.prog.info? 3).map (fun i => (i.zero, i.size, i.bytes)) = some (some (.int .i64 0), 1, 8) := by kernel_rfl

abbrev isDue (σ : Ws) (N : Nat) (i : Nat) : Prop := 0 < (σ.f i).set ∧ (σ.f i).due ≤ N
def dueTo (σ : Ws) (N : Nat) (k : Nat) : List Nat := (List.range k).filter fun i => decide (isDue σ N i)
theorem dueTo_yes {σ : Ws} {N k : Nat} (h : isDue σ N k) : dueTo σ N (k + 1) = dueTo σ N k ++ [k] := by simp [dueTo, List.range_succ, h.1, h.2]
theorem dueTo_no {σ : Ws} {N k : Nat} (h : ¬ isDue σ N k) : dueTo σ N (k + 1) = dueTo σ N k := by
  simp only [dueTo, List.range_succ, List.filter_append]
  have : decide (isDue σ N k) = false := decide_eq_false h
  simp [List.filter, this]
theorem dueTo_len (σ : Ws) (N k : Nat) : (dueTo σ N k).length ≤ k := by
  have := List.length_filter_le (fun i => decide (isDue σ N i)) (List.range k)
  simpa [dueTo] using this
theorem dueTo_mem {σ : Ws} {N k i : Nat} : i ∈ dueTo σ N k ↔ i < k ∧ isDue σ N i := by simp [dueTo]
theorem dueTo_nodup (σ : Ws) (N k : Nat) : (dueTo σ N k).Nodup := List.Pairwise.filter _ List.nodup_range

def DueIs (σ : Ws) (now : Int) (l : List Nat) : Prop := l.Perm (dueTo σ (holdN now) σ.n) ∧ l.Pairwise (fun a b => key σ a < key σ b)
def dueOf (σ : Ws) (now : Int) : Ws := ⟨σ.n, σ.s, fun i => if i < σ.n ∧ isDue σ (holdN now) i then ⟨0, 0⟩ else σ.f i⟩
def stopAll (σ : Ws) (l : List Nat) : Ws := l.foldl (fun (s : Ws) (i : Nat) => stopOf s (i : Int)) σ
theorem stopOf_n (σ : Ws) (id : Int) : (stopOf σ id).n = σ.n ∧ (stopOf σ id).s = σ.s := by unfold stopOf; split <;> exact ⟨rfl, rfl⟩
theorem stopAll_n (σ : Ws) (l : List Nat) : (stopAll σ l).n = σ.n ∧ (stopAll σ l).s = σ.s := by
  induction l generalizing σ with
  | nil => exact ⟨rfl, rfl⟩
  | cons a l ih => have := ih (stopOf σ (a : Int)); have h := stopOf_n σ (a : Int); exact ⟨this.1.trans h.1, this.2.trans h.2⟩
theorem stopAll_snoc (σ : Ws) (l : List Nat) (a : Nat) : stopAll σ (l ++ [a]) = stopOf (stopAll σ l) (a : Int) := by simp [stopAll]
theorem stopOf_f (σ : Ws) (a i : Nat) (ha : a < σ.n) : (stopOf σ (a : Int)).f i = if i = a ∧ 0 < (σ.f i).set then ⟨0, 0⟩ else σ.f i := by
  unfold stopOf
  by_cases h : setT σ (a : Int)
  · rw [if_pos h]
    have h2 : 0 < (σ.f a).set := by simpa using h.2
    by_cases e : i = a
    · subst e; simp [upd_same, h2]
    · simp [upd_other _ _ e, e]
  · rw [if_neg h]
    by_cases e : i = a
    · subst e
      have : ¬ 0 < (σ.f i).set := fun h2 => h ⟨⟨by omega, by omega⟩, by simpa using h2⟩
      simp [this]
    · simp [e]
theorem stopAll_f (σ : Ws) (l : List Nat) (hl : ∀ a ∈ l, a < σ.n) (i : Nat) : (stopAll σ l).f i = if i ∈ l ∧ 0 < (σ.f i).set then ⟨0, 0⟩ else σ.f i := by
  induction l generalizing σ with
  | nil => simp [stopAll]
  | cons a l ih =>
    have ha := hl a (by simp)
    have hn := (stopOf_n σ (a : Int)).1
    rw [show stopAll σ (a :: l) = stopAll (stopOf σ (a : Int)) l from rfl, ih _ (fun b hb => by rw [hn]; exact hl b (by simp [hb])), stopOf_f σ a i ha]
    by_cases e : i = a
    · subst e
      by_cases s : 0 < (σ.f i).set
      · simp [s]
      · simp [s]
    · simp [e]
theorem stopAll_ok {K : Nat} {σ : Ws} (h : Ok K σ) (l : List Nat) : Ok K (stopAll σ l) := by
  induction l generalizing σ with
  | nil => exact h
  | cons a l ih => exact ih (stopOf_ok h (a : Int))
theorem dueOf_is {σ : Ws} {now : Int} {l : List Nat} (h : DueIs σ now l) : stopAll σ l = dueOf σ now := by
  have hm : ∀ i, i ∈ l ↔ i < σ.n ∧ isDue σ (holdN now) i := fun i => h.1.mem_iff.trans dueTo_mem
  have e := stopAll_n σ l
  have f : (stopAll σ l).f = (dueOf σ now).f := by
    funext i
    rw [stopAll_f σ l (fun a ha => ((hm a).1 ha).1) i]
    show _ = if i < σ.n ∧ isDue σ (holdN now) i then _ else _
    by_cases c : i < σ.n ∧ isDue σ (holdN now) i
    · rw [if_pos c, if_pos ⟨(hm i).2 c, c.2.1⟩]
    · rw [if_neg c, if_neg (fun k => c ((hm i).1 k.1))]
  cases hs : stopAll σ l
  rw [hs] at e f
  cases e.1; cases e.2; cases f
  rfl
theorem dueOf_ok {K : Nat} {σ : Ws} (h : Ok K σ) (now : Int) {l : List Nat} (hl : DueIs σ now l) : Ok K (dueOf σ now) := by rw [← dueOf_is hl]; exact stopAll_ok h l

theorem owns_ne {w : World} {B : Nat} {σ : Ws} (hA : AtW w B σ) {base n : Nat} {v : Value} {xs : List Value} (h : w.ownsRow base 3 1 v n xs) : ∀ k, v.ownBlock = some k → k ≠ B := by
  intro k hk e
  subst e
  obtain ⟨cs, h1, _⟩ := hA.box
  rcases h.2 with ⟨rfl, _⟩ | ⟨g, cap, cur, rfl, _, hh, _⟩
  · simp [Value.ownBlock] at hk
  · simp [Value.ownBlock] at hk
    subst hk
    rw [h1] at hh
    simp at hh
theorem owns_turn {w w' : World} {B : Nat} {σ : Ws} (hA : AtW w B σ) {base n : Nat} {v : Value} {xs : List Value} (h : w.ownsRow base 3 1 v n xs) (ht : Turn B w w') : w'.ownsRow base 3 1 v n xs := by
  have ho := owns_ne hA h
  refine ⟨h.1, ?_⟩
  rcases h.2 with h3 | ⟨g, cap, cur, rfl, hb, hh, r⟩
  · exact Or.inl h3
  · exact Or.inr ⟨g, cap, cur, rfl, hb, (ht.block g (Array.getElem?_eq_some_iff.1 hh).1 (ho g rfl)).trans hh, r⟩
theorem owns_below {w w' : World} {base e size n : Nat} {v : Value} {xs : List Value} (h : w.ownsRow base e size v n xs) (k : Below w.heap.size w w') : w'.ownsRow base e size v n xs := by
  refine ⟨h.1, ?_⟩
  rcases h.2 with h3 | ⟨g, cap, cur, rfl, hb, hh, r⟩
  · exact Or.inl h3
  · exact Or.inr ⟨g, cap, cur, rfl, hb, (k.block g (Array.getElem?_eq_some_iff.1 hh).1).trans hh, r⟩
theorem below_owns {W a b : World} {n : Nat} {o : Obj} {base e size m : Nat} {v : Value} {xs : List Value} (h : Below n W a) (hn : n ≤ a.heap.size) (hown : a.ownsRow base e size v m xs) (hb : n ≤ base) (hg : (a.alloc o).grownBy b v.ownBlock) : Below n W b :=
  (h.alloc hn o).grown hg (by simp; omega) (fun j hj => Nat.le_trans hb (hown.lt j hj).1)
theorem owns_slice {W : World} {base e size : Nat} {v : Value} {n : Nat} {xs : List Value} (h : W.ownsRow base e size v n xs) : ∃ a c, v = .slice a n c := by
  rcases h.2 with ⟨rfl, rfl⟩ | ⟨g, cap, cur, rfl, _⟩
  · exact ⟨none, 0, rfl⟩
  · exact ⟨_, _, rfl⟩
theorem owns_block {W : World} {base : Nat} {v : Value} {l : List Nat} (h : W.ownsRow base 3 1 v l.length (cI l)) (h0 : 0 < l.length) : ∃ g c, v = .slice (some ⟨g, 0, none⟩) l.length c ∧ base ≤ g := by
  rcases h.2 with ⟨_, h1⟩ | ⟨g, cap, cur, rfl, hb, _⟩
  · omega
  · exact ⟨g, cap, rfl, hb⟩

set_option maxHeartbeats 1000000 in
theorem ins_none (p : Option Addr) (c : Nat) (fv : Value) (w : World) : Calls Try.prog 33 #[.slice p 0 c, .int .i64 0, .int .i64 0, fv] w fun e w' => e = .returned (.tuple #[]) ∧ w' = w := by
  go_enter Try.func33, Try.ntmps33
  go_wp2
  refine wp_loop_rounds 1 ?_
  rw [rounds_succ]
  go_wp2
  go_end0
  exact ⟨rfl, rfl⟩
set_option maxHeartbeats 1000000 in
set_option maxRecDepth 100000 in
theorem pdq_none (p : Option Addr) (c : Nat) (fv : Value) (lim : Int) (w : World) : Calls Try.prog 28 #[.slice p 0 c, .int .i64 0, .int .i64 0, .int .i64 lim, fv] w fun e w' => e = .returned (.tuple #[]) ∧ w' = w := by
  go_enter Try.func28, Try.ntmps28
  go_wp2
  refine wp_loop_rounds 1 ?_
  rw [rounds_succ]
  go_wp2_with (go_at_call 33; refine (ins_none _ _ _ _).mono ?_; rintro e w' ⟨rfl, hw⟩; subst hw)
  (try simp only [Exit.inBlock, Exit.then])
  refine bodyPost_ret (results_none rfl _ _ _) rfl ?_
  exact ⟨rfl, rfl⟩
set_option maxHeartbeats 1000000 in
theorem sort_none (p : Option Addr) (c : Nat) (fv : Value) (w : World) : Calls Try.prog 23 #[.slice p 0 c, fv] w fun e w' => e = .returned (.tuple #[]) ∧ w' = w := by
  have T1 : Hid (∀ W, Calls Try.prog 29 #[.int .u64 0] W fun e w' => e = .returned (.int .i64 (Lib.bitLen 0 : Nat)) ∧ w' = W) := hide (fun W => len_any 0 (by omega) W)
  generalize Lib.bitLen 0 = l at *
  go_enter Try.func23, Try.ntmps23
  go_wp2_with (first | (go_at_call 29; refine (T1.out _).mono ?_; rintro e w' ⟨rfl, hw⟩; subst hw) | (go_at_call 28; refine (pdq_none _ _ _ _ _).mono ?_; rintro e w' ⟨rfl, hw⟩; subst hw))
  go_end0
  exact ⟨rfl, rfl⟩

end Go.Proofs.Ytnciefdhgokffaa
