/-
  What package tick's Next comes to: the first tick, from one on, at which a slot of a domain begins.
-/
import Derived.Test.YtkpnkpkokjcdoaaAt
namespace Go.Proofs.Ytkpnkpkokjcdoaa
open Go.RowKit Go.Shelf
attribute [local go_sem] Oper.semAt_some

/-- The first tick from T on at which a slot begins that lies o ticks behind a cycle's beginning; rd: where T's cycle began. -/
def begin (T rd : Int) (C : Nat) (o : Int) : Int := if rd + o < T then rd + o + (C : Int) else rd + o

theorem begin_low {T rd o : Int} {C : Nat} (h : rd + o < T) : begin T rd C o = rd + o + (C : Int) := by simp [begin, h]
theorem begin_high {T rd o : Int} {C : Nat} (h : ¬ rd + o < T) : begin T rd C o = rd + o := by simp [begin, h]

/-- What has been found of what has come. -/
def Found {ls : List (Int × Int)} (dom T rd : Int) (C : Nat) (p : List (Out ls)) (nx : Int) (fd : Bool) : Prop :=
  (fd = false ∧ nx = 0 ∧ ∀ x ∈ p, dm ls x.1.1 = dom → 4611686018427387904 < begin T rd C (x.1.2 : Int)) ∨
  (fd = true ∧ nx ≤ 4611686018427387904 ∧ (∃ x ∈ p, dm ls x.1.1 = dom ∧ begin T rd C (x.1.2 : Int) = nx) ∧ ∀ x ∈ p, dm ls x.1.1 = dom → nx ≤ begin T rd C (x.1.2 : Int))

theorem Found.skip {ls : List (Int × Int)} {dom T rd : Int} {C : Nat} {p : List (Out ls)} {nx : Int} {fd : Bool} (h : Found dom T rd C p nx fd) (x : Out ls)
    (hx : dm ls x.1.1 = dom → 4611686018427387904 < begin T rd C (x.1.2 : Int) ∨ (fd = true ∧ nx ≤ begin T rd C (x.1.2 : Int))) : Found dom T rd C (p ++ [x]) nx fd := by
  rcases h with ⟨h1, h2, h3⟩ | ⟨h1, h2, ⟨y, hy, h3⟩, h4⟩
  · refine .inl ⟨h1, h2, fun y hy hd => ?_⟩
    rcases List.mem_append.1 hy with hy | hy
    · exact h3 y hy hd
    · simp at hy; subst hy
      rcases hx hd with h | ⟨h, _⟩
      · exact h
      · rw [h1] at h; cases h
  · refine .inr ⟨h1, h2, ⟨y, List.mem_append.2 (.inl hy), h3⟩, fun z hz hd => ?_⟩
    rcases List.mem_append.1 hz with hz | hz
    · exact h4 z hz hd
    · simp at hz; subst hz
      rcases hx hd with h | ⟨_, h⟩
      · omega
      · exact h

theorem Found.take {ls : List (Int × Int)} {dom T rd : Int} {C : Nat} {p : List (Out ls)} {nx : Int} {fd : Bool} (h : Found dom T rd C p nx fd) (x : Out ls)
    (hd : dm ls x.1.1 = dom) (hm : begin T rd C (x.1.2 : Int) ≤ 4611686018427387904) (hx : fd = false ∨ begin T rd C (x.1.2 : Int) < nx) : Found dom T rd C (p ++ [x]) (begin T rd C (x.1.2 : Int)) true := by
  refine .inr ⟨rfl, hm, ⟨x, by simp, hd, rfl⟩, fun z hz hzd => ?_⟩
  rcases List.mem_append.1 hz with hz | hz
  · rcases h with ⟨h1, h2, h3⟩ | ⟨h1, h2, _, h4⟩
    · have := h3 z hz hzd; omega
    · have := h4 z hz hzd
      rcases hx with hx | hx
      · rw [h1] at hx; cases hx
      · omega
  · simp at hz; subst hz; exact Int.le_refl _

theorem mem_pre (ls : List (Int × Int)) {k : Nat} (h1 : k < ls.length) (h2 : cn ls k = true) : ∀ n, k < n → n ≤ ls.length → ⟨(k, off ls k), h1, h2, rfl⟩ ∈ pre ls n
  | 0, h, _ => by omega
  | n + 1, h, hn => by
    by_cases e : k = n
    · subst e; rw [pre_yes h1 h2]; simp
    · have ih := mem_pre ls h1 h2 n (by omega) (by omega)
      cases hc : cn ls n
      · rw [pre_no hc]; exact ih
      · rw [pre_yes (by omega) hc]; exact List.mem_append.2 (.inl ih)

/-- From T on nothing begins at the tick o of a cycle ahead of 'begin'; and 'begin' is such a tick. -/
theorem begin_least {T rd o : Int} {C : Nat} (hC : 0 < C) (h0 : 0 ≤ o) (h1 : o < (C : Int)) (hrd : rd = T - T % (C : Int)) :
    T ≤ begin T rd C o ∧ begin T rd C o % (C : Int) = o ∧ ∀ T', T ≤ T' → T' % (C : Int) = o → begin T rd C o ≤ T' := by
  have hq : rd = (C : Int) * (T / C) := by have := Int.mul_ediv_add_emod T C; omega
  have hr0 := Int.emod_nonneg T (show (C : Int) ≠ 0 by omega)
  have hr1 := Int.emod_lt_of_pos T (show (0 : Int) < C by omega)
  generalize T / (C : Int) = q at hq
  refine ⟨?_, ?_, ?_⟩
  · unfold begin; split <;> omega
  · unfold begin
    split
    · rw [hq, show (C : Int) * q + o + C = o + C * (q + 1) by rw [Int.mul_add]; omega, Int.add_mul_emod_self_left, Int.emod_eq_of_lt h0 h1]
    · rw [hq, Int.add_comm, Int.add_mul_emod_self_left, Int.emod_eq_of_lt h0 h1]
  · intro T' hT he
    have hq' : T' = (C : Int) * (T' / C) + o := by have := Int.mul_ediv_add_emod T' C; omega
    generalize T' / (C : Int) = q' at hq'
    unfold begin
    split
    · by_cases c : q + 1 ≤ q'
      · have := Int.mul_le_mul_of_nonneg_left c (show (0 : Int) ≤ C by omega)
        rw [Int.mul_add] at this; omega
      · have := Int.mul_le_mul_of_nonneg_left (show q' ≤ q by omega) (show (0 : Int) ≤ C by omega)
        omega
    · by_cases c : q ≤ q'
      · have := Int.mul_le_mul_of_nonneg_left c (show (0 : Int) ≤ C by omega)
        omega
      · have := Int.mul_le_mul_of_nonneg_left (show q' + 1 ≤ q by omega) (show (0 : Int) ≤ C by omega)
        rw [Int.mul_add] at this; omega

theorem found_next {ls : List (Int × Int)} {dom t rd nx : Int} {fd : Bool} {C : Nat} (hC : 0 < C) (he : off ls ls.length = C) (hrd : rd = hold t - hold t % (C : Int))
    (h : Found dom (hold t) rd C (pre ls ls.length) nx fd) : NextIs ls dom t nx fd := by
  subst he
  have key : ∀ k, k < ls.length → cn ls k = true → _ := fun k h1 h2 => begin_least (T := hold t) (rd := rd) (o := (off ls k : Int)) hC (by omega) (by have := off_pos h1 h2; omega) hrd
  rcases h with ⟨rfl, rfl, h3⟩ | ⟨rfl, h2, ⟨x, hx, hd, hb⟩, h4⟩
  · refine .inr ⟨rfl, rfl, fun T h1 h2 ⟨k, k1, k2, k3, k4⟩ => ?_⟩
    have a := h3 _ (mem_pre ls k1 k2 _ k1 (Nat.le_refl _)) k3
    have b := (key k k1 k2).2.2 T h1 k4
    simp only at a; omega
  · have x1 := x.2.1
    have x2 := x.2.2.1
    have x3 := x.2.2.2
    have b := key _ x1 x2
    rw [← x3, hb] at b
    refine .inl ⟨rfl, b.1, h2, ⟨x.1.1, x1, x2, hd, by rw [b.2.1, x3]⟩, fun T h1 h2' ⟨k, k1, k2, k3, k4⟩ => ?_⟩
    have a := h4 _ (mem_pre ls k1 k2 _ k1 (Nat.le_refl _)) k3
    have c := (key k k1 k2).2.2 T h1 k4
    simp only at a; omega

end Go.Proofs.Ytkpnkpkokjcdoaa
