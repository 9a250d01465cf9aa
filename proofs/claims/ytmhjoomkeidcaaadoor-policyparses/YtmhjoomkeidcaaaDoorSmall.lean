/-
  What the small questions of policy.Check come to: limits, counts, quotas, a link's ends and its size.
-/
import Derived.Test.YtmhjoomkeidcaaaDoorPlace
namespace Go.Proofs.YtmhjoomkeidcaaaDoor
open Go.RowKit L2

def inB (n lo hi : Int) : Bool := decide (lo ≤ n ∧ n ≤ hi)
theorem inB_yes {n lo hi : Int} (h : lo ≤ n) : inB n lo hi = decide (n ≤ hi) := by simp [inB, h]
theorem inB_no {n lo hi : Int} (h : ¬ lo ≤ n) : inB n lo hi = false := by simp [inB, h]
theorem inB_iff {n lo hi : Int} : inB n lo hi = true ↔ lo ≤ n ∧ n ≤ hi := by simp [inB]
theorem inB_niff {n lo hi : Int} : inB n lo hi = false ↔ ¬ (lo ≤ n ∧ n ≤ hi) := by rw [← inB_iff]; simp

set_option maxHeartbeats 400000 in
theorem within_any (n lo hi : Int) (w : World) :
    Calls Tryd.prog 44 #[.int .i64 n, .int .i64 lo, .int .i64 hi] w fun e w' => e = .returned (.bool (inB n lo hi)) ∧ w' = w := by
  by_cases h : lo ≤ n
  · rw [inB_yes h]
    go_enter Tryd.func44, Tryd.ntmps44
    go_wp2
    go_ret
    exact ⟨rfl, rfl⟩
  · rw [inB_no h]
    go_enter Tryd.func44, Tryd.ntmps44
    go_wp2
    go_ret
    exact ⟨rfl, rfl⟩

theorem within_is {n lo hi : Int} {b : Bool} (h : inB n lo hi = b) (w : World) :
    Calls Tryd.prog 44 #[.int .i64 n, .int .i64 lo, .int .i64 hi] w fun e w' => e = .returned (.bool b) ∧ w' = w := by
  subst h; exact within_any n lo hi w

/-- Are there as many as may be? -/
def countB (nd ns nl : Nat) : Bool := inB nd 1 8 && (inB ns 1 16 && decide ((nl : Int) ≤ 8))
theorem countB_of (p : Pol) : countsB p = countB p.ds.length p.ss.length p.ls.length := by
  unfold countsB countB inB
  rw [Bool.eq_iff_iff]
  simp
  omega

set_option maxHeartbeats 400000 in
theorem counts_any (a1 a2 a3 : Option Addr) (nd c1 ns c2 nl c3 : Nat) (w : World) :
    Calls Tryd.prog 20 #[.agg #[.slice a1 nd c1, .slice a2 ns c2, .slice a3 nl c3]] w fun e w' => e = .returned (.bool (countB nd ns nl)) ∧ Below w.heap.size w w' := by
  unfold countB
  cases h1 : inB nd 1 8
  · go_enter Tryd.func20, Tryd.ntmps20
    go_wp2_with fail
    refine (within_is h1 _).mono ?_
    rintro e w1 ⟨rfl, rfl⟩
    go_wp2
    go_ret
    exact ⟨rfl, below1 _ _⟩
  · cases h2 : inB ns 1 16
    · go_enter Tryd.func20, Tryd.ntmps20
      go_wp2_with fail
      refine (within_is h1 _).mono ?_
      rintro e w1 ⟨rfl, rfl⟩
      go_wp2_with fail
      refine (within_is h2 _).mono ?_
      rintro e w1 ⟨rfl, rfl⟩
      go_wp2
      go_ret
      exact ⟨rfl, below1 _ _⟩
    · go_enter Tryd.func20, Tryd.ntmps20
      go_wp2_with fail
      refine (within_is h1 _).mono ?_
      rintro e w1 ⟨rfl, rfl⟩
      go_wp2_with fail
      refine (within_is h2 _).mono ?_
      rintro e w1 ⟨rfl, rfl⟩
      go_wp2
      go_ret
      exact ⟨rfl, below1 _ _⟩

theorem quotaB_of (d : Dm) : quotaB d = (inB d.tasks 1 8 && (inB d.objs 0 8 && inB d.ring 1 16)) := by
  unfold quotaB inB
  rw [Bool.eq_iff_iff]
  simp
  omega

set_option maxHeartbeats 400000 in
theorem quotas_any (d : Dm) (w : World) :
    Calls Tryd.prog 47 #[.agg #[.string d.name, .int .i64 d.lev, .int .i64 d.cat, .int .i64 d.tasks, .int .i64 d.objs, .int .i64 d.ring]] w fun e w' => e = .returned (.bool (quotaB d)) ∧ Below w.heap.size w w' := by
  rw [quotaB_of]
  cases h1 : inB d.tasks 1 8
  · go_enter Tryd.func47, Tryd.ntmps47
    go_wp2_with fail
    refine (within_is h1 _).mono ?_
    rintro e w1 ⟨rfl, rfl⟩
    go_wp2
    go_ret
    exact ⟨rfl, below1 _ _⟩
  · cases h2 : inB d.objs 0 8
    · go_enter Tryd.func47, Tryd.ntmps47
      go_wp2_with fail
      refine (within_is h1 _).mono ?_
      rintro e w1 ⟨rfl, rfl⟩
      go_wp2_with fail
      refine (within_is h2 _).mono ?_
      rintro e w1 ⟨rfl, rfl⟩
      go_wp2
      go_ret
      exact ⟨rfl, below1 _ _⟩
    · cases h3 : inB d.ring 1 16
      all_goals
        go_enter Tryd.func47, Tryd.ntmps47
        go_wp2_with fail
        refine (within_is h1 _).mono ?_
        rintro e w1 ⟨rfl, rfl⟩
        go_wp2_with fail
        refine (within_is h2 _).mono ?_
        rintro e w1 ⟨rfl, rfl⟩
        go_wp2_with fail
        refine (within_is h3 _).mono ?_
        rintro e w1 ⟨rfl, rfl⟩
        go_wp2
        go_ret
        exact ⟨rfl, below1 _ _⟩

theorem endsB_of (nd : Nat) (l : Lk) : endsB nd l = (inB l.src 0 ((nd : Int) - 1) && (inB l.dst 0 ((nd : Int) - 1) && (l.src != l.dst))) := by
  unfold endsB inB
  rw [Bool.eq_iff_iff]
  simp
  omega

set_option maxHeartbeats 400000 in
theorem ends_any (l : Lk) (nd : Nat) (hn : nd ≤ 5000) (w : World) :
    Calls Tryd.prog 50 #[.agg #[.int .i64 l.kind, .int .i64 l.src, .int .i64 l.dst, .int .i64 l.size], .int .i64 nd] w fun e w' => e = .returned (.bool (endsB nd l)) ∧ Below w.heap.size w w' := by
  rw [endsB_of]
  cases h1 : inB l.src 0 ((nd : Int) - 1)
  · go_enter Tryd.func50, Tryd.ntmps50
    go_wp2_with fail
    refine (within_is h1 _).mono ?_
    rintro e w1 ⟨rfl, rfl⟩
    go_wp2
    go_ret
    exact ⟨rfl, below1 _ _⟩
  · cases h2 : inB l.dst 0 ((nd : Int) - 1)
    · go_enter Tryd.func50, Tryd.ntmps50
      go_wp2_with fail
      refine (within_is h1 _).mono ?_
      rintro e w1 ⟨rfl, rfl⟩
      go_wp2_with fail
      refine (within_is h2 _).mono ?_
      rintro e w1 ⟨rfl, rfl⟩
      go_wp2
      go_ret
      exact ⟨rfl, below1 _ _⟩
    · cases h3 : (l.src != l.dst)
      all_goals
        go_enter Tryd.func50, Tryd.ntmps50
        go_wp2_with fail
        refine (within_is h1 _).mono ?_
        rintro e w1 ⟨rfl, rfl⟩
        go_wp2_with fail
        refine (within_is h2 _).mono ?_
        rintro e w1 ⟨rfl, rfl⟩
        go_wp2
        go_ret
        exact ⟨rfl, below1 _ _⟩

theorem sizeB_one {l : Lk} (h : l.kind = 1) : sizeB l = inB l.size 1 4 := by
  unfold sizeB inB; rw [decide_eq_decide]; omega
theorem sizeB_two {l : Lk} (h : l.kind = 2) : sizeB l = inB l.size 1 8 := by
  unfold sizeB inB; rw [decide_eq_decide]; omega
theorem sizeB_none {l : Lk} (h : ¬ l.kind = 1) (h' : ¬ l.kind = 2) : sizeB l = false := by
  unfold sizeB; rw [decide_eq_false_iff_not]; omega

set_option maxHeartbeats 400000 in
theorem size_any (l : Lk) (w : World) :
    Calls Tryd.prog 51 #[.agg #[.int .i64 l.kind, .int .i64 l.src, .int .i64 l.dst, .int .i64 l.size]] w fun e w' => e = .returned (.bool (sizeB l)) ∧ Below w.heap.size w w' := by
  by_cases h1 : l.kind = 1
  · rw [sizeB_one h1]
    have hb : (l.kind == 1) = true := by simpa using h1
    clear h1
    go_enter Tryd.func51, Tryd.ntmps51
    go_wp2_with fail
    refine (within_any _ _ _ _).mono ?_
    rintro e w1 ⟨rfl, rfl⟩
    go_wp2
    go_ret
    exact ⟨rfl, below1 _ _⟩
  · have hb : (l.kind == 1) = false := by simpa using h1
    by_cases h2 : l.kind = 2
    · rw [sizeB_two h2]
      have hb2 : (l.kind == 2) = true := by simpa using h2
      clear h1 h2
      go_enter Tryd.func51, Tryd.ntmps51
      go_wp2_with fail
      refine (within_any _ _ _ _).mono ?_
      rintro e w1 ⟨rfl, rfl⟩
      go_wp2
      go_ret
      exact ⟨rfl, below1 _ _⟩
    · rw [sizeB_none h1 h2]
      have hb2 : (l.kind == 2) = false := by simpa using h2
      clear h1 h2
      go_enter Tryd.func51, Tryd.ntmps51
      go_wp2
      go_ret
      exact ⟨rfl, below1 _ _⟩

end Go.Proofs.YtmhjoomkeidcaaaDoor
