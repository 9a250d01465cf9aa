/-
  What the law's own cap on lists comes to, and what a policy that may be keeps to.
-/
import Derived.Test.YtmhjoomkeidcaaaDoorAwake
import Derived.Test.YtmhjoomkeidcaaaDoorRefCheck
namespace Go.Proofs.YtmhjoomkeidcaaaDoor
open Go.RowKit L2

/-- n capped at most: m. -/
def Capped (most n m : Nat) : Prop := n ≤ most ∧ m = n ∨ most < n ∧ m = most

/-- What few hands back out of its box. -/
theorem few_ret {w W : World} {B : Nat} {t : Array Value} {x y z : Value} (h : W.heap[B]? = some (.cells #[x, y, z] 26 (0, 0))) (hb : Below w.heap.size w W) (e2 : t[2]? = some (.pointer (some ⟨B, 0, none⟩)) := by rfl) :
    bodyPost Tryd.prog Tryd.f9 (fun e w' => e = .returned (.agg #[x, y, z]) ∧ Below w.heap.size w w') Exit.ret { tmps := t, defers := [] } W := by
  obtain ⟨q0, q1, q2, _⟩ := blk_cells h
  exact bodyPost_ret (v := .agg #[x, y, z]) (by simp [results, Tryd.results9, go_sem, e2, q0, q1, q2]) rfl ⟨rfl, hb⟩

theorem alloc_at2 (w : World) (o o2 : Obj) : ((w.alloc o).alloc o2).heap[w.heap.size + 1]? = some o2 := by
  have := alloc_at (w.alloc o) o2
  rwa [show (w.alloc o).heap.size = w.heap.size + 1 by simp] at this

set_option maxHeartbeats 4000000 in
theorem few_any (a1 a2 a3 : Option Addr) (n1 n2 n3 m1 m2 m3 c1 c2 c3 : Nat) (h1 : Capped 12 n1 m1) (h2 : Capped 20 n2 m2) (h3 : Capped 12 n3 m3) (k1 : n1 ≤ c1) (k2 : n2 ≤ c2) (k3 : n3 ≤ c3) (w : World) :
    Calls Tryd.prog 9 #[.agg #[.slice a1 n1 c1, .slice a2 n2 c2, .slice a3 n3 c3]] w fun e w' => e = .returned (.agg #[.slice a1 m1 c1, .slice a2 m2 c2, .slice a3 m3 c3]) ∧ Below w.heap.size w w' := by
  rcases h1 with ⟨h1, rfl⟩ | ⟨h1, rfl⟩ <;> rcases h2 with ⟨h2, rfl⟩ | ⟨h2, rfl⟩ <;> rcases h3 with ⟨h3, rfl⟩ | ⟨h3, rfl⟩
  all_goals
    go_enter Tryd.func9, Tryd.ntmps9
    go_wp2
    exact few_ret (alloc_at2 _ _ _) (below2 _ _ _)

theorem check_zero {p : Pol} (h : checkOf p = 0) : countsB p = true ∧ (∀ i, i < p.ds.length → domE p.ds i = 0) ∧ (∀ i, i < p.ss.length → slotE p.ds.length p.ss i = 0) ∧ (∀ i, i < p.ds.length → hasE p.ss i = 0) ∧ (∀ i, i < p.ls.length → linkE p.ds p.ls i = 0) := by
  unfold checkOf at h
  cases hc : countsB p
  · rw [hc] at h; cases h
  · rw [hc, if_pos rfl] at h
    by_cases hd : domsE p.ds = 0
    · rw [if_neg (fun hh => hh hd)] at h
      by_cases hs : slotsE p.ds.length p.ss = 0
      · rw [if_neg (fun hh => hh hs)] at h
        have hs1 : scan (slotE p.ds.length p.ss) p.ss.length 0 = 0 := by
          unfold slotsE at hs
          by_cases hq : scan (slotE p.ds.length p.ss) p.ss.length 0 = 0
          · exact hq
          · rw [if_pos hq] at hs; cases hs
        have hs2 : scan (hasE p.ss) p.ds.length 0 = 0 := by
          unfold slotsE at hs
          rwa [if_neg (fun hh => hh hs1)] at hs
        exact ⟨rfl, fun i hi => scan_zero hd i (Nat.zero_le _) (by omega), fun i hi => scan_zero hs1 i (Nat.zero_le _) (by omega), fun i hi => scan_zero hs2 i (Nat.zero_le _) (by omega), fun i hi => scan_zero h i (Nat.zero_le _) (by omega)⟩
      · rw [if_pos hs] at h; exact (hs h).elim
    · rw [if_pos hd] at h; exact (hd h).elim

theorem link_zero {ds : List Dm} {ls : List Lk} {i : Nat} (h : linkE ds ls i = 0) : endsB ds.length (lk ls i) = true ∧ sizeB (lk ls i) = true ∧ upB ds (lk ls i) = true := by
  unfold linkE at h
  cases h1 : endsB ds.length (lk ls i) <;> cases h2 : sizeB (lk ls i) <;> cases h3 : upB ds (lk ls i) <;> rw [h1, h2] at h <;> simp [h3] at h
  exact ⟨rfl, rfl, rfl⟩
theorem dom_zero {ds : List Dm} {i : Nat} (h : domE ds i = 0) : nameBad ds i = false ∧ goodB (dm ds i).lev (dm ds i).cat = true ∧ quotaB (dm ds i) = true := by
  unfold domE at h
  cases h1 : nameBad ds i <;> cases h2 : goodB (dm ds i).lev (dm ds i).cat <;> cases h3 : quotaB (dm ds i) <;> rw [h1] at h <;> simp [h2, h3] at h
  exact ⟨rfl, rfl, rfl⟩
theorem has_zero {ss : List Sl} {i : Nat} (h : hasE ss i = 0) : (ss.any fun s => s.dom == (i : Int)) = true := by
  cases h1 : ss.any fun s => s.dom == (i : Int)
  · rw [hasE_bad h1] at h; cases h
  · rfl

/-- How many of the first slots are a domain's. -/
def cntS (ss : List Sl) (i : Nat) (k : Nat) : Nat := (ss.take k).countP fun s => s.dom == (i : Int)
theorem cntS_le (ss : List Sl) (i k : Nat) : cntS ss i k ≤ k := by
  unfold cntS
  refine Nat.le_trans List.countP_le_length ?_
  rw [List.length_take]; omega
theorem cntS_next {ss : List Sl} {i k : Nat} (h : k < ss.length) : cntS ss i (k + 1) = cntS ss i k + (if (sl ss k).dom == (i : Int) then 1 else 0) := by
  unfold cntS
  rw [List.take_add_one, sl_at h, List.countP_append]
  simp [List.countP_cons]
theorem cntS_pos {ss : List Sl} {i : Nat} (h : (ss.any fun s => s.dom == (i : Int)) = true) : 0 < cntS ss i ss.length := by
  unfold cntS
  rw [List.take_length]
  obtain ⟨x, hx, hp⟩ := List.any_eq_true.1 h
  exact List.countP_pos_iff.2 ⟨x, hx, hp⟩

end Go.Proofs.YtmhjoomkeidcaaaDoor
