/-
  Plain facts for the law FifoOrder: what other queues do leaves one queue alone.
-/
import Derived.Test.YtonahaembfbgbaaMem
namespace Go.Proofs.Ytonahaembfbgbaa
open Go.RowKit

/-- The second queue's items are ws, all below 16; none from 16 on is in it. -/
structure Od (s : Qs) (ws : List Nat) : Prop where
  ok : Ok s
  nq : s.nq = 3
  ni : s.ni = 32
  l1 : s.l 1 = ws
  lo : ∀ x, x < 16 → s.wh x = -1 ∨ s.wh x = 1
  hi : ∀ x, 16 ≤ x → x < 32 → s.wh x ≠ 1

theorem od_new : Od (newOf 3 32) [] := ⟨newOf_ok (by omega) (by omega), rfl, rfl, rfl, fun _ _ => .inl rfl, fun _ _ _ => by simp [newOf]⟩

theorem od_push1 {s : Qs} {ws : List Nat} (h : Od s ws) {x : Nat} (hx : x < 16) : Od (pushOf s 1 (x : Int)) (if pushB s 1 (x : Int) = true then ws ++ [x] else ws) := by
  by_cases hf : fits s 1 (x : Int)
  · rw [show pushB s 1 (x : Int) = true from if_pos hf, if_pos rfl, show pushOf s 1 (x : Int) = pushAt s 1 x from if_pos hf]
    refine ⟨pushAt_ok h.ok (by have := h.nq; omega) (by have := h.ni; omega) (by simpa using hf.2.2), h.nq, h.ni, ?_, fun y hy => ?_, fun y h1 h2 => ?_⟩
    · show setL s.l 1 (s.l 1 ++ [x]) 1 = ws ++ [x]
      rw [setL_same, h.l1]
    · show setW s.wh x ((1 : Nat) : Int) y = -1 ∨ setW s.wh x ((1 : Nat) : Int) y = 1
      by_cases e : y = x
      · subst e; rw [setW_same]; right; rfl
      · rw [setW_other _ _ e]; exact h.lo y hy
    · show setW s.wh x ((1 : Nat) : Int) y ≠ 1
      rw [setW_other _ _ (by omega)]; exact h.hi y h1 h2
  · rw [show pushB s 1 (x : Int) = false from if_neg hf, if_neg (by simp), show pushOf s 1 (x : Int) = s from if_neg hf]
    exact h
theorem od_push2 {s : Qs} {ws : List Nat} (h : Od s ws) {x : Nat} (hx : 16 ≤ x ∧ x < 32) : Od (pushOf s 2 (x : Int)) ws := by
  by_cases hf : fits s 2 (x : Int)
  · rw [show pushOf s 2 (x : Int) = pushAt s 2 x from if_pos hf]
    refine ⟨pushAt_ok h.ok (by have := h.nq; omega) (by have := h.ni; omega) (by simpa using hf.2.2), h.nq, h.ni, ?_, fun y hy => ?_, fun y h1 h2 => ?_⟩
    · show setL s.l 2 (s.l 2 ++ [x]) 1 = ws
      rw [setL_other _ _ (by omega), h.l1]
    · show setW s.wh x ((2 : Nat) : Int) y = -1 ∨ setW s.wh x ((2 : Nat) : Int) y = 1
      rw [setW_other _ _ (by omega)]; exact h.lo y hy
    · show setW s.wh x ((2 : Nat) : Int) y ≠ 1
      by_cases e : y = x
      · subst e; rw [setW_same]; omega
      · rw [setW_other _ _ e]; exact h.hi y h1 h2
  · rw [show pushOf s 2 (x : Int) = s from if_neg hf]
    exact h
theorem od_rm {s : Qs} {ws : List Nat} (h : Od s ws) {x : Nat} (hx : 16 ≤ x ∧ x < 32) : Od (rmOf s (x : Int)) ws := by
  unfold rmOf
  split
  · exact h
  · rename_i hw
    obtain ⟨k, y, e, h1, h2, h3, h4⟩ := whereOf_at h.ok hw
    obtain rfl : x = y := by omega
    have hk : k ≠ 1 := fun e => by subst e; exact h.hi x hx.1 hx.2 h3
    rw [h4]
    refine ⟨rmAt_ok h.ok (by omega) (by omega) (by simpa using h3), h.nq, h.ni, ?_, fun z hz => ?_, fun z h5 h6 => ?_⟩
    · show setL s.l (k : Int).toNat ((s.l (k : Int).toNat).filter (fun y => y != (x : Int).toNat)) 1 = ws
      rw [setL_other _ _ (by omega), h.l1]
    · show setW s.wh (x : Int).toNat (-1) z = -1 ∨ setW s.wh (x : Int).toNat (-1) z = 1
      rw [setW_other _ _ (by omega)]; exact h.lo z hz
    · show setW s.wh (x : Int).toNat (-1) z ≠ 1
      by_cases e : z = (x : Int).toNat
      · rw [e, setW_same]; omega
      · rw [setW_other _ _ e]; exact h.hi z h5 h6
theorem od_pop2 {s : Qs} {ws : List Nat} (h : Od s ws) : Od (popOf s 2) ws := by
  unfold popOf
  split
  · exact h
  · rename_i hne
    have hm : popX s 2 ∈ allOf s 2 := by
      unfold popX
      revert hne
      cases allOf s 2 with
      | nil => simp
      | cons a r => simp
    obtain ⟨_, _, h3, h4⟩ := all_where h.ok hm
    have h5 : 16 ≤ popX s 2 := by
      rcases Nat.lt_or_ge (popX s 2) 16 with h6 | h6
      · rcases h.lo _ h6 with h7 | h7 <;> omega
      · exact h6
    exact od_rm h ⟨h5, by have := h.ni; omega⟩

/-- What the first one's leaving leaves. -/
theorem pop_cons {s : Qs} (hs : Ok s) {k x : Nat} {r : List Nat} (hk : k < s.nq) (hl : s.l k = x :: r) :
    popX s (k : Int) = x ∧ popB s (k : Int) = true ∧ (popOf s (k : Int)).l k = r ∧ (popOf s (k : Int)).nq = s.nq ∧ allOf (popOf s (k : Int)) (k : Int) = r ∧ whereOf (popOf s (k : Int)) (x : Int) = -1 := by
  have hq : hasQ s (k : Int) := ⟨by omega, by omega⟩
  have ha : allOf s (k : Int) = x :: r := by unfold allOf; rw [if_pos hq]; simpa using hl
  have h1 : popX s (k : Int) = x := by simp [popX, ha]
  obtain ⟨w1, w2, w3, w4⟩ := all_where hs (k := (k : Int)) (x := x) (by rw [ha]; simp)
  have h2 : popOf s (k : Int) = rmAt s k x := by
    unfold popOf rmOf
    rw [if_neg (by rw [ha]; simp), h1, if_neg (by rw [w1]; omega), w1]
    rfl
  have hnd := hs.nodup k hk
  rw [hl] at hnd
  have hl' : (rmAt s k x).l k = r := by
    show setL s.l k ((s.l k).filter (fun y => y != x)) k = r
    rw [setL_same, hl]
    exact split_filter (l1 := []) hnd
  refine ⟨h1, by simp [popB, ha], by rw [h2]; exact hl', by rw [h2]; rfl, ?_, ?_⟩
  · rw [h2]
    unfold allOf
    rw [if_pos (show hasQ (rmAt s k x) (k : Int) from hq)]
    simpa using hl'
  · rw [h2]
    unfold whereOf
    split
    · show setW s.wh x (-1) (x : Int).toNat = -1
      rw [Int.toNat_natCast, setW_same]
    · rfl
theorem pop_empty {s : Qs} {k : Nat} (hl : s.l k = []) : popB s (k : Int) = false ∧ popOf s (k : Int) = s := by
  have ha : allOf s (k : Int) = [] := by
    unfold allOf
    split
    · simpa using hl
    · rfl
  exact ⟨if_pos ha, if_pos ha⟩

theorem drop_gs {ws : List Nat} {k : Nat} (h : k < ws.length) : ws.drop k = gs_ ws k :: ws.drop (k + 1) := by
  rw [List.drop_eq_getElem_cons h]
  simp [gs_, h]
theorem od_all {s : Qs} {ws : List Nat} (h : Od s ws) : allOf s 1 = ws := by
  unfold allOf
  rw [if_pos (show hasQ s 1 from ⟨by omega, by have := h.nq; omega⟩)]
  exact h.l1
theorem od_len {s : Qs} {ws : List Nat} (h : Od s ws) (hl : ws.length ≤ 32) : (allOf s 1).length ≤ 1000 := by rw [od_all h]; omega

end Go.Proofs.Ytonahaembfbgbaa
