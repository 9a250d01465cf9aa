/-
  What the document's 'owners' comes to: for each tick of a cycle the place of its slot, and whether it is its first one.
-/
import Derived.Test.YtkpnkpkokjcdoaaNextWalk
import Derived.Laws.OwnMore
namespace Go.Proofs.Ytkpnkpkokjcdoaa
open Go.RowKit

theorem info3 : (Try.prog.info? 3).map (fun i => (i.zero, i.size, i.bytes)) = some (some (.int .i64 0), 1, 8) := by kernel_rfl
theorem info4 : (Try.prog.info? 4).map (fun i => (i.zero, i.size, i.bytes)) = some (some (.bool false), 1, 1) := by kernel_rfl

/-- Of the slots ahead of place k: each tick's place; whether it is a slot's first one. -/
def owk (ls : List (Int × Int)) : Nat → List Nat
  | 0 => []
  | k + 1 => owk ls k ++ if cn ls k then List.replicate (ln ls k).toNat k else []
def fsk (ls : List (Int × Int)) : Nat → List Bool
  | 0 => []
  | k + 1 => fsk ls k ++ if cn ls k then (List.range (ln ls k).toNat).map (fun q => q == 0) else []

theorem owk_len (ls : List (Int × Int)) : ∀ k, (owk ls k).length = off ls k
  | 0 => rfl
  | k + 1 => by
    simp only [owk, off, List.length_append, owk_len ls k]
    split <;> simp
theorem fsk_len (ls : List (Int × Int)) : ∀ k, (fsk ls k).length = off ls k
  | 0 => rfl
  | k + 1 => by
    simp only [fsk, off, List.length_append, fsk_len ls k]
    split <;> simp

theorem owk_at (ls : List (Int × Int)) {r k : Nat} (h : Has ls r k) : ∀ n, k < n → (owk ls n)[r]? = some k
  | 0, h' => by omega
  | n + 1, h' => by
    simp only [owk]
    by_cases e : k = n
    · subst e
      rw [List.getElem?_append_right (by rw [owk_len]; exact h.1), owk_len, h.cn]
      have := h.2
      rw [off_yes h.cn] at this
      have h1 := h.1
      rw [if_pos rfl, List.getElem?_replicate, if_pos (by omega)]
    · have ih := owk_at ls h n (by omega)
      have hl : r < (owk ls n).length := by rw [owk_len]; have := off_mono ls (show k + 1 ≤ n by omega); have := h.2; omega
      rw [List.getElem?_append_left hl]; exact ih
theorem fsk_at (ls : List (Int × Int)) {r k : Nat} (h : Has ls r k) : ∀ n, k < n → (fsk ls n)[r]? = some (r == off ls k)
  | 0, h' => by omega
  | n + 1, h' => by
    simp only [fsk]
    by_cases e : k = n
    · subst e
      rw [List.getElem?_append_right (by rw [fsk_len]; exact h.1), fsk_len, h.cn]
      have := h.2
      rw [off_yes h.cn] at this
      have h1 := h.1
      rw [if_pos rfl, List.getElem?_map, List.getElem?_range (by omega)]
      simp only [Option.map_some, Option.some.injEq]
      rw [Bool.eq_iff_iff]; simp; omega
    · have ih := fsk_at ls h n (by omega)
      have hl : r < (fsk ls n).length := by rw [fsk_len]; have := off_mono ls (show k + 1 ≤ n by omega); have := h.2; omega
      rw [List.getElem?_append_left hl]; exact ih

def cI (l : List Nat) : List Value := l.map fun n : Nat => Value.int .i64 (n : Int)
def cB (l : List Bool) : List Value := l.map fun b => Value.bool b
theorem cI_snoc (l : List Nat) (k : Nat) : cI (l ++ [k]) = cI l ++ [.int .i64 (k : Int)] := by simp [cI]
theorem cB_snoc (l : List Bool) (b : Bool) : cB (l ++ [b]) = cB l ++ [.bool b] := by simp [cB]

/-- Behind q ticks of the slot at place k. -/
def owq (ls : List (Int × Int)) (k q : Nat) : List Nat := owk ls k ++ List.replicate q k
def fsq (ls : List (Int × Int)) (k q : Nat) : List Bool := fsk ls k ++ (List.range q).map (fun q => q == 0)
theorem owq_succ (ls : List (Int × Int)) (k q : Nat) : owq ls k (q + 1) = owq ls k q ++ [k] := by simp [owq, List.replicate_succ']
theorem fsq_succ (ls : List (Int × Int)) (k q : Nat) : fsq ls k (q + 1) = fsq ls k q ++ [q == 0] := by simp [fsq, List.range_succ]
theorem owq_len (ls : List (Int × Int)) (k q : Nat) : (owq ls k q).length = off ls k + q := by simp [owq, owk_len]
theorem fsq_len (ls : List (Int × Int)) (k q : Nat) : (fsq ls k q).length = off ls k + q := by simp [fsq, fsk_len]
theorem owq_end {ls : List (Int × Int)} {k : Nat} (h : cn ls k = true) : owk ls (k + 1) = owq ls k (ln ls k).toNat := by simp [owk, owq, h]
theorem fsq_end {ls : List (Int × Int)} {k : Nat} (h : cn ls k = true) : fsk ls (k + 1) = fsq ls k (ln ls k).toNat := by simp [fsk, fsq, h]
theorem owk_no {ls : List (Int × Int)} {k : Nat} (h : cn ls k = false) : owk ls (k + 1) = owk ls k := by simp [owk, h]
theorem fsk_no {ls : List (Int × Int)} {k : Nat} (h : cn ls k = false) : fsk ls (k + 1) = fsk ls k := by simp [fsk, h]

/-- A row of another element type is another block. -/
theorem row_other {w w' : World} {b1 b2 e1 e2 s1 s2 n1 n2 : Nat} {v u : Value} {xs ys : List Value} (h : w.ownsRow b1 e1 s1 v n1 xs) (k : w.ownsRow b2 e2 s2 u n2 ys) (hne : e1 ≠ e2) (hg : w.grownBy w' u.ownBlock) : w'.ownsRow b1 e1 s1 v n1 xs := by
  refine h.kept hg ?_
  rcases h.2 with ⟨rfl, _⟩ | ⟨g, cap, cur, rfl, _, hh, _⟩
  · exact .inl rfl
  · rcases k.2 with ⟨rfl, _⟩ | ⟨g', cap', cur', rfl, _, hh', _⟩
    · right; simp [Value.ownBlock]
    · right
      simp only [Value.ownBlock, ne_eq, Option.some.injEq]
      intro e; subst e
      rw [hh] at hh'
      cases hh'
      exact hne rfl

/-- A row of values, one for each tick of a cycle, as it lies in memory. -/
def TickRow (w : World) (ad : Option Addr) (ls : List (Int × Int)) (f : Nat → Nat → Value) : Prop :=
  off ls ls.length = 0 ∨ ∃ g, ad = some ⟨g, 0, none⟩ ∧ g < w.heap.size ∧ ∀ r k, k < ls.length → Has ls r k → w.cell? ⟨g, r, none⟩ = some (f r k)

theorem TickRow.below {w w' : World} {ad : Option Addr} {ls : List (Int × Int)} {f : Nat → Nat → Value} (h : TickRow w ad ls f) (k : Below w.heap.size w w') : TickRow w' ad ls f := by
  rcases h with h | ⟨g, h1, h2, h3⟩
  · exact .inl h
  · exact .inr ⟨g, h1, Nat.lt_of_lt_of_le h2 k.size, fun r j hj hh => (k.cell (p := ⟨g, r, none⟩) h2).trans (h3 r j hj hh)⟩

theorem tickRow_of {w : World} {base e : Nat} {v : Value} {ls : List (Int × Int)} {xs : List Value} {f : Nat → Nat → Value} (h : w.ownsRow base e 1 v (off ls ls.length) xs) (hx : ∀ r k, k < ls.length → Has ls r k → xs[r]? = some (f r k)) :
    ∃ ad cap, v = .slice ad (off ls ls.length) cap ∧ TickRow w ad ls f := by
  have h' := h
  rcases h.2 with ⟨rfl, h0⟩ | ⟨g, cap, cur, rfl, hb, hh, r⟩
  · exact ⟨none, 0, by rw [h0], .inl h0⟩
  · refine ⟨some ⟨g, 0, none⟩, cap, rfl, .inr ⟨g, rfl, (Array.getElem?_eq_some_iff.1 hh).1, fun r k hk hr => ?_⟩⟩
    have hlt : r < off ls ls.length := Nat.lt_of_lt_of_le hr.2 (off_mono ls hk)
    rw [h'.cellAt r (by omega)]
    exact hx r k hk hr

/-- What is owned behind the call. -/
def Owned (ls : List (Int × Int)) (w : World) (e : Ending) (W' : World) : Prop :=
  ∃ v u, e = .returned (.tuple #[v, u]) ∧ W'.ownsRow w.heap.size 3 1 v (off ls ls.length) (cI (owk ls ls.length)) ∧ W'.ownsRow w.heap.size 4 1 u (off ls ls.length) (cB (fsk ls ls.length)) ∧ Below w.heap.size w W'

theorem below_owns {W a b : World} {n : Nat} {o : Obj} {base e size m : Nat} {v : Value} {xs : List Value} (h : Below n W a) (hn : n ≤ a.heap.size) (hown : a.ownsRow base e size v m xs) (hb : n ≤ base) (hg : (a.alloc o).grownBy b v.ownBlock) : Below n W b :=
  (h.alloc hn o).grown hg (by simp; omega) (fun j hj => Nat.le_trans hb (hown.lt j hj).1)

set_option maxHeartbeats 4000000 in
set_option maxRecDepth 100000 in
theorem owners_owned (ad : Option Addr) (len cap : Nat) (ls : List (Int × Int)) (hm : len ≤ 16 ∧ ls.length = len ∨ 16 < len ∧ ls.length = 16) (hmax : cap ≤ maxLen) (w : World) (hrow : SlotRow w.heap.size w ad ls) :
    Calls Try.prog 20 #[.slice ad len cap] w fun e W' => Owned ls w e W' := by
  obtain ⟨i0, hi, hz0, hz1, hz2⟩ := info_parts info3
  obtain ⟨j0, hj, hy0, hy1, hy2⟩ := info_parts info4
  have HR : Hid (SlotRow w.heap.size w ad ls) := hrow
  have HM : Hid (cap ≤ maxLen) := hmax
  clear hrow hmax
  go_enter Try.func20, Try.ntmps20
  go_wp2
  go_loopw [4, 5, 6] (fun v u i wr => ∃ k : Nat, k ≤ ls.length ∧ i = .int .i64 k ∧ wr.ownsRow w.heap.size 3 1 v (off ls k) (cI (owk ls k)) ∧ wr.ownsRow w.heap.size 4 1 u (off ls k) (cB (fsk ls k)) ∧ Below w.heap.size w wr)
    (fun _ _ i _ => ls.length - (intOf i).toNat)
  case atStart =>
    exact ⟨0, Nat.zero_le _, rfl, (World.ownsRow_lit w #[] 0 (Nat.le_refl _) (by unfold maxLen; omega) rfl).alloc _, by have h := World.ownsRow_lit (base := w.heap.size) (size := 1) (e := 4) (w.alloc (.cells #[] 3)) #[] 0 (by simp) (by unfold maxLen; omega) rfl; simp only [World.size_alloc] at h; exact h, ((Below.refl _ _).alloc (Nat.le_refl _) _).alloc (by simp) _⟩
  case round =>
    obtain ⟨k, hk, rfl, hw, hf, hnx⟩ := hrel
    have hz := hnx.size
    by_cases hlt : k < ls.length
    · have h16 : k < 16 := by omega
      have hkl : (k : Int) < (len : Int) := by omega
      have hkl' : k < len := by omega
      have hk0 : (0 : Int) ≤ (k : Int) := by omega
      have hk16 : (k : Int) < 16 := by omega
      obtain ⟨b, o, rfl, hb, hcs⟩ : ∃ b off, ad = some ⟨b, off, none⟩ ∧ b < w.heap.size ∧ ∀ i, i < ls.length → wr.cell? ⟨b, off + i * 2, none⟩ = some (.int .i64 (dm ls i)) ∧ wr.cell? ⟨b, off + i * 2 + 1, none⟩ = some (.int .i64 (ln ls i)) := by
        rcases HR.out.below hnx with h | h
        · rw [h] at hlt; simp at hlt
        · exact h
      obtain ⟨_, c1⟩ := hcs k hlt
      clear hcs
      have hof := off_le ls k
      cases hcn : cn ls k
      · have hno := cn_not.1 hcn
        have HP : Hid (wr.ownsRow w.heap.size 3 1 u4 (off ls k) (cI (owk ls k)) ∧ wr.ownsRow w.heap.size 4 1 u5 (off ls k) (cB (fsk ls k))) := ⟨hw, hf⟩
        clear hw hf
        rcases hno with hno | hno
        all_goals
          go_wp2
          go_roundw
          case rel => exact ⟨k + 1, by omega, by go_num, by rw [off_no hcn, owk_no hcn]; exact HP.out.1, by rw [off_no hcn, fsk_no hcn]; exact HP.out.2, hnx⟩
          case measure => simp [intOf]; omega
      · obtain ⟨l1, l2⟩ := cn_iff.1 hcn
        have l1' : ¬ ln ls k < 1 := by omega
        have l2' : ¬ 16 < ln ls k := by omega
        have hL : ((ln ls k).toNat : Int) = ln ls k := by omega
        have HW : Hid (wr.ownsRow w.heap.size 3 1 u4 (off ls k + 0) (cI (owq ls k 0)) ∧ wr.ownsRow w.heap.size 4 1 u5 (off ls k + 0) (cB (fsq ls k 0))) := ⟨by simpa [owq] using hw, by simpa [fsq] using hf⟩
        have HL : Hid ((ln ls k).toNat = (ln ls k).toNat ∧ ((ln ls k).toNat : Int) = ln ls k) := ⟨rfl, hL⟩
        clear hw hf hL
        go_wp2
        go_loopw [4, 5, 7] (fun v u i w2 => ∃ q : Nat, (q : Int) ≤ ln ls k ∧ i = .int .i64 q ∧ w2.ownsRow w.heap.size 3 1 v (off ls k + q) (cI (owq ls k q)) ∧ w2.ownsRow w.heap.size 4 1 u (off ls k + q) (cB (fsq ls k q)) ∧ Below w.heap.size w w2)
          (fun _ _ i _ => (ln ls k).toNat - (intOf i).toNat)
        case atStart => exact ⟨0, by omega, rfl, HW.out.1, HW.out.2, hnx⟩
        case round =>
          clear HW c1 hnx hz
          obtain ⟨q, hq, rfl, hw, hf, hnx⟩ := hrel
          have hz := hnx.size
          obtain ⟨b', o', hbo, hb', hcs⟩ : ∃ b' off, (some ⟨b, o, none⟩ : Option Addr) = some ⟨b', off, none⟩ ∧ b' < w.heap.size ∧ ∀ i, i < ls.length → wr.cell? ⟨b', off + i * 2, none⟩ = some (.int .i64 (dm ls i)) ∧ wr.cell? ⟨b', off + i * 2 + 1, none⟩ = some (.int .i64 (ln ls i)) := by
            rcases HR.out.below hnx with h | h
            · rw [h] at hlt; simp at hlt
            · exact h
          simp at hbo
          obtain ⟨rfl, rfl⟩ := hbo
          obtain ⟨_, c1⟩ := hcs k hlt
          clear hcs
          by_cases hql : (q : Int) < ln ls k
          · have hof' : off ls k + q + 1 ≤ 256 := by omega
            go_wp2_with (first
              | (at_builtin; refine wpList_append_own _ rfl _ _ 39 rfl w.heap.size 3 i0 (.int .i64 0) 1 8 Try.underlying39 hi hz0 hz1 hz2 rfl (by decide) _ _ _ rfl (hw.alloc _) ⟨wr.heap.size, 0, none⟩ 1 1 [.int .i64 (k : Int)] rfl rfl ?c1 ?c2 ?c3 ?c4 ?c5 ?_)
              | fail)
            case c1 =>
              intro j u hj
              match j, hj with
              | 0, hj => simp at hj; subst hj; simp [Addr.add]
            case c2 => intro u hu; simp at hu; subst hu; rfl
            case c3 => unfold maxLen; omega
            case c4 => omega
            case c5 => simp; omega
            intro v' w3 hown' hgrow _
            have hnx3 := below_owns hnx hz hw (Nat.le_refl _) hgrow
            have hf3 := row_other (hf.alloc _) (hw.alloc _) (by decide) hgrow
            have hz3 := hnx3.size
            obtain ⟨g', cp', rfl⟩ := ownsRow_succ hown'
            clear hgrow hw hf
            have hq0 : ∃ bb : Bool, bb = (q == 0) ∧ (((q : Int) == 0) = bb) := ⟨_, rfl, by rw [Bool.eq_iff_iff]; simp⟩
            obtain ⟨bb, hbb, hbb'⟩ := hq0
            have HBB : Hid (bb = (q == 0)) := hbb
            clear hbb
            go_wp2_with (at_builtin; refine wpList_append_own _ rfl _ _ 40 rfl w.heap.size 4 j0 (.bool false) 1 1 Try.underlying40 hj hy0 hy1 hy2 rfl (by decide) _ _ _ rfl (hf3.alloc _) ⟨w3.heap.size, 0, none⟩ 1 1 [.bool bb] rfl rfl ?d1 ?d2 ?d3 ?d4 ?d5 ?_)
            case d1 =>
              intro j u hj
              match j, hj with
              | 0, hj => simp at hj; subst hj; simp [Addr.add]
            case d2 => intro u hu; simp at hu; subst hu; rfl
            case d3 => unfold maxLen; omega
            case d4 => omega
            case d5 => simp; omega
            intro u' w4 hown2 hgrow2 _
            have hnx4 := below_owns hnx3 hz3 hf3 (Nat.le_refl _) hgrow2
            have hw4 := row_other (hown'.alloc _) (hf3.alloc _) (by decide) hgrow2
            obtain ⟨g2, cp2, rfl⟩ := ownsRow_succ hown2
            clear hgrow2 hf3 hown'
            have HE : Hid (w4.ownsRow w.heap.size 3 1 (.slice (some ⟨g', 0, none⟩) (off ls k + q + 1) cp') (off ls k + (q + 1)) (cI (owq ls k (q + 1))) ∧ w4.ownsRow w.heap.size 4 1 (.slice (some ⟨g2, 0, none⟩) (off ls k + q + 1) cp2) (off ls k + (q + 1)) (cB (fsq ls k (q + 1)))) := by
              rw [owq_succ, cI_snoc, fsq_succ, cB_snoc, ← HBB.out]
              exact ⟨hw4, hown2⟩
            clear hw4 hown2
            go_wp2
            go_roundw
            case rel => exact ⟨q + 1, by omega, by go_num, HE.out.1, HE.out.2, hnx4⟩
            case measure => simp [intOf]; omega
          · have hqe : q = (ln ls k).toNat := by omega
            have HE : Hid (wr.ownsRow w.heap.size 3 1 u4 (off ls (k + 1)) (cI (owk ls (k + 1))) ∧ wr.ownsRow w.heap.size 4 1 u5 (off ls (k + 1)) (cB (fsk ls (k + 1)))) := by
              rw [off_yes hcn, owq_end hcn, fsq_end hcn, ← hqe]
              exact ⟨hw, hf⟩
            clear hw hf hqe
            go_wp2
            go_roundw
            case rel => exact ⟨k + 1, by omega, by go_num, HE.out.1, HE.out.2, hnx⟩
            case measure => simp [intOf]; omega
    · have hnot : ¬ (k < len ∧ k < 16) := by omega
      by_cases hkl : (k : Int) < (len : Int)
      · have hk16 : ¬ (k : Int) < 16 := by omega
        go_wp2
        obtain rfl : k = ls.length := by omega
        exact bodyPost_ret (v := .tuple #[u4, u5]) (by simp [results, Try.f20, go_sem]) rfl ⟨_, _, rfl, hw, hf, hnx⟩
      · go_wp2
        obtain rfl : k = ls.length := by omega
        exact bodyPost_ret (v := .tuple #[u4, u5]) (by simp [results, Try.f20, go_sem]) rfl ⟨_, _, rfl, hw, hf, hnx⟩

/-- Behind the call: two rows, one value for each tick of a cycle. -/
def Owners (ls : List (Int × Int)) (w : World) (e : Ending) (W' : World) : Prop :=
  ∃ a1 c1 a2 c2, e = .returned (.tuple #[.slice a1 (off ls ls.length) c1, .slice a2 (off ls ls.length) c2]) ∧ TickRow W' a1 ls (fun _ k => .int .i64 (k : Int)) ∧ TickRow W' a2 ls (fun r k => .bool (r == off ls k)) ∧ Below w.heap.size w W'

theorem owners_any (ad : Option Addr) (len cap : Nat) (ls : List (Int × Int)) (hm : len ≤ 16 ∧ ls.length = len ∨ 16 < len ∧ ls.length = 16) (hmax : cap ≤ maxLen) (w : World) (hrow : SlotRow w.heap.size w ad ls) :
    Calls Try.prog 20 #[.slice ad len cap] w fun e W' => Owners ls w e W' := by
  refine (owners_owned ad len cap ls hm hmax w hrow).mono ?_
  rintro e W' ⟨v, u, rfl, hw, hf, hB⟩
  obtain ⟨a1, c1, rfl, h1⟩ := tickRow_of (f := fun _ k => .int .i64 (k : Int)) hw (fun r k hk hr => by simp [cI, owk_at ls hr _ hk])
  obtain ⟨a2, c2, rfl, h2⟩ := tickRow_of (f := fun r k => .bool (r == off ls k)) hf (fun r k hk hr => by simp [cB, fsk_at ls hr _ hk])
  exact ⟨a1, c1, a2, c2, rfl, h1, h2, hB⟩

end Go.Proofs.Ytkpnkpkokjcdoaa
