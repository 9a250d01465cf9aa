/-
  What the iterator of package tick comes to: it hands out each slot that counts, with the ticks ahead of it, whatever the loop's body does with its own variables.
-/
import Derived.RangeFuncNested
import Derived.RangeFuncBound
import Derived.RangeFuncCalls
import Derived.RangeFuncLeaves
import Derived.RangeFuncBox
import Derived.Shelf.Abstract
import Derived.Shelf.RegionOpen
import Derived.WalkKit
import Derived.OwnWalkIn
import Derived.TacticsInMore
import Derived.LoopNIn
import Derived.LoopIn
import Derived.Test.YtkpnkpkokjcdoaaSmall
namespace Go.Proofs.Ytkpnkpkokjcdoaa
open Go.RowKit Go.Shelf
attribute [local go_sem] Oper.semAt_some

/-- Cells that lie below lo, or from hi on, stay. -/
structure KeepC (lo hi : Nat) (W W' : World) : Prop where
  size : W.heap.size ≤ W'.heap.size
  same : ∀ b o, (b < lo ∨ hi ≤ b) → W.heap[b]? = some o → o.isCells = true → W'.heap[b]? = some o

theorem KeepC.refl (lo hi : Nat) (W : World) : KeepC lo hi W W := ⟨Nat.le_refl _, fun _ _ _ h _ => h⟩
theorem KeepC.trans {lo hi : Nat} {A B C : World} (h : KeepC lo hi A B) (k : KeepC lo hi B C) : KeepC lo hi A C :=
  ⟨Nat.le_trans h.size k.size, fun b o hb ho hc => k.same b o hb (h.same b o hb ho hc) hc⟩
theorem KeepC.drew {lo hi : Nat} {A B : World} (h : KeepC lo hi A B) : KeepC lo hi A B.drew := ⟨h.size, h.same⟩
theorem KeepC.alloc (lo hi : Nat) (W : World) (o : Obj) : KeepC lo hi W (W.alloc o) :=
  ⟨by simp, fun b o' _ ho _ => (Below.heap_alloc W o b (Array.getElem?_eq_some_iff.1 ho).1).trans ho⟩
theorem keepC_b {lo hi : Nat} {w : World} (W : World) (l : Nat) (o o' : Obj) (_ : w.heap.size ≤ l) (h : W.heap[l]? = some o) (hc : o.isCells = false) (_ : o.isWalk = false) : KeepC lo hi W (W.putObj l o') :=
  ⟨(grownBy_putObj' W l o').size, fun b o2 _ ho hc2 => (World.putObj_heap_other (fun e => by subst e; rw [h] at ho; cases ho; rw [hc] at hc2; cases hc2)).trans ho⟩
theorem KeepC.setCell {lo hi : Nat} (W : World) (b : Nat) (v : Value) (h1 : lo ≤ b) (h2 : b < hi) : KeepC lo hi W (W.setCell ⟨b, 0, none⟩ v) :=
  ⟨(KeepsWalks.setCell W _ v).size, fun k o hk ho _ => (Below.heap_setCell _ _ _ k (fun e => by have : k = b := e; omega)).trans ho⟩
theorem KeepC.cell {lo hi : Nat} {W W' : World} (h : KeepC lo hi W W') {b o : Nat} {v : Value} (hb : b < lo ∨ hi ≤ b) (hc : W.cell? ⟨b, o, none⟩ = some v) : W'.cell? ⟨b, o, none⟩ = some v := by
  have hc' := hc
  unfold World.cell? at hc
  cases hh : W.heap[b]? with
  | none => simp [hh] at hc
  | some ob =>
    have : ob.isCells = true := by
      cases ob <;> simp [hh] at hc <;> rfl
    have h' := h.same b ob hb hh this
    simp only [World.cell?, hh, h'] at hc' ⊢
    exact hc'

/-- A list of slots as it lies in memory, in a block below lo. -/
def SlotRow (lo : Nat) (W : World) (ad : Option Addr) (ls : List (Int × Int)) : Prop :=
  ls = [] ∨ ∃ b off, ad = some ⟨b, off, none⟩ ∧ b < lo ∧ ∀ i, i < ls.length → W.cell? ⟨b, off + i * 2, none⟩ = some (.int .i64 (dm ls i)) ∧ W.cell? ⟨b, off + i * 2 + 1, none⟩ = some (.int .i64 (ln ls i))

theorem SlotRow.keep {lo hi : Nat} {W W' : World} {ad : Option Addr} {ls : List (Int × Int)} (h : SlotRow lo W ad ls) (k : KeepC lo hi W W') : SlotRow lo W' ad ls := by
  rcases h with h | ⟨b, o, h1, h2, h3⟩
  · exact .inl h
  · exact .inr ⟨b, o, h1, h2, fun i hi => ⟨k.cell (.inl h2) (h3 i hi).1, k.cell (.inl h2) (h3 i hi).2⟩⟩
theorem SlotRow.below {lo : Nat} {W W' : World} {ad : Option Addr} {ls : List (Int × Int)} (h : SlotRow lo W ad ls) (k : Below lo W W') : SlotRow lo W' ad ls := by
  rcases h with h | ⟨b, o, h1, h2, h3⟩
  · exact .inl h
  · exact .inr ⟨b, o, h1, h2, fun i hi => ⟨(k.cell (p := ⟨b, o + i * 2, none⟩) h2).trans (h3 i hi).1, (k.cell (p := ⟨b, o + i * 2 + 1, none⟩) h2).trans (h3 i hi).2⟩⟩
theorem SlotRow.mono {lo lo' : Nat} {W : World} {ad : Option Addr} {ls : List (Int × Int)} (h : SlotRow lo W ad ls) (k : lo ≤ lo') : SlotRow lo' W ad ls := by
  rcases h with h | ⟨b, o, h1, h2, h3⟩
  · exact .inl h
  · exact .inr ⟨b, o, h1, by omega, h3⟩

/-- What the iterator hands out: a place, and the ticks ahead of it. -/
abbrev Out (ls : List (Int × Int)) : Type := { p : Nat × Nat // p.1 < ls.length ∧ cn ls p.1 = true ∧ p.2 = off ls p.1 }
def Out.enc {ls : List (Int × Int)} (x : Out ls) : Array Value := #[.int .i64 (x.1.1 : Int), .int .i64 (x.1.2 : Int)]

/-- What has come when k places are over. -/
def pre (ls : List (Int × Int)) : Nat → List (Out ls)
  | 0 => []
  | k + 1 => if h : k < ls.length ∧ cn ls k = true then pre ls k ++ [⟨(k, off ls k), h.1, h.2, rfl⟩] else pre ls k

theorem pre_yes {ls : List (Int × Int)} {k : Nat} (h1 : k < ls.length) (h2 : cn ls k = true) : pre ls (k + 1) = pre ls k ++ [⟨(k, off ls k), h1, h2, rfl⟩] := by simp [pre, h1, h2]
theorem pre_no {ls : List (Int × Int)} {k : Nat} (h2 : cn ls k = false) : pre ls (k + 1) = pre ls k := by simp [pre, h2]
theorem pre_len (ls : List (Int × Int)) : ∀ k, (pre ls k).length ≤ k
  | 0 => by simp [pre]
  | k + 1 => by
    have := pre_len ls k
    by_cases h : k < ls.length ∧ cn ls k = true
    · rw [pre_yes h.1 h.2, List.length_append]; exact Nat.add_le_add this (Nat.le_refl 1)
    · rw [show pre ls (k + 1) = pre ls k by simp only [pre]; rw [dif_neg h]]; omega

theorem counting_in (F : Fence) (n : Nat) (h5 : F.fn 19) (hro : F.round = none) (a : Option Addr) (len cap : Nat) (w : World) :
    CallsIn F n Try.prog 19 #[.slice a len cap] w fun e w' => e = .returned (.func (.func 21) #[] #[.pointer (some ⟨w.heap.size, 0, none⟩)]) ∧ w' = w.alloc (.cells #[.slice a len cap] 22) := by
  refine callsIn_of_wp Try.func19 rfl h5 ?_ hro
  simp only [Try.ntmps19, List.size_toArray, List.length_cons, List.length_nil, Nat.reduceAdd, Nat.reduceSub, Array.replicate_succ, Array.replicate_zero, List.push_toArray, List.append_toArray, List.nil_append, List.cons_append]
  gi_wp2
  go_ret
  exact ⟨rfl, rfl⟩

set_option maxRecDepth 100000 in
set_option maxHeartbeats 2000000 in
theorem iter_in (F : Fence) (n : Nat) (h7 : F.fn 21) (hro : F.round = none) (hn : 1 ≤ n) (l Bs lo hi : Nat) (ad : Option Addr) (len cap m : Nat) (ls : List (Int × Int)) (hm : len ≤ 16 ∧ m = len ∨ 16 < len ∧ m = 16) (hl : ls.length = m) (hcap : len ≤ cap) (hmax : cap ≤ maxLen)
    (J Jx : List (Out ls) → World → Prop) (B : Nat) (hJ : AbidesFrom B J)
    (hY : ∀ pre x W, J pre W → pre.length < m → YieldAt F (n - 1) Try.prog l (Out.enc x) W fun e W' =>
      (e = .returned (.bool true) ∧ J (pre ++ [x]) W' ∧ KeepC lo hi W W') ∨ (e = .returned (.bool false) ∧ Jx (pre ++ [x]) W'))
    (W : World) (hhi : hi ≤ W.heap.size) (hc : W.cell? ⟨Bs, 0, none⟩ = some (.slice ad len cap)) (hrow : SlotRow lo W ad ls) (h0 : J [] W) :
    CallsIn F n Try.prog 21 #[.func (.yield l) #[] #[], .pointer (some ⟨Bs, 0, none⟩)] W fun e W' => (∃ v, e = .returned v) ∧
      ((∃ ys, ys = pre ls m ∧ J ys W') ∨ (∃ p, (∃ k, k ≤ m ∧ p = pre ls k) ∧ Jx p W')) := by
  have HR : Hid (SlotRow lo W ad ls) := hrow
  have HM : Hid (cap ≤ maxLen) := hmax
  clear hrow hmax
  refine callsIn_of_wp Try.func21 rfl h7 ?_ hro
  simp only [Try.ntmps21, List.size_toArray, List.length_cons, List.length_nil, Nat.reduceAdd, Nat.reduceSub, Array.replicate_succ, Array.replicate_zero, List.push_toArray, List.append_toArray, List.nil_append, List.cons_append]
  rcases hm with ⟨h1, rfl⟩ | ⟨h1, rfl⟩
  · gi_wp2
    gi_loopw [3, 12] (fun o i wr => ∃ k : Nat, k ≤ m ∧ i = .int .i64 k ∧ o = .int .i64 (off ls k : Int) ∧ J (pre ls k) wr ∧ KeepC lo hi W wr ∧ W.heap.size ≤ wr.heap.size)
      (fun _ i _ => m - (intOf i).toNat)
    case atStart => exact ⟨0, Nat.zero_le _, rfl, rfl, h0, KeepC.refl _ _ _, Nat.le_refl _⟩
    case round =>
      obtain ⟨k, hk, rfl, rfl, hJs, hnx, hsz⟩ := hrel
      by_cases hlt : k < m
      · obtain ⟨b, o, rfl, hb, hcs⟩ : ∃ b off, ad = some ⟨b, off, none⟩ ∧ b < lo ∧ ∀ i, i < ls.length → wr.cell? ⟨b, off + i * 2, none⟩ = some (.int .i64 (dm ls i)) ∧ wr.cell? ⟨b, off + i * 2 + 1, none⟩ = some (.int .i64 (ln ls i)) := by
          rcases HR.out.keep hnx with h | h
          · rw [h] at hl; simp at hl; try omega
          · exact h
        obtain ⟨c0, c1⟩ := hcs k (by omega)
        clear hcs
        have hJ1 := hJ _ _ _ none hJs (World.grownBy_alloc wr (Obj.cells #[Value.int IntKind.i64 (dm ls k), Value.int IntKind.i64 (ln ls k)] 35) none) (by simp)
        have hk1 := hnx.trans (KeepC.alloc lo hi wr (Obj.cells #[Value.int IntKind.i64 (dm ls k), Value.int IntKind.i64 (ln ls k)] 35))
        have hN1 : (wr.alloc (Obj.cells #[Value.int IntKind.i64 (dm ls k), Value.int IntKind.i64 (ln ls k)] 35)).heap[wr.heap.size]? = some (Obj.cells #[Value.int IntKind.i64 (dm ls k), Value.int IntKind.i64 (ln ls k)] 35) := World.alloc_heap_new wr _
        have hsz1 : wr.heap.size + 1 = (wr.alloc (Obj.cells #[Value.int IntKind.i64 (dm ls k), Value.int IntKind.i64 (ln ls k)] 35)).heap.size := by simp
        have hof := off_le ls k
        cases hcn : cn ls k
        · have hno := cn_not.1 hcn
          have HP : Hid (J (pre ls k) (wr.alloc (Obj.cells #[Value.int IntKind.i64 (dm ls k), Value.int IntKind.i64 (ln ls k)] 35)) ∧ KeepC lo hi W (wr.alloc (Obj.cells #[Value.int IntKind.i64 (dm ls k), Value.int IntKind.i64 (ln ls k)] 35))) := ⟨hJ1, hk1⟩
          clear hJ1 hk1 hN1
          rcases hno with hno | hno
          · gi_wp2
            go_roundw
            case rel => exact ⟨k + 1, by omega, by go_num, by rw [off_no hcn], by rw [pre_no hcn]; exact HP.out.1, HP.out.2, by simp; omega⟩
            case measure => simp [intOf]; omega
          · gi_wp2
            go_roundw
            case rel => exact ⟨k + 1, by omega, by go_num, by rw [off_no hcn], by rw [pre_no hcn]; exact HP.out.1, HP.out.2, by simp; omega⟩
            case measure => simp [intOf]; omega
        · obtain ⟨l1, l2⟩ := cn_iff.1 hcn
          have hpl := pre_len ls k
          obtain ⟨fn, tmps, assign, body, hy, hR⟩ := hY _ ⟨(k, off ls k), by omega, hcn, rfl⟩ _ hJ1 (by omega)
          dsimp only [Out.enc] at hy
          have HP : Hid (KeepC lo hi W (wr.alloc (Obj.cells #[Value.int IntKind.i64 (dm ls k), Value.int IntKind.i64 (ln ls k)] 35)) ∧ (wr.alloc (Obj.cells #[Value.int IntKind.i64 (dm ls k), Value.int IntKind.i64 (ln ls k)] 35)).heap[wr.heap.size]? = some (Obj.cells #[Value.int IntKind.i64 (dm ls k), Value.int IntKind.i64 (ln ls k)] 35)) := ⟨hk1, hN1⟩
          clear hJ1 hk1 hN1
          have l1' : ¬ ln ls k < 1 := by omega
          have l2' : ¬ 16 < ln ls k := by omega
          gi_wp2
          refine hR.mono ?_
          rintro e W3 (⟨rfl, hJ3, hk3⟩ | ⟨rfl, hJx3⟩)
          · have hN3 := hk3.same wr.heap.size _ (.inr (by omega)) HP.out.2 rfl
            have hs3 := hk3.size
            have hc3 : W3.cell? ⟨wr.heap.size, 1, none⟩ = some (.int .i64 (ln ls k)) := by simp [World.cell?, hN3]
            gi_wp2
            go_roundw
            case rel => exact ⟨k + 1, by omega, by go_num, by rw [off_yes hcn]; go_num; try omega, by rw [pre_yes (by omega) hcn]; exact hJ3, HP.out.1.trans hk3, by omega⟩
            case measure => simp [intOf]; omega
          · gi_wp2
            refine bodyPost_ret (results_none rfl _ _ _) rfl ?_
            exact ⟨⟨_, rfl⟩, .inr ⟨_, ⟨k + 1, by omega, (pre_yes (by omega) hcn).symm⟩, hJx3⟩⟩
      · obtain rfl : k = m := by omega
        gi_wp2
        go_end0
        exact ⟨⟨_, rfl⟩, .inl ⟨_, rfl, hJs⟩⟩
  · gi_wp2
    gi_loopw [3, 12] (fun o i wr => ∃ k : Nat, k ≤ 16 ∧ i = .int .i64 k ∧ o = .int .i64 (off ls k : Int) ∧ J (pre ls k) wr ∧ KeepC lo hi W wr ∧ W.heap.size ≤ wr.heap.size)
      (fun _ i _ => 16 - (intOf i).toNat)
    case atStart => exact ⟨0, Nat.zero_le _, rfl, rfl, h0, KeepC.refl _ _ _, Nat.le_refl _⟩
    case round =>
      obtain ⟨k, hk, rfl, rfl, hJs, hnx, hsz⟩ := hrel
      by_cases hlt : k < 16
      · obtain ⟨b, o, rfl, hb, hcs⟩ : ∃ b off, ad = some ⟨b, off, none⟩ ∧ b < lo ∧ ∀ i, i < ls.length → wr.cell? ⟨b, off + i * 2, none⟩ = some (.int .i64 (dm ls i)) ∧ wr.cell? ⟨b, off + i * 2 + 1, none⟩ = some (.int .i64 (ln ls i)) := by
          rcases HR.out.keep hnx with h | h
          · rw [h] at hl; simp at hl; try omega
          · exact h
        obtain ⟨c0, c1⟩ := hcs k (by omega)
        clear hcs
        have hJ1 := hJ _ _ _ none hJs (World.grownBy_alloc wr (Obj.cells #[Value.int IntKind.i64 (dm ls k), Value.int IntKind.i64 (ln ls k)] 35) none) (by simp)
        have hk1 := hnx.trans (KeepC.alloc lo hi wr (Obj.cells #[Value.int IntKind.i64 (dm ls k), Value.int IntKind.i64 (ln ls k)] 35))
        have hN1 : (wr.alloc (Obj.cells #[Value.int IntKind.i64 (dm ls k), Value.int IntKind.i64 (ln ls k)] 35)).heap[wr.heap.size]? = some (Obj.cells #[Value.int IntKind.i64 (dm ls k), Value.int IntKind.i64 (ln ls k)] 35) := World.alloc_heap_new wr _
        have hsz1 : wr.heap.size + 1 = (wr.alloc (Obj.cells #[Value.int IntKind.i64 (dm ls k), Value.int IntKind.i64 (ln ls k)] 35)).heap.size := by simp
        have hof := off_le ls k
        cases hcn : cn ls k
        · have hno := cn_not.1 hcn
          have HP : Hid (J (pre ls k) (wr.alloc (Obj.cells #[Value.int IntKind.i64 (dm ls k), Value.int IntKind.i64 (ln ls k)] 35)) ∧ KeepC lo hi W (wr.alloc (Obj.cells #[Value.int IntKind.i64 (dm ls k), Value.int IntKind.i64 (ln ls k)] 35))) := ⟨hJ1, hk1⟩
          clear hJ1 hk1 hN1
          rcases hno with hno | hno
          · gi_wp2
            go_roundw
            case rel => exact ⟨k + 1, by omega, by go_num, by rw [off_no hcn], by rw [pre_no hcn]; exact HP.out.1, HP.out.2, by simp; omega⟩
            case measure => simp [intOf]; omega
          · gi_wp2
            go_roundw
            case rel => exact ⟨k + 1, by omega, by go_num, by rw [off_no hcn], by rw [pre_no hcn]; exact HP.out.1, HP.out.2, by simp; omega⟩
            case measure => simp [intOf]; omega
        · obtain ⟨l1, l2⟩ := cn_iff.1 hcn
          have hpl := pre_len ls k
          obtain ⟨fn, tmps, assign, body, hy, hR⟩ := hY _ ⟨(k, off ls k), by omega, hcn, rfl⟩ _ hJ1 (by omega)
          dsimp only [Out.enc] at hy
          have HP : Hid (KeepC lo hi W (wr.alloc (Obj.cells #[Value.int IntKind.i64 (dm ls k), Value.int IntKind.i64 (ln ls k)] 35)) ∧ (wr.alloc (Obj.cells #[Value.int IntKind.i64 (dm ls k), Value.int IntKind.i64 (ln ls k)] 35)).heap[wr.heap.size]? = some (Obj.cells #[Value.int IntKind.i64 (dm ls k), Value.int IntKind.i64 (ln ls k)] 35)) := ⟨hk1, hN1⟩
          clear hJ1 hk1 hN1
          have l1' : ¬ ln ls k < 1 := by omega
          have l2' : ¬ 16 < ln ls k := by omega
          gi_wp2
          refine hR.mono ?_
          rintro e W3 (⟨rfl, hJ3, hk3⟩ | ⟨rfl, hJx3⟩)
          · have hN3 := hk3.same wr.heap.size _ (.inr (by omega)) HP.out.2 rfl
            have hs3 := hk3.size
            have hc3 : W3.cell? ⟨wr.heap.size, 1, none⟩ = some (.int .i64 (ln ls k)) := by simp [World.cell?, hN3]
            gi_wp2
            go_roundw
            case rel => exact ⟨k + 1, by omega, by go_num, by rw [off_yes hcn]; go_num; try omega, by rw [pre_yes (by omega) hcn]; exact hJ3, HP.out.1.trans hk3, by omega⟩
            case measure => simp [intOf]; omega
          · gi_wp2
            refine bodyPost_ret (results_none rfl _ _ _) rfl ?_
            exact ⟨⟨_, rfl⟩, .inr ⟨_, ⟨k + 1, by omega, (pre_yes (by omega) hcn).symm⟩, hJx3⟩⟩
      · obtain rfl : k = 16 := by omega
        gi_wp2
        go_end0
        exact ⟨⟨_, rfl⟩, .inl ⟨_, rfl, hJs⟩⟩

theorem iter_stops (F : Fence) (n : Nat) (h7 : F.fn 21) (hro : F.round = none) (hn : 1 ≤ n) (Bs lo hi : Nat) (ad : Option Addr) (len cap : Nat) (ls : List (Int × Int)) (hm : len ≤ 16 ∧ ls.length = len ∨ 16 < len ∧ ls.length = 16) (hcap : len ≤ cap) (hmax : cap ≤ maxLen)
    (w : World) (hBs : Bs < w.heap.size) (hlo : lo ≤ w.heap.size) (hhi : hi ≤ w.heap.size) (hc : w.cell? ⟨Bs, 0, none⟩ = some (.slice ad len cap)) (hrow : SlotRow lo w ad ls) :
    SeqStopsK F n Try.prog 21 #[.pointer (some ⟨Bs, 0, none⟩)] (Out.enc (ls := ls)) (KeepC lo hi) (fun ys => ys = pre ls ls.length) (fun p => ∃ k, k ≤ ls.length ∧ p = pre ls k) ls.length w := fun l J Jx W hW hJ _ hY h0 =>
  iter_in F n h7 hro hn l Bs lo hi ad len cap ls.length ls hm rfl hcap hmax J Jx _ hJ hY W (Nat.le_trans hhi hW.size) ((hW.cell (p := ⟨Bs, 0, none⟩) hBs).trans hc) (hrow.below (hW.mono hlo)) h0

end Go.Proofs.Ytkpnkpkokjcdoaa
