/-
  What package tick's At comes to: the slot that has a tick, and the tick at which it began there.
-/
import Derived.Test.YtkpnkpkokjcdoaaCycle
import Derived.Deep.RegionHeld3
import Derived.Sort.CutIn
namespace Go.Proofs.Ytkpnkpkokjcdoaa
open Go.RowKit Go.Shelf
attribute [local go_sem] Oper.semAt_some

/-- The place that came last, and where its slot began behind rd. -/
def lastPl {ls : List (Int × Int)} (p : List (Out ls)) : Int := match p.getLast? with | none => 0 | some x => (x.1.1 : Int)
def lastSt {ls : List (Int × Int)} (rd : Int) (p : List (Out ls)) : Int := match p.getLast? with | none => 0 | some x => rd + (x.1.2 : Int)
theorem lastPl_snoc {ls : List (Int × Int)} (p : List (Out ls)) (x : Out ls) : lastPl (p ++ [x]) = (x.1.1 : Int) := by simp [lastPl]
theorem lastSt_snoc {ls : List (Int × Int)} (rd : Int) (p : List (Out ls)) (x : Out ls) : lastSt rd (p ++ [x]) = rd + (x.1.2 : Int) := by simp [lastSt]

theorem last_has (ls : List (Int × Int)) (r : Nat) : ∀ j, j ≤ ls.length → r < off ls j → (∀ x ∈ pre ls j, x.1.2 ≤ r) → ∃ k, k < ls.length ∧ Has ls r k ∧ lastPl (pre ls j) = (k : Int) ∧ ∀ rd, lastSt rd (pre ls j) = rd + (off ls k : Int)
  | 0, _, h, _ => by simp [off] at h
  | j + 1, hj, h, hp => by
    cases hc : cn ls j
    · rw [pre_no hc] at hp ⊢
      exact last_has ls r j (by omega) (by rw [off_no hc] at h; exact h) hp
    · rw [pre_yes (by omega) hc] at hp ⊢
      refine ⟨j, by omega, ⟨?_, h⟩, lastPl_snoc _ _, fun rd => lastSt_snoc _ _ _⟩
      exact hp ⟨(j, off ls j), by omega, hc, rfl⟩ (by simp)

theorem pre_last (ls : List (Int × Int)) : ∀ k p x, k ≤ ls.length → pre ls k = p ++ [x] → p = pre ls x.1.1
  | 0, p, x, _, h => by simp [pre] at h
  | k + 1, p, x, hk, h => by
    cases hc : cn ls k
    · rw [pre_no hc] at h
      exact pre_last ls k p x (by omega) h
    · rw [pre_yes (by omega) hc] at h
      have h' := List.append_inj_left' h rfl
      have h2 := List.append_inj_right' h rfl
      simp at h2
      rw [← h', ← h2]

theorem boxed_keep {W W' : World} {row : Option Nat} {B : Nat} {t : TypeId} {v : Value} (h : Boxed W B t v) (hg : W.grownBy W' row) (hr : ∀ r, row = some r → ∃ o : Obj, W.heap[r]? = some o ∧ o.isCells = false) : Boxed W' B t v :=
  h.kept hg (fun e => by
    obtain ⟨o, ho, hc⟩ := hr B e.symm
    rw [show W.heap[B]? = _ from h] at ho; cases ho; cases hc)
theorem boxed_below {W W' : World} {n B : Nat} {t : TypeId} {v : Value} (h : Boxed W B t v) (hB : Below n W W') (hlt : B < n) : Boxed W' B t v := (hB.block B hlt).trans h
theorem boxed_drew {W : World} {B : Nat} {t : TypeId} {v : Value} (h : Boxed W B t v) : Boxed W.drew B t v := h

theorem below3 (w : World) (o1 o2 o3 : Obj) : Below w.heap.size w (((w.alloc o1).alloc o2).alloc o3) :=
  (((Below.refl _ _).alloc (Nat.le_refl _) _).alloc (by simp) _).alloc (by simp; omega) _

theorem at_end {W : World} {B D : Nat} {v u : Value} {t : TypeId} (hne : B ≠ B + 1) (h4 : Boxed W B t v) (h5 : Boxed W (B + 1) t u) (hK : W.heap[D]? = some (.deferred (some []))) :
    ((W.setCell ⟨B, 0, none⟩ v).setCell ⟨B + 1, 0, none⟩ u).drew.heap[D]? = some (.deferred (some [])) ∧
    Boxed (((W.setCell ⟨B, 0, none⟩ v).setCell ⟨B + 1, 0, none⟩ u).drew.putObj D (.deferred none)) B t v ∧ Boxed (((W.setCell ⟨B, 0, none⟩ v).setCell ⟨B + 1, 0, none⟩ u).drew.putObj D (.deferred none)) (B + 1) t u ∧
    ∀ w : World, Below w.heap.size w W → w.heap.size ≤ B ∧ w.heap.size ≤ D → Below w.heap.size w (((W.setCell ⟨B, 0, none⟩ v).setCell ⟨B + 1, 0, none⟩ u).drew.putObj D (.deferred none)) := by
  have hK' := (((KeepsOthers.setCell W ⟨B, 0, none⟩ v).trans (KeepsOthers.setCell _ ⟨B + 1, 0, none⟩ u)).trans (KeepsOthers.drew _)).same D _ hK rfl
  have y4 := boxed_drew ((h4.set v).other (B' := B + 1) hne u)
  have y5 := boxed_drew ((h5.other (B' := B) (Ne.symm hne) v).set u)
  refine ⟨hK', boxed_keep y4 (grownBy_putObj' _ D (.deferred none)) (fun r e => by cases e; exact ⟨_, hK', rfl⟩), boxed_keep y5 (grownBy_putObj' _ D (.deferred none)) (fun r e => by cases e; exact ⟨_, hK', rfl⟩), fun w hB h => ?_⟩
  exact (((hB.setCell (p := ⟨B, 0, none⟩) h.1 _).setCell (p := ⟨B + 1, 0, none⟩) (show w.heap.size ≤ B + 1 by omega) _).drew).trans (belowK_b (w := w) (Nat.le_refl _) _ D _ _ h.2 hK' rfl rfl)

set_option maxRecDepth 100000 in
set_option maxHeartbeats 2000000 in
theorem at_some (ad : Option Addr) (len cap : Nat) (ls : List (Int × Int)) (hm : len ≤ 16 ∧ ls.length = len ∨ 16 < len ∧ ls.length = 16) (hcap : len ≤ cap) (hmax : cap ≤ maxLen) (t : Int) (w : World) (hrow : SlotRow w.heap.size w ad ls) (hpos : 0 < off ls ls.length) :
    Calls Try.prog 8 #[.slice ad len cap, .int .i64 t] w fun e W' => ∃ a x, e = .returned (.tuple #[.int .i64 a, .int .i64 x]) ∧ AtIs ls t a x ∧ Below w.heap.size w W' := by
  have hfol : Try.prog.follows Departure.mixedOrders = true := by kernel_rfl
  have hC := off_le ls ls.length
  have g0 := hold_ge t
  have g1 := hold_le t
  have hb : ∀ w : World, Calls Try.prog 18 #[.int .i64 t] w fun e w' => e = .returned (.int .i64 (hold t)) ∧ w' = w := bounded_any t
  have hcy := fun w' h => cycle_any ad len cap ls hm hcap hmax w' h
  have HX : Hid (∀ a x, (∃ k r : Nat, k < ls.length ∧ Has ls r k ∧ (r : Int) = hold t % (off ls ls.length : Int) ∧ a = (k : Int) ∧ x = hold t - (r : Int) + (off ls k : Int)) → AtIs ls t a x) := fun a x h => .inr ⟨hpos, h⟩
  generalize hT : hold t = T at *
  clear hT
  generalize hCC : off ls ls.length = C at *
  have HC : Hid (off ls ls.length = C) := hCC
  clear hCC
  have HR : Hid (SlotRow w.heap.size w ad ls) := hrow
  have HM : Hid (cap ≤ maxLen) := hmax
  have HB : Hid (∀ w : World, Calls Try.prog 18 #[.int .i64 t] w fun e w' => e = .returned (.int .i64 T) ∧ w' = w) := hb
  have HCY : Hid (∀ w' : World, SlotRow w'.heap.size w' ad ls → Calls Try.prog 11 #[.slice ad len cap] w' fun e W' => e = .returned (.int .i64 (C : Int)) ∧ Below w'.heap.size w' W') := hcy
  clear hrow hmax hb hcy
  have hC16 : C ≤ 256 := by omega
  have hC0 : ((C : Int) == 0) = false := by simp; omega
  have hC1 : ¬ (C : Int) = 0 := by omega
  have q0 := Int.emod_nonneg T hC1
  have q1 := Int.emod_lt_of_pos T (show (0 : Int) < C by omega)
  have q2 : T % (C : Int) ≤ T := by
    have h1 := Int.mul_ediv_add_emod T C
    have h2 : 0 ≤ (C : Int) * (T / C) := Int.mul_nonneg (by omega) (Int.ediv_nonneg g0 (by omega))
    omega
  have hB3 := below3 w (.cells #[.int .i64 t] 3) (.cells #[.int .i64 0] 3) (.cells #[.int .i64 0] 3)
  refine (callsIn_wide (n := 3)).1 ?_
  refine callsIn_of_wp_marks Try.func8 rfl trivial ?_ rfl
  simp only [Try.ntmps8, List.size_toArray, List.length_cons, List.length_nil, Nat.reduceAdd, Nat.reduceSub, Array.replicate_succ, Array.replicate_zero, List.push_toArray, List.append_toArray, List.nil_append, List.cons_append]
  have b3 := ((Boxed.new w 3 (.int .i64 t)).alloc (.cells #[.int .i64 0] 3)).alloc (.cells #[.int .i64 0] 3)
  have b4 := (Boxed.new (w.alloc (.cells #[.int .i64 t] 3)) 3 (.int .i64 0)).alloc (.cells #[.int .i64 0] 3)
  have b5 := Boxed.new ((w.alloc (.cells #[.int .i64 t] 3)).alloc (.cells #[.int .i64 0] 3)) 3 (.int .i64 0)
  simp only [World.size_alloc] at b4 b5
  have B3 : Hid _ := (⟨b3, b4, b5⟩ : _ ∧ _ ∧ _)
  clear b3 b4 b5
  gi_wp2_with (first
    | (refine ⟨trivial, ?_⟩; gi_at_call 11; refine (callsIn_wide.2 (HCY.out _ ((HR.out.below hB3).mono (by simp; omega)))).mono ?_; rintro e w1 ⟨rfl, hB1⟩
       have b3 := boxed_below B3.out.1 hB1 (by simp; omega)
       have b4 := boxed_below B3.out.2.1 hB1 (by simp)
       have b5 := boxed_below B3.out.2.2 hB1 (by simp)
       have c3 := b3.cell
       have f3 := b3.frozen)
    | (refine ⟨trivial, ?_⟩; gi_at_call 18; refine (callsIn_wide.2 (HB.out _)).mono ?_; rintro e w2 ⟨rfl, hw2⟩; subst hw2))
  have b3' := b3.set (.int .i64 T)
  have b4' := b4.other (B' := w.heap.size) (by omega) (.int .i64 T)
  have b5' := b5.other (B' := w.heap.size) (by omega) (.int .i64 T)
  have hB2 : Below w.heap.size w (w2.setCell ⟨w.heap.size, 0, none⟩ (.int .i64 T)) := (hB3.trans (hB1.mono (by simp; omega))).setCell (p := ⟨w.heap.size, 0, none⟩) (Nat.le_refl _) _
  have hz2 : w.heap.size + 3 ≤ (w2.setCell ⟨w.heap.size, 0, none⟩ (.int .i64 T)).heap.size := by have := hB1.size; simp at this ⊢; omega
  clear hB1 b3 b4 b5 c3 f3
  generalize w2.setCell ⟨w.heap.size, 0, none⟩ (.int .i64 T) = w3 at *
  have c3 := b3'.cell
  have hlt3 : w.heap.size < w3.heap.size := by omega
  gi_cut [7] from 16 (fun s7 w' => s7 = .pointer (some ⟨w3.heap.size, 0, none⟩) ∧ w'.heap.size = w3.heap.size + 1 ∧ Boxed w' w.heap.size 3 (.int .i64 T) ∧ Boxed w' (w.heap.size + 1) 3 (.int .i64 0) ∧ Boxed w' (w.heap.size + 1 + 1) 3 (.int .i64 0) ∧ Boxed w' w3.heap.size 3 (.int .i64 (T - T % (C : Int))) ∧ Below w.heap.size w w')
  case first =>
    gi_region
    gi_wp2
    gi_meet
    case rel =>
      exact ⟨rfl, by simp [World.drew], boxed_drew (b3'.alloc _), boxed_drew (b4'.alloc _), boxed_drew (b5'.alloc _), boxed_drew (Boxed.new w3 3 _), (hB2.alloc (by omega) _).drew⟩
  case rest =>
    obtain ⟨rfl, hz, b3, b4, b5, b7, hB⟩ := hcut
    have r0 : 0 ≤ T - T % (C : Int) := by omega
    have r1 : T - T % (C : Int) ≤ T := by omega
    generalize hrd : T - T % (C : Int) = rd at *
    have HD : Hid (T - T % (C : Int) = rd) := hrd
    clear b3' b4' b5' c3 hB2 hrd
    gi_wp2_with (refine ⟨trivial, ?_⟩; gi_at_call 19; refine (counting_in Fence.wide _ trivial rfl _ _ _ _).mono ?_; rintro e w' ⟨rfl, rfl⟩)
    have bN := Boxed.new wc 22 (.slice ad len cap)
    rw [hz] at bN
    have hB0 : Below w.heap.size w (wc.alloc (.cells #[.slice ad len cap] 22)) := hB.alloc (by omega) _
    refine wpIn_rangeFunc_ownG rfl (by decide) (gf := 21) (lb := #[.pointer (some ⟨w3.heap.size + 1, 0, none⟩)]) rfl trivial (enters_of Try.func21 (by kernel_rfl) rfl)
      (iter_stops Fence.wide 2 trivial rfl (by decide) (w3.heap.size + 1) (w.heap.size + 1) (w.heap.size + 1 + 2) ad len cap ls hm hcap HM.out _ (by simp; omega) (by simp; omega) (by simp; omega) bN.cell ((HR.out.below hB0).mono (by omega)))
      (fun h k => h.trans k) (keepC_b) (Below.refl _ _) (fun _ => rfl)
      (fun pr W => ((Boxed W w.heap.size 3 (.int .i64 T) ∧ Boxed W w3.heap.size 3 (.int .i64 rd)) ∧ (Boxed W (w.heap.size + 1) 3 (.int .i64 (lastPl pr)) ∧ Boxed W (w.heap.size + 1 + 1) 3 (.int .i64 (lastSt rd pr))) ∧ (∀ x ∈ pr, rd + (x.1.2 : Int) ≤ T)) ∧ Below w.heap.size w W)
      (fun c pr W => (c = .exit 0 ∧ ∃ p x, pr = p ++ [x] ∧ T < rd + (x.1.2 : Int) ∧ (∀ x ∈ p, rd + (x.1.2 : Int) ≤ T) ∧ Boxed W (w.heap.size + 1) 3 (.int .i64 (lastPl p)) ∧ Boxed W (w.heap.size + 1 + 1) 3 (.int .i64 (lastSt rd p))) ∧ Below w.heap.size w W)
      (OwnFrom.and (Own.from (fun s A B row hs hg hr => ⟨⟨boxed_keep hs.1.1 hg hr, boxed_keep hs.1.2 hg hr⟩, ⟨boxed_keep hs.2.1.1 hg hr, boxed_keep hs.2.1.2 hg hr⟩, hs.2.2⟩) _) (ownFrom_below (Nat.le_refl _) (by simp; omega)))
      (fun c => OwnFrom.and (Own.from (fun s A B row hs hg hr => by
        obtain ⟨h1, p, x, h2, h3, h4, h5, h6⟩ := hs
        exact ⟨h1, p, x, h2, h3, h4, boxed_keep h5 hg hr, boxed_keep h6 hg hr⟩) _) (ownFrom_below (Nat.le_refl _) (by simp; omega)))
      ⟨⟨⟨b3.alloc _, b7.alloc _⟩, ⟨b4.alloc _, b5.alloc _⟩, fun x hx => by simp at hx⟩, hB0⟩
      (fun x => { tmps := #[.slice ad len cap, .int .i64 t, undef, .pointer (some ⟨w.heap.size, 0, none⟩), .pointer (some ⟨w.heap.size + 1, 0, none⟩), .pointer (some ⟨w.heap.size + 1 + 1, 0, none⟩), .int .i64 C, .pointer (some ⟨w3.heap.size, 0, none⟩), .int .i64 (x.1.1 : Int), .int .i64 (x.1.2 : Int), .slice ad len cap, .int .i64 C, .int .i64 C, .bool false, .int .i64 t, .int .i64 T, u16, u17, u18, u19, u20, .slice ad len cap, .func (.func 21) #[] #[.pointer (some ⟨w3.heap.size + 1, 0, none⟩)], .int .i64 (x.1.1 : Int), .int .i64 (x.1.2 : Int), u25, u26, u27, u28, u29, u30, u31, u32, u33, u34, u35], defers := [] }) ?assign ?body ?done ?stop
    case assign =>
      intro l x W K hK
      unfold Out.enc
      gi_wp2
      exact hK
    case body =>
      rintro l pr x W ⟨⟨⟨x3, x7⟩, ⟨x4, x5⟩, hall⟩, hB⟩ hN
      have hjl := off_le ls x.1.1
      have hx1 := x.2.1
      have hx2 := x.2.2.2
      have hj0 : (0 : Int) ≤ (x.1.2 : Int) := by omega
      have hj' : (x.1.2 : Int) ≤ 256 := by omega
      have HP : Hid (lastPl (pr ++ [x]) = (x.1.1 : Int) ∧ lastSt rd (pr ++ [x]) = rd + (x.1.2 : Int) ∧ ((rd + (x.1.2 : Int) ≤ T) → ∀ y ∈ pr ++ [x], rd + (y.1.2 : Int) ≤ T)) := ⟨lastPl_snoc _ _, lastSt_snoc _ _ _, fun h y hy => (List.mem_append.1 hy).elim (hall y) (fun e => by simp at e; subst e; exact h)⟩
      have HQ : Hid ((x.1.2 : Int) = (x.1.2 : Int)) := rfl
      clear hjl hx1 hx2
      have c3 := x3.cell
      have c7 := x7.cell
      have c4 := x4.cell
      have c5 := x5.cell
      have f4 := x4.frozen
      have f5 := x5.frozen
      generalize (x.1.1 : Int) = i at *
      generalize hj : (x.1.2 : Int) = j at *
      have HJ : Hid ((x.1.2 : Int) = j) := hj
      clear hj HQ
      have hw : wrap64 (rd + j) = rd + j := IntWalk.wrap64_in _ (by omega)
      have hw' : IntKind.i64.wrap (rd + j) = rd + j := wrapB (by omega)
      by_cases hgt : T < rd + j
      · gi_wp2
        exact ⟨(KeepsOthers.refl _).from _, ⟨rfl, pr, x, rfl, by rw [HJ.out]; exact hgt, hall, x4, x5⟩, hB⟩
      · gi_wp2
        gi_region_with_o (fail)
        all_goals gi_wp2
        all_goals
          refine ⟨(((KeepsOthers.setCell _ _ _).trans (KeepsOthers.setCell _ _ _)).trans (KeepsOthers.drew _)).from _, ((KeepC.setCell W _ _ (Nat.le_refl _) (by omega)).trans (KeepC.setCell _ _ _ (by omega) (by omega))).drew, ⟨⟨boxed_drew ((x3.other (by omega) _).other (by omega) _), boxed_drew ((x7.other (by omega) _).other (by omega) _)⟩, ⟨?_, ?_⟩, HP.out.2.2 (by omega)⟩, ((hB.setCell (p := ⟨w.heap.size + 1, 0, none⟩) (by simp) _).setCell (p := ⟨w.heap.size + 1 + 1, 0, none⟩) (by simp; omega) _).drew⟩
          · rw [HP.out.1]; exact boxed_drew ((x4.set _).other (by omega) _)
          · rw [HP.out.2.1]; exact boxed_drew ((x5.other (by omega) _).set _)
    case done =>
      rintro D ys W hD rfl ⟨⟨_, ⟨x4, x5⟩, hall⟩, hB⟩ hK
      have c4 := x4.cell
      have c5 := x5.cell
      have f4 := x4.frozen
      have f5 := x5.frozen
      gi_wp2
      gi_region
      gi_wp2
      have R := at_end (by omega) x4 x5 hK
      refine ⟨by simp, .inl ⟨_, _, rfl, run_takeDeferred R.1, ?_⟩⟩
      have k4 := R.2.1.cell
      have k5 := R.2.2.1.cell
      have kB := R.2.2.2 w hB (by simp at hD; omega)
      clear R
      generalize World.putObj _ _ _ = X at k4 k5 kB ⊢
      refine ⟨.tuple #[.int .i64 (lastPl (pre ls ls.length)), .int .i64 (lastSt rd (pre ls ls.length))], by simp [results, Try.f8, go_sem, k4, k5], _, _, rfl, HX.out _ _ ?_, kB⟩
      obtain ⟨r, hr⟩ : ∃ r : Nat, (r : Int) = T % (C : Int) := ⟨(T % (C : Int)).toNat, by omega⟩
      have hrd := HD.out
      obtain ⟨k, h1, h2, h3, h4⟩ := last_has ls r ls.length (Nat.le_refl _) (by rw [HC.out]; omega) (fun x hx => by have := hall x hx; omega)
      exact ⟨k, r, h1, h2, hr, h3, by rw [h4]; omega⟩
    case stop =>
      rintro D c pr W hD ⟨k, hk, hpr⟩ ⟨⟨rfl, p, x, rfl, hgt, hall, x4, x5⟩, hB⟩ hK
      have c4 := x4.cell
      have c5 := x5.cell
      have f4 := x4.frozen
      have f5 := x5.frozen
      gi_wp2
      gi_region
      gi_wp2
      have R := at_end (by omega) x4 x5 hK
      refine ⟨by simp, .inl ⟨_, _, rfl, run_takeDeferred R.1, ?_⟩⟩
      have k4 := R.2.1.cell
      have k5 := R.2.2.1.cell
      have kB := R.2.2.2 w hB (by simp at hD; omega)
      clear R
      generalize World.putObj _ _ _ = X at k4 k5 kB ⊢
      refine ⟨.tuple #[.int .i64 (lastPl p), .int .i64 (lastSt rd p)], by simp [results, Try.f8, go_sem, k4, k5], _, _, rfl, HX.out _ _ ?_, kB⟩
      obtain ⟨r, hr⟩ : ∃ r : Nat, (r : Int) = T % (C : Int) := ⟨(T % (C : Int)).toNat, by omega⟩
      have hrd := HD.out
      have hp := pre_last ls k p x hk hpr.symm
      have hx1 := x.2.1
      have hx2 := x.2.2.2
      rw [hp] at hall ⊢
      obtain ⟨k, h1, h2, h3, h4⟩ := last_has ls r x.1.1 (by omega) (by omega) (fun x hx => by have := hall x hx; omega)
      exact ⟨k, r, h1, h2, hr, h3, by rw [h4]; omega⟩

set_option maxRecDepth 100000 in
set_option maxHeartbeats 2000000 in
theorem at_none (ad : Option Addr) (len cap : Nat) (ls : List (Int × Int)) (hm : len ≤ 16 ∧ ls.length = len ∨ 16 < len ∧ ls.length = 16) (hcap : len ≤ cap) (hmax : cap ≤ maxLen) (t : Int) (w : World) (hrow : SlotRow w.heap.size w ad ls) (hpos : off ls ls.length = 0) :
    Calls Try.prog 8 #[.slice ad len cap, .int .i64 t] w fun e W' => ∃ a x, e = .returned (.tuple #[.int .i64 a, .int .i64 x]) ∧ AtIs ls t a x ∧ Below w.heap.size w W' := by
  have hcy := fun w' h => cycle_any ad len cap ls hm hcap hmax w' h
  rw [hpos] at hcy
  have HCY : Hid (∀ w' : World, SlotRow w'.heap.size w' ad ls → Calls Try.prog 11 #[.slice ad len cap] w' fun e W' => e = .returned (.int .i64 ((0 : Nat) : Int)) ∧ Below w'.heap.size w' W') := hcy
  have HX : Hid (AtIs ls t (-1) 0) := .inl ⟨hpos, rfl, rfl⟩
  have HR : Hid (SlotRow w.heap.size w ad ls) := hrow
  have HM : Hid (cap ≤ maxLen) := hmax
  clear hrow hmax hcy hpos
  have hB3 := below3 w (.cells #[.int .i64 t] 3) (.cells #[.int .i64 0] 3) (.cells #[.int .i64 0] 3)
  refine (callsIn_wide (n := 3)).1 ?_
  refine callsIn_of_wp_marks Try.func8 rfl trivial ?_ rfl
  simp only [Try.ntmps8, List.size_toArray, List.length_cons, List.length_nil, Nat.reduceAdd, Nat.reduceSub, Array.replicate_succ, Array.replicate_zero, List.push_toArray, List.append_toArray, List.nil_append, List.cons_append]
  have b4 := (Boxed.new (w.alloc (.cells #[.int .i64 t] 3)) 3 (.int .i64 0)).alloc (.cells #[.int .i64 0] 3)
  have b5 := Boxed.new ((w.alloc (.cells #[.int .i64 t] 3)).alloc (.cells #[.int .i64 0] 3)) 3 (.int .i64 0)
  simp only [World.size_alloc] at b4 b5
  have B3 : Hid _ := (⟨b4, b5⟩ : _ ∧ _)
  clear b4 b5
  gi_wp2_with (refine ⟨trivial, ?_⟩; gi_at_call 11; refine (callsIn_wide.2 (HCY.out _ ((HR.out.below hB3).mono (by simp; omega)))).mono ?_; rintro e w1 ⟨rfl, hB1⟩
               have b4 := boxed_below B3.out.1 hB1 (by simp)
               have b5 := boxed_below B3.out.2 hB1 (by simp)
               have c4 := b4.cell
               have f4 := b4.frozen
               have c5 := b5.cell
               have f5 := b5.frozen)
  refine ⟨.tuple #[.int .i64 (-1), .int .i64 0], ?_, _, _, rfl, HX.out, ?_⟩
  · have k4 := ((b4.set (.int .i64 (-1))).other (B' := w.heap.size + 1 + 1) (by omega) (.int .i64 0)).cell
    have k5 := ((b5.other (B' := w.heap.size + 1) (by omega) (.int .i64 (-1))).set (.int .i64 0)).cell
    generalize World.setCell _ _ _ = X at k4 k5 ⊢
    simp [results, Try.f8, go_sem, k4, k5]
  · exact ((hB3.trans (hB1.mono (by simp; omega))).setCell (p := ⟨w.heap.size + 1, 0, none⟩) (by simp) _).setCell (p := ⟨w.heap.size + 1 + 1, 0, none⟩) (by simp; omega) _

theorem at_any (ad : Option Addr) (len cap : Nat) (ls : List (Int × Int)) (hm : len ≤ 16 ∧ ls.length = len ∨ 16 < len ∧ ls.length = 16) (hcap : len ≤ cap) (hmax : cap ≤ maxLen) (t : Int) (w : World) (hrow : SlotRow w.heap.size w ad ls) :
    Calls Try.prog 8 #[.slice ad len cap, .int .i64 t] w fun e W' => ∃ a x, e = .returned (.tuple #[.int .i64 a, .int .i64 x]) ∧ AtIs ls t a x ∧ Below w.heap.size w W' := by
  by_cases h : off ls ls.length = 0
  · exact at_none ad len cap ls hm hcap hmax t w hrow h
  · exact at_some ad len cap ls hm hcap hmax t w hrow (by omega)

end Go.Proofs.Ytkpnkpkokjcdoaa
