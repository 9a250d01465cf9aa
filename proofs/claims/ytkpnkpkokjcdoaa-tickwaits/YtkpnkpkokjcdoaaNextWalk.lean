/-
  The walk of package tick's Next.
-/
import Derived.Test.YtkpnkpkokjcdoaaNext
namespace Go.Proofs.Ytkpnkpkokjcdoaa
open Go.RowKit Go.Shelf
attribute [local go_sem] Oper.semAt_some

/-- The two variables that say what has been found so far. -/
def NextCells {ls : List (Int × Int)} (W : World) (B : Nat) (dom T rd : Int) (C : Nat) (pr : List (Out ls)) : Prop := ∃ nx fd, Boxed W B 3 (.int .i64 nx) ∧ Boxed W (B + 1) 4 (.bool fd) ∧ Found dom T rd C pr nx fd
theorem nextCells {ls : List (Int × Int)} {W : World} {B : Nat} {dom T rd : Int} {C : Nat} {pr : List (Out ls)} (nx : Int) (fd : Bool) (h1 : Boxed W B 3 (.int .i64 nx)) (h2 : Boxed W (B + 1) 4 (.bool fd)) (h3 : Found dom T rd C pr nx fd) : NextCells W B dom T rd C pr := ⟨nx, fd, h1, h2, h3⟩

set_option maxRecDepth 100000 in
set_option maxHeartbeats 2000000 in
theorem next_some (ad : Option Addr) (len cap : Nat) (ls : List (Int × Int)) (hm : len ≤ 16 ∧ ls.length = len ∨ 16 < len ∧ ls.length = 16) (hcap : len ≤ cap) (hmax : cap ≤ maxLen) (dom t : Int) (w : World) (hrow : SlotRow w.heap.size w ad ls) (hpos : 0 < off ls ls.length) :
    Calls Try.prog 13 #[.slice ad len cap, .int .i64 dom, .int .i64 t] w fun e W' => ∃ n ok, e = .returned (.tuple #[.int .i64 n, .bool ok]) ∧ NextIs ls dom t n ok ∧ Below w.heap.size w W' := by
  have hfol : Try.prog.follows Departure.mixedOrders = true := by kernel_rfl
  have hC := off_le ls ls.length
  have g0 := hold_ge t
  have g1 := hold_le t
  have hb : ∀ w : World, Calls Try.prog 18 #[.int .i64 t] w fun e w' => e = .returned (.int .i64 (hold t)) ∧ w' = w := bounded_any t
  have hcy := fun w' h => cycle_any ad len cap ls hm hcap hmax w' h
  have HX : Hid (∀ C rd nx fd, 0 < C → off ls ls.length = C → rd = hold t - hold t % (C : Int) → Found dom (hold t) rd C (pre ls ls.length) nx fd → NextIs ls dom t nx fd) := fun C rd nx fd h1 h2 h3 h4 => found_next h1 h2 h3 h4
  generalize hT : hold t = T at *
  clear hT
  have HC : Hid (∃ C, off ls ls.length = C) := ⟨_, rfl⟩
  generalize hCC : off ls ls.length = C at *
  have HE : Hid (off ls ls.length = C) := hCC
  clear hCC HC
  have HR : Hid (SlotRow w.heap.size w ad ls) := hrow
  have HM : Hid (cap ≤ maxLen) := hmax
  have HB : Hid (∀ w : World, Calls Try.prog 18 #[.int .i64 t] w fun e w' => e = .returned (.int .i64 T) ∧ w' = w) := hb
  have HCY : Hid (∀ w' : World, SlotRow w'.heap.size w' ad ls → Calls Try.prog 11 #[.slice ad len cap] w' fun e W' => e = .returned (.int .i64 (C : Int)) ∧ Below w'.heap.size w' W') := hcy
  clear hrow hmax hb hcy
  have hC16 : C ≤ 256 := by omega
  have hC0 : ((C : Int) == 0) = false := by simp; omega
  have hC1 : ¬ (C : Int) = 0 := by omega
  have q0 := Int.emod_nonneg T hC1
  have q1 := Int.emod_lt_of_pos T (show (0 : Int) < C by omega)
  have q2 : T % (C : Int) ≤ T := by
    have h1 := Int.mul_ediv_add_emod T C
    have h2 : 0 ≤ (C : Int) * (T / C) := Int.mul_nonneg (by omega) (Int.ediv_nonneg g0 (by omega))
    omega
  have hB3 := below3 w (.cells #[.slice ad len cap] 22) (.cells #[.int .i64 dom] 3) (.cells #[.int .i64 t] 3)
  refine (callsIn_wide (n := 3)).1 ?_
  refine callsIn_of_wp_marks Try.func13 rfl trivial ?_ rfl
  simp only [Try.ntmps13, List.size_toArray, List.length_cons, List.length_nil, Nat.reduceAdd, Nat.reduceSub, Array.replicate_succ, Array.replicate_zero, List.push_toArray, List.append_toArray, List.nil_append, List.cons_append]
  have b3 := ((Boxed.new w 22 (.slice ad len cap)).alloc (.cells #[.int .i64 dom] 3)).alloc (.cells #[.int .i64 t] 3)
  have b4 := (Boxed.new (w.alloc (.cells #[.slice ad len cap] 22)) 3 (.int .i64 dom)).alloc (.cells #[.int .i64 t] 3)
  have b5 := Boxed.new ((w.alloc (.cells #[.slice ad len cap] 22)).alloc (.cells #[.int .i64 dom] 3)) 3 (.int .i64 t)
  simp only [World.size_alloc] at b4 b5
  have B3 : Hid _ := (⟨b3, b4, b5⟩ : _ ∧ _ ∧ _)
  clear b3 b4 b5
  gi_wp2_with (first
    | (refine ⟨trivial, ?_⟩; gi_at_call 11; refine (callsIn_wide.2 (HCY.out _ ((HR.out.below hB3).mono (by simp; omega)))).mono ?_; rintro e w1 ⟨rfl, hB1⟩
       have b3 := boxed_below B3.out.1 hB1 (by simp; omega)
       have b4 := boxed_below B3.out.2.1 hB1 (by simp)
       have b5 := boxed_below B3.out.2.2 hB1 (by simp)
       have c5 := b5.cell
       have f5 := b5.frozen
       have hz1 : w.heap.size + 3 ≤ w1.heap.size := (by have := hB1.size; simp at this; omega)
       have hlt5 : w.heap.size + 1 + 1 < w1.heap.size := (by omega))
    | (refine ⟨trivial, ?_⟩; gi_at_call 18; refine (callsIn_wide.2 (HB.out _)).mono ?_; rintro e w2 ⟨rfl, hw2⟩; subst hw2))
  have b3' := (b3.other (B' := w.heap.size + 1 + 1) (by omega) (.int .i64 T)).alloc (.cells #[.int .i64 (C : Int)] 3)
  have b4' := (b4.other (B' := w.heap.size + 1 + 1) (by omega) (.int .i64 T)).alloc (.cells #[.int .i64 (C : Int)] 3)
  have b5' := (b5.set (.int .i64 T)).alloc (.cells #[.int .i64 (C : Int)] 3)
  have b8' := Boxed.new (w1.setCell ⟨w.heap.size + 1 + 1, 0, none⟩ (.int .i64 T)) 3 (.int .i64 (C : Int))
  rw [World.size_setCell] at b8'
  have hB2 : Below w.heap.size w ((w1.setCell ⟨w.heap.size + 1 + 1, 0, none⟩ (.int .i64 T)).alloc (.cells #[.int .i64 (C : Int)] 3)) := (((hB3.trans (hB1.mono (by simp; omega))).setCell (p := ⟨w.heap.size + 1 + 1, 0, none⟩) (by simp; omega) _).alloc (by simp; omega) _)
  have hz2 : ((w1.setCell ⟨w.heap.size + 1 + 1, 0, none⟩ (.int .i64 T)).alloc (.cells #[.int .i64 (C : Int)] 3)).heap.size = w1.heap.size + 1 := by simp
  clear hB1 b3 b4 b5 c5 f5
  generalize (w1.setCell ⟨w.heap.size + 1 + 1, 0, none⟩ (.int .i64 T)).alloc (.cells #[.int .i64 (C : Int)] 3) = w3 at *
  have c5 := b5'.cell
  have c8 := b8'.cell
  have hl3 : w.heap.size + 1 + 1 < w3.heap.size := by omega
  have hl8 : w1.heap.size < w3.heap.size := by omega
  have HZ : Hid (w3.heap.size = w1.heap.size + 1) := hz2
  clear hz2
  gi_cut [9] from 15 (fun s9 w' => s9 = .pointer (some ⟨w3.heap.size, 0, none⟩) ∧ w'.heap.size = w3.heap.size + 1 ∧ Boxed w' w.heap.size 22 (.slice ad len cap) ∧ Boxed w' (w.heap.size + 1) 3 (.int .i64 dom) ∧ Boxed w' (w.heap.size + 1 + 1) 3 (.int .i64 T) ∧ Boxed w' w1.heap.size 3 (.int .i64 (C : Int)) ∧ Boxed w' w3.heap.size 3 (.int .i64 (T - T % (C : Int))) ∧ Below w.heap.size w w')
  case first =>
    gi_region
    gi_wp2
    gi_meet
    case rel =>
      exact ⟨rfl, by simp [World.drew], boxed_drew (b3'.alloc _), boxed_drew (b4'.alloc _), boxed_drew (b5'.alloc _), boxed_drew (b8'.alloc _), boxed_drew (Boxed.new w3 3 _), (hB2.alloc (by omega) _).drew⟩
  case rest =>
    obtain ⟨rfl, hz, b3, b4, b5, b8, b9, hB⟩ := hcut
    have HW : Hid (wc.heap.size = w3.heap.size + 1) := hz
    have r0 : 0 ≤ T - T % (C : Int) := by omega
    have r1 : T - T % (C : Int) ≤ T := by omega
    generalize hrd : T - T % (C : Int) = rd at *
    have HD : Hid (T - T % (C : Int) = rd) := hrd
    have hlw : w.heap.size < wc.heap.size := by omega
    have c3 := b3.cell
    clear b3' b4' b5' b8' c5 c8 hB2 hrd hz
    gi_wp2_with (refine ⟨trivial, ?_⟩; gi_at_call 19; refine (counting_in Fence.wide _ trivial rfl _ _ _ _).mono ?_; rintro e w' ⟨rfl, rfl⟩)
    have hz1 := HW.out
    have hz2 := HZ.out
    have b10 := ((Boxed.new wc 3 (.int .i64 0)).alloc (.cells #[.bool false] 4)).alloc (.cells #[.slice ad len cap] 22)
    have b11 := (Boxed.new (wc.alloc (.cells #[.int .i64 0] 3)) 4 (.bool false)).alloc (.cells #[.slice ad len cap] 22)
    have bN := Boxed.new ((wc.alloc (.cells #[.int .i64 0] 3)).alloc (.cells #[.bool false] 4)) 22 (.slice ad len cap)
    simp only [World.size_alloc] at b11 bN
    have hB0 : Below w.heap.size w (((wc.alloc (.cells #[.int .i64 0] 3)).alloc (.cells #[.bool false] 4)).alloc (.cells #[.slice ad len cap] 22)) := ((hB.alloc (by omega) _).alloc (by simp; omega) _).alloc (by simp; omega) _
    refine wpIn_rangeFunc_ownG rfl (by decide) (gf := 21) (lb := #[.pointer (some ⟨wc.heap.size + 1 + 1, 0, none⟩)]) rfl trivial (enters_of Try.func21 (by kernel_rfl) rfl)
      (iter_stops Fence.wide 2 trivial rfl (by decide) (wc.heap.size + 1 + 1) wc.heap.size (wc.heap.size + 1 + 1) ad len cap ls hm hcap HM.out _ (by simp) (by simp; omega) (by simp) bN.cell ((HR.out.below hB0).mono (by omega)))
      (fun h k => h.trans k) (keepC_b) (Below.refl _ _) (fun _ => rfl)
      (fun pr W => ((Boxed W w.heap.size 22 (.slice ad len cap) ∧ Boxed W (w.heap.size + 1) 3 (.int .i64 dom) ∧ Boxed W (w.heap.size + 1 + 1) 3 (.int .i64 T) ∧ Boxed W w1.heap.size 3 (.int .i64 (C : Int)) ∧ Boxed W w3.heap.size 3 (.int .i64 rd)) ∧ NextCells W wc.heap.size dom T rd C pr) ∧ Below w.heap.size w W)
      (fun _ _ _ => False)
      (OwnFrom.and (Own.from (fun s A B row hs hg hr => by
        obtain ⟨⟨h1, h2, h3, h4, h5⟩, nx, fd, h6, h7, h8⟩ := hs
        exact ⟨⟨boxed_keep h1 hg hr, boxed_keep h2 hg hr, boxed_keep h3 hg hr, boxed_keep h4 hg hr, boxed_keep h5 hg hr⟩, nextCells nx fd (boxed_keep h6 hg hr) (boxed_keep h7 hg hr) h8⟩) _) (ownFrom_below (Nat.le_refl _) (by simp; omega)))
      (fun _ _ _ _ _ hs _ _ => hs)
      ⟨⟨⟨((b3.alloc _).alloc _).alloc _, ((b4.alloc _).alloc _).alloc _, ((b5.alloc _).alloc _).alloc _, ((b8.alloc _).alloc _).alloc _, ((b9.alloc _).alloc _).alloc _⟩, nextCells 0 false b10 b11 (.inl ⟨rfl, rfl, fun x hx => by simp at hx⟩)⟩, hB0⟩
      (fun x => { tmps := #[.slice ad len cap, .int .i64 dom, .int .i64 t, .pointer (some ⟨w.heap.size, 0, none⟩), .pointer (some ⟨w.heap.size + 1, 0, none⟩), .pointer (some ⟨w.heap.size + 1 + 1, 0, none⟩), .int .i64 0, .bool false, .pointer (some ⟨w1.heap.size, 0, none⟩), .pointer (some ⟨w3.heap.size, 0, none⟩), .pointer (some ⟨wc.heap.size, 0, none⟩), .pointer (some ⟨wc.heap.size + 1, 0, none⟩), .int .i64 (x.1.1 : Int), .int .i64 (x.1.2 : Int), undef, u15, u16, u17, u18, u19, u20, u21, u22, u23, u24, u25, .slice ad len cap, .func (.func 21) #[] #[.pointer (some ⟨wc.heap.size + 1 + 1, 0, none⟩)], .int .i64 (x.1.1 : Int), .int .i64 (x.1.2 : Int), u30, u31, u32, u33, u34, u35, u36, u37, u38, u39, u40, u41, u42, u43, u44, u45, u46, u47, u48, u49, u50, u51, u52, u53, u54, u55, u56, u57, u58, u59], defers := [] }) ?assign ?body ?done ?stop
    case assign =>
      intro l x W K hK
      clear hz1 hz2
      unfold Out.enc
      gi_wp2
      exact hK
    case body =>
      clear hz1 hz2
      rintro l pr x W ⟨⟨⟨x3, x4, x5, x8, x9⟩, nx, fd, x10, x11, hF⟩, hB⟩ hN
      have hjl := off_le ls x.1.1
      have hx1 := x.2.1
      have hx2 := x.2.2.2
      have hj0 : (0 : Int) ≤ (x.1.2 : Int) := by omega
      have hj' : (x.1.2 : Int) ≤ 256 := by omega
      have c3 := x3.cell
      have c4 := x4.cell
      have c5 := x5.cell
      have c8 := x8.cell
      have c9 := x9.cell
      have c10 := x10.cell
      have f10 := x10.frozen
      have c11 := x11.cell
      have f11 := x11.frozen
      have hne1 : ¬ wc.heap.size = wc.heap.size + 1 := by omega
      obtain ⟨b, o, rfl, hb, hcs⟩ : ∃ b off, ad = some ⟨b, off, none⟩ ∧ b < w.heap.size ∧ ∀ i, i < ls.length → W.cell? ⟨b, off + i * 2, none⟩ = some (.int .i64 (dm ls i)) ∧ W.cell? ⟨b, off + i * 2 + 1, none⟩ = some (.int .i64 (ln ls i)) := by
        rcases HR.out.below hB with h | h
        · have h' := congrArg List.length h; rw [List.length_nil] at h'; omega
        · exact h
      obtain ⟨cd, _⟩ := hcs _ hx1
      clear hcs hjl hx2
      have HS := fun h => hF.skip x h
      have HK := fun h1 h2 h3 => hF.take x h1 h2 h3
      have HF : Hid (((dm ls x.1.1 = dom → 4611686018427387904 < begin T rd C (x.1.2 : Int) ∨ (fd = true ∧ nx ≤ begin T rd C (x.1.2 : Int))) → Found dom T rd C (pr ++ [x]) nx fd) ∧ (dm ls x.1.1 = dom → begin T rd C (x.1.2 : Int) ≤ 4611686018427387904 → fd = false ∨ begin T rd C (x.1.2 : Int) < nx → Found dom T rd C (pr ++ [x]) (begin T rd C (x.1.2 : Int)) true)) := ⟨HS, HK⟩
      have hil : (x.1.1 : Int) < (len : Int) := by omega
      have hi0 : (0 : Int) ≤ (x.1.1 : Int) := by omega
      clear HS HK hF hx1
      generalize dm ls x.1.1 = d at *
      generalize x.1.1 = i at *
      generalize (x.1.2 : Int) = j at *
      have hin : IntKind.i64.wrap (rd + j) = rd + j ∧ IntKind.i64.wrap (rd + j + C) = rd + j + C ∧ wrap64 (rd + j) = rd + j ∧ wrap64 (rd + j + C) = rd + j + C := ⟨wrapB (by omega), wrapB (by omega), IntWalk.wrap64_in _ (by omega), IntWalk.wrap64_in _ (by omega)⟩
      obtain ⟨w1', w2', w3', w4'⟩ := hin
      have hS : ∀ W' : World, Boxed W' wc.heap.size 3 (.int .i64 nx) → True := fun _ _ => trivial
      gi_wp2
      gi_cut [36] from 30 (fun s36 w' => s36 = .bool (d != dom) ∧ w' = W.drew)
      case first =>
        gi_region_with_o (fail)
        all_goals gi_wp2
        all_goals gi_meet
        all_goals exact ⟨rfl, rfl⟩
      case rest =>
        obtain ⟨rfl, rfl⟩ := hcut
        have k5 : W.drew.cell? ⟨w.heap.size + 1 + 1, 0, none⟩ = some (.int .i64 T) := c5
        have k8 : W.drew.cell? ⟨w1.heap.size, 0, none⟩ = some (.int .i64 (C : Int)) := c8
        have k9 : W.drew.cell? ⟨w3.heap.size, 0, none⟩ = some (.int .i64 rd) := c9
        have k10 : W.drew.cell? ⟨wc.heap.size, 0, none⟩ = some (.int .i64 nx) := c10
        have k11 : W.drew.cell? ⟨wc.heap.size + 1, 0, none⟩ = some (.bool fd) := c11
        have kf10 : W.drew.frozen? ⟨wc.heap.size, 0, none⟩ = false := f10
        have kf11 : W.drew.frozen? ⟨wc.heap.size + 1, 0, none⟩ = false := f11
        have y3 := boxed_drew x3
        have y4 := boxed_drew x4
        have y5 := boxed_drew x5
        have y8 := boxed_drew x8
        have y9 := boxed_drew x9
        have y10 := boxed_drew x10
        have y11 := boxed_drew x11
        have hB' := hB.drew
        have hKO := KeepsOthers.drew W
        have hKC := (KeepC.refl wc.heap.size (wc.heap.size + 1 + 1) W).drew
        clear x3 x4 x5 x8 x9 x10 x11 c3 c4 c5 c8 c9 c10 c11 f10 f11 hB cd
        generalize W.drew = V at *
        by_cases hd : d = dom
        · have hd' : (d != dom) = false := by simp [hd]
          have hn8 : w1.heap.size ≠ wc.heap.size := by have := HW.out; have := HZ.out; omega
          have hn8' : w1.heap.size ≠ wc.heap.size + 1 := by have := HW.out; have := HZ.out; omega
          have hn9 : w3.heap.size ≠ wc.heap.size := by have := HW.out; omega
          have hn9' : w3.heap.size ≠ wc.heap.size + 1 := by have := HW.out; omega
          have hn5 : w.heap.size + 1 + 1 < wc.heap.size := by have := HW.out; omega
          by_cases hlow : rd + j < T
          · have hbg : begin T rd C j = rd + j + (C : Int) := begin_low hlow
            by_cases hM : rd + j + (C : Int) ≤ 4611686018427387904
            · cases fd
              · gi_wp2
                exact ⟨(hKO.trans ((KeepsOthers.setCell _ _ _).trans (KeepsOthers.setCell _ _ _))).from _, hKC.trans ((KeepC.setCell V _ _ (Nat.le_refl _) (by omega)).trans (KeepC.setCell _ _ _ (by omega) (by omega))), ⟨⟨(y3.other (by omega) _).other (by omega) _, (y4.other (by omega) _).other (by omega) _, (y5.other (by omega) _).other (by omega) _, (y8.other hn8 _).other hn8' _, (y9.other hn9 _).other hn9' _⟩, nextCells _ true ((y10.set _).other (by omega) _) ((y11.other (by omega) _).set _) (by have hh := HF.out.2 hd (by rw [hbg]; omega) (by simp); rw [hbg] at hh; exact hh)⟩, (hB'.setCell (p := ⟨wc.heap.size, 0, none⟩) (Nat.le_of_lt hlw) _).setCell (p := ⟨wc.heap.size + 1, 0, none⟩) (show w.heap.size ≤ wc.heap.size + 1 by omega) _⟩
              · by_cases hlt : rd + j + (C : Int) < nx
                · gi_wp2
                  exact ⟨(hKO.trans ((KeepsOthers.setCell _ _ _).trans (KeepsOthers.setCell _ _ _))).from _, hKC.trans ((KeepC.setCell V _ _ (Nat.le_refl _) (by omega)).trans (KeepC.setCell _ _ _ (by omega) (by omega))), ⟨⟨(y3.other (by omega) _).other (by omega) _, (y4.other (by omega) _).other (by omega) _, (y5.other (by omega) _).other (by omega) _, (y8.other hn8 _).other hn8' _, (y9.other hn9 _).other hn9' _⟩, nextCells _ true ((y10.set _).other (by omega) _) ((y11.other (by omega) _).set _) (by have hh := HF.out.2 hd (by rw [hbg]; omega) (.inr (by rw [hbg]; exact hlt)); rw [hbg] at hh; exact hh)⟩, (hB'.setCell (p := ⟨wc.heap.size, 0, none⟩) (Nat.le_of_lt hlw) _).setCell (p := ⟨wc.heap.size + 1, 0, none⟩) (show w.heap.size ≤ wc.heap.size + 1 by omega) _⟩
                · gi_wp2
                  exact ⟨hKO.from _, hKC, ⟨⟨y3, y4, y5, y8, y9⟩, nextCells nx true y10 y11 (HF.out.1 (fun _ => by rw [hbg]; exact .inr ⟨by simp, by omega⟩))⟩, hB'⟩
            · gi_wp2
              exact ⟨hKO.from _, hKC, ⟨⟨y3, y4, y5, y8, y9⟩, nextCells nx fd y10 y11 (HF.out.1 (fun _ => by rw [hbg]; exact .inl (by omega)))⟩, hB'⟩
          · have hbg : begin T rd C j = rd + j := begin_high hlow
            by_cases hM : rd + j ≤ 4611686018427387904
            · cases fd
              · gi_wp2
                exact ⟨(hKO.trans ((KeepsOthers.setCell _ _ _).trans (KeepsOthers.setCell _ _ _))).from _, hKC.trans ((KeepC.setCell V _ _ (Nat.le_refl _) (by omega)).trans (KeepC.setCell _ _ _ (by omega) (by omega))), ⟨⟨(y3.other (by omega) _).other (by omega) _, (y4.other (by omega) _).other (by omega) _, (y5.other (by omega) _).other (by omega) _, (y8.other hn8 _).other hn8' _, (y9.other hn9 _).other hn9' _⟩, nextCells _ true ((y10.set _).other (by omega) _) ((y11.other (by omega) _).set _) (by have hh := HF.out.2 hd (by rw [hbg]; omega) (by simp); rw [hbg] at hh; exact hh)⟩, (hB'.setCell (p := ⟨wc.heap.size, 0, none⟩) (Nat.le_of_lt hlw) _).setCell (p := ⟨wc.heap.size + 1, 0, none⟩) (show w.heap.size ≤ wc.heap.size + 1 by omega) _⟩
              · by_cases hlt : rd + j < nx
                · gi_wp2
                  exact ⟨(hKO.trans ((KeepsOthers.setCell _ _ _).trans (KeepsOthers.setCell _ _ _))).from _, hKC.trans ((KeepC.setCell V _ _ (Nat.le_refl _) (by omega)).trans (KeepC.setCell _ _ _ (by omega) (by omega))), ⟨⟨(y3.other (by omega) _).other (by omega) _, (y4.other (by omega) _).other (by omega) _, (y5.other (by omega) _).other (by omega) _, (y8.other hn8 _).other hn8' _, (y9.other hn9 _).other hn9' _⟩, nextCells _ true ((y10.set _).other (by omega) _) ((y11.other (by omega) _).set _) (by have hh := HF.out.2 hd (by rw [hbg]; omega) (.inr (by rw [hbg]; exact hlt)); rw [hbg] at hh; exact hh)⟩, (hB'.setCell (p := ⟨wc.heap.size, 0, none⟩) (Nat.le_of_lt hlw) _).setCell (p := ⟨wc.heap.size + 1, 0, none⟩) (show w.heap.size ≤ wc.heap.size + 1 by omega) _⟩
                · gi_wp2
                  exact ⟨hKO.from _, hKC, ⟨⟨y3, y4, y5, y8, y9⟩, nextCells nx true y10 y11 (HF.out.1 (fun _ => by rw [hbg]; exact .inr ⟨by simp, by omega⟩))⟩, hB'⟩
            · gi_wp2
              exact ⟨hKO.from _, hKC, ⟨⟨y3, y4, y5, y8, y9⟩, nextCells nx fd y10 y11 (HF.out.1 (fun _ => by rw [hbg]; exact .inl (by omega)))⟩, hB'⟩
        · have hd' : (d != dom) = true := by simp [hd]
          gi_wp2
          exact ⟨hKO.from _, hKC, ⟨⟨y3, y4, y5, y8, y9⟩, nextCells nx fd y10 y11 (HF.out.1 (fun h => (hd h).elim))⟩, hB'⟩
    case done =>
      clear hz1 hz2
      rintro D ys W hD rfl ⟨⟨_, nx, fd, x10, x11, hF⟩, hB⟩ hK
      have c10 := x10.cell
      have c11 := x11.cell
      gi_wp2
      gi_region
      gi_wp2
      have hK' : W.drew.heap[D]? = some (.deferred (some [])) := hK
      refine ⟨by simp, .inl ⟨_, _, rfl, run_takeDeferred hK', ?_⟩⟩
      refine ⟨.tuple #[.int .i64 nx, .bool fd], by simp [results, Try.f13, go_sem], _, _, rfl, HX.out C rd nx fd hpos rfl HD.out.symm hF, hB.drew.trans (belowK_b (w := w) (Nat.le_refl _) _ D _ _ (by have := HW.out; simp at hD; omega) hK' rfl rfl)⟩
    case stop =>
      rintro D c pre W _ _ h _
      exact h.elim

theorem none_begins {ls : List (Int × Int)} (h : off ls ls.length = 0) (dom T : Int) : ¬ Begins ls dom T := fun ⟨k, h1, h2, _, _⟩ => by
  have := off_pos h1 h2; omega

set_option maxRecDepth 100000 in
set_option maxHeartbeats 2000000 in
theorem next_none (ad : Option Addr) (len cap : Nat) (ls : List (Int × Int)) (hm : len ≤ 16 ∧ ls.length = len ∨ 16 < len ∧ ls.length = 16) (hcap : len ≤ cap) (hmax : cap ≤ maxLen) (dom t : Int) (w : World) (hrow : SlotRow w.heap.size w ad ls) (hpos : off ls ls.length = 0) :
    Calls Try.prog 13 #[.slice ad len cap, .int .i64 dom, .int .i64 t] w fun e W' => ∃ n ok, e = .returned (.tuple #[.int .i64 n, .bool ok]) ∧ NextIs ls dom t n ok ∧ Below w.heap.size w W' := by
  have hcy := fun w' h => cycle_any ad len cap ls hm hcap hmax w' h
  rw [hpos] at hcy
  have HCY : Hid (∀ w' : World, SlotRow w'.heap.size w' ad ls → Calls Try.prog 11 #[.slice ad len cap] w' fun e W' => e = .returned (.int .i64 ((0 : Nat) : Int)) ∧ Below w'.heap.size w' W') := hcy
  have HX : Hid (NextIs ls dom t 0 false) := .inr ⟨rfl, rfl, fun T _ _ => none_begins hpos dom T⟩
  have HR : Hid (SlotRow w.heap.size w ad ls) := hrow
  have HM : Hid (cap ≤ maxLen) := hmax
  clear hrow hmax hcy hpos
  have hB3 := below3 w (.cells #[.slice ad len cap] 22) (.cells #[.int .i64 dom] 3) (.cells #[.int .i64 t] 3)
  refine (callsIn_wide (n := 3)).1 ?_
  refine callsIn_of_wp_marks Try.func13 rfl trivial ?_ rfl
  simp only [Try.ntmps13, List.size_toArray, List.length_cons, List.length_nil, Nat.reduceAdd, Nat.reduceSub, Array.replicate_succ, Array.replicate_zero, List.push_toArray, List.append_toArray, List.nil_append, List.cons_append]
  gi_wp2_with (refine ⟨trivial, ?_⟩; gi_at_call 11; refine (callsIn_wide.2 (HCY.out _ ((HR.out.below hB3).mono (by simp; omega)))).mono ?_; rintro e w1 ⟨rfl, hB1⟩)
  refine ⟨.tuple #[.int .i64 0, .bool false], by simp [results, Try.f13, go_sem], _, _, rfl, HX.out, ?_⟩
  exact (hB3.trans (hB1.mono (by simp; omega))).alloc (by have := hB1.size; simp at this; omega) _

theorem next_any (ad : Option Addr) (len cap : Nat) (ls : List (Int × Int)) (hm : len ≤ 16 ∧ ls.length = len ∨ 16 < len ∧ ls.length = 16) (hcap : len ≤ cap) (hmax : cap ≤ maxLen) (dom t : Int) (w : World) (hrow : SlotRow w.heap.size w ad ls) :
    Calls Try.prog 13 #[.slice ad len cap, .int .i64 dom, .int .i64 t] w fun e W' => ∃ n ok, e = .returned (.tuple #[.int .i64 n, .bool ok]) ∧ NextIs ls dom t n ok ∧ Below w.heap.size w W' := by
  by_cases h : off ls ls.length = 0
  · exact next_none ad len cap ls hm hcap hmax dom t w hrow h
  · exact next_some ad len cap ls hm hcap hmax dom t w hrow (by omega)

end Go.Proofs.Ytkpnkpkokjcdoaa
