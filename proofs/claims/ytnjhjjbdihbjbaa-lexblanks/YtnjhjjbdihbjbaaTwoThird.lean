/-
  The walk of the law LexTwo where nothing is wrong with either text.
-/
import Derived.Test.YtnjhjjbdihbjbaaTwoWalk
namespace Go.Proofs.Ytnjhjjbdihbjbaa
open Go.RowKit

/-- A list stays where its block stays. -/
theorem Own.kept {w w' : World} {B : Nat} {v : Value} {ws : List Wd} (h : Own w B v ws) (hk : ∀ b, B ≤ b → b < w.heap.size → w'.heap[b]? = w.heap[b]?) : Own w' B v ws := by
  obtain ⟨h1, h2⟩ := h
  refine ⟨h1, ?_⟩
  rcases h2 with h2 | ⟨g, cap, cur, hv, hg, hh, r⟩
  · exact Or.inl h2
  · exact Or.inr ⟨g, cap, cur, hv, hg, (hk g hg (Array.getElem?_eq_some_iff.1 hh).1).trans hh, r⟩

theorem own_snoc {w3 : World} {B g cap : Nat} {D : List Wd} (x : Wd) (h : w3.ownsRow B 32 3 (.slice (some ⟨g, 0, none⟩) (D.length + 1) cap) (D.length + 1) (cellsW D ++ [.string ⟨x.text.toArray⟩, .int .i64 (x.line : Nat), .int .i64 (x.col : Nat)])) :
    Own w3 B (.slice (some ⟨g, 0, none⟩) (D.length + 1) cap) (D ++ [x]) := by
  unfold Own
  rw [cellsW_append, List.length_append, cellsW_one]
  exact h

theorem wrap_small {x y : Nat} (hx : x ≤ 20000) (hy : y ≤ 20000) : IntKind.i64.wrap ((x : Int) + (y : Int)) = ((x + y : Nat) : Int) := by
  rw [IntKind.wrap_i64]; omega

/-- Where the gathering of the second text's words stands. -/
structure GatherAt (w w1 w3 : World) (WA WB : List Wd) (m k : Nat) (v : Value) (wr : World) : Prop where
  own : Own wr w.heap.size v (WA ++ (WB.take k).map (shiftW m))
  apart : ∀ g, v.ownBlock = some g → g < w1.heap.size ∨ w3.heap.size ≤ g
  kept : ∀ b, w1.heap.size ≤ b → b < w3.heap.size → wr.heap[b]? = w3.heap[b]?
  below : Below w.heap.size w wr
  size : w3.heap.size ≤ wr.heap.size

theorem gather_next {w w1 w3 wr wa w' : World} {WA WB : List Wd} {m k g cap : Nat} {v : Value} {x : Wd} (h : GatherAt w w1 w3 WA WB m k v wr) (hx : WB[k]? = some x) (h1 : w.heap.size ≤ w3.heap.size) (o : Obj)
    (hh : wa.heap = (wr.alloc o).heap) (hos : wa.os = wr.os) (htp : wa.tape = wr.tape) (hout : wa.output = wr.output)
    (hown : w'.ownsRow w.heap.size 32 3 (.slice (some ⟨g, 0, none⟩) ((WA ++ (WB.take k).map (shiftW m)).length + 1) cap) ((WA ++ (WB.take k).map (shiftW m)).length + 1) (cellsW (WA ++ (WB.take k).map (shiftW m)) ++ [.string ⟨x.text.toArray⟩, .int .i64 ((x.line + m : Nat) : Int), .int .i64 x.col]))
    (hgrow : wa.grownBy w' v.ownBlock) (hwhere : v.ownBlock = some g ∨ g = wr.heap.size + 1) :
    GatherAt w w1 w3 WA WB m (k + 1) (.slice (some ⟨g, 0, none⟩) ((WA ++ (WB.take k).map (shiftW m)).length + 1) cap) w' where
  own := by
    have e : (WB.take (k + 1)).map (shiftW m) = (WB.take k).map (shiftW m) ++ [⟨x.text, x.line + m, x.col⟩] := by
      rw [List.take_add_one, hx, List.map_append]; rfl
    rw [e, ← List.append_assoc]
    exact own_snoc ⟨x.text, x.line + m, x.col⟩ hown
  apart := by
    intro g' hg'
    have e : g' = g := by simpa [Value.ownBlock] using hg'.symm
    subst e
    rcases hwhere with hw | hw
    · exact h.apart _ hw
    · right; have := h.size; omega
  kept := by
    intro b hb1 hb2
    have hs := h.size
    rw [hgrow.block b (by rw [hh]; simp; omega) (fun e => by rcases h.apart b e.symm with hh | hh <;> omega), hh]
    exact (Lib.alloc_old _ _ _ (by omega)).trans (h.kept b hb1 hb2)
  below := by
    have hs := h.size
    have hb : Below w.heap.size w wa := by
      have := h.below.alloc (by omega) o
      exact ⟨hos.trans this.os, htp.trans this.tape, hout.trans this.output, by rw [hh]; exact this.size, fun i hi => by rw [hh]; exact this.block i hi⟩
    exact hb.grown hgrow (by rw [hh]; simp; omega) (fun j hj => (h.own.lt j hj).1)
  size := by
    have hs := h.size
    have := hgrow.size
    rw [hh] at this
    simp at this
    omega

set_option maxHeartbeats 4000000 in
set_option maxRecDepth 100000 in
theorem two_third (a b : ByteArray) (h : ¬ (a.size : Int) + b.size > 4000) (WA WB : List Wd) (hA : ansOf a.data.toList = ⟨WA, 0, 0, 0⟩) (hb : ansOf b.data.toList = ⟨WB, 0, 0, 0⟩) (hZ : ansOf (a.data.toList ++ 10 :: b.data.toList) = ⟨WA ++ WB.map (shiftW (1 + a.data.toList.count 10)), 0, 0, 0⟩)
    (hlen : WA.length + WB.length ≤ 4000) (hli : ∀ x ∈ WB, x.line ≤ 5000) (w : World) :
    Calls Try.prog 4 #[.string a, .string b] w fun e w' => e = .returned (.bool true) ∧ Below w.heap.size w w' := by
  obtain ⟨i0, hi, hz0, hz1, hz2⟩ := info_parts info32
  have H1 := fun w => words_any a w
  have H2 := fun w => words_any b w
  have H3 := fun w => words_any (a ++ (⟨#[10]⟩ : ByteArray) ++ b) w
  rw [hA] at H1
  rw [hb] at H2
  rw [join_list, hZ] at H3
  clear hA hZ hb
  obtain ⟨C, hC⟩ : ∃ C, a.data.toList.count 10 = C := ⟨_, rfl⟩
  rw [hC] at H3
  have HC : Hid (a.data.toList.count 10 = C) := hC
  clear hC
  have HLI : Hid (∀ x ∈ WB, x.line ≤ 5000) := hli
  clear hli
  go_enter Try.func4, Try.ntmps4
  go_wp2_with fail
  refine (H1 _).mono ?_
  rintro e w1 ⟨v1, rfl, hO1, hB1⟩
  go_wp2_with fail
  refine (H2 _).mono ?_
  rintro e w2 ⟨v2, rfl, hO2, hB2⟩
  go_wp2_with fail
  refine (H3 _).mono ?_
  rintro e w3 ⟨v3, rfl, hO3, hB3⟩
  have hB4 := below_next (below_next hB1 hB2) hB3
  have hs1 := hB1.size
  have hs2 := hB2.size
  have hs3 := hB3.size
  have HO : Hid (Own w3 w.heap.size v1 WA ∧ Own w3 w1.heap.size v2 WB ∧ Own w3 w2.heap.size v3 (WA ++ WB.map (shiftW (1 + C))) ∧ ∀ g, v1.ownBlock = some g → g < w1.heap.size) := ⟨(hO1.below hB2).below hB3, hO2.below hB3, hO3, fun g hg => (World.ownsRow.lt hO1 g hg).2⟩
  clear hO1 hO2 hO3 hB1 hB2 hB3
  go_wp2_with fail
  go_loop [17, 18] (fun lv iv => ∃ k : Nat, k ≤ a.size ∧ iv = .int .i64 k ∧ lv = .int .i64 ((1 + (a.data.toList.take k).count 10 : Nat) : Int)) (fun _ i => a.size - (intOf i).toNat)
  case atStart => exact ⟨0, Nat.zero_le _, rfl, rfl⟩
  case round =>
    obtain ⟨k, hk, rfl, rfl⟩ := hrel
    have hcl := count_le a.data.toList k
    by_cases hlt : (k : Int) < a.size
    · have hks : k < a.size := by omega
      obtain ⟨x, hd, hx⟩ := byte_at hks
      have hcn := count_next _ k x hd
      by_cases hx10 : x = 10
      · have hb2 : (a[k]'hks).toNat = 10 := by rw [hx, hx10]; rfl
        rw [if_pos hx10] at hcn
        have HCN : Hid ((a.data.toList.take (k + 1)).count 10 = (a.data.toList.take k).count 10 + 1) := hcn
        clear hcn hx10 hd hx
        generalize (a.data.toList.take k).count 10 = cc at *
        go_wp2_with fail
        go_round
        case rel => exact ⟨k + 1, by omega, by go_num, by rw [HCN.out]; go_num⟩
        case measure => simp [intOf]; omega
      · obtain ⟨z, hz⟩ : ∃ z, x.toNat = z := ⟨_, rfl⟩
        rw [hz] at hx
        have hxb : ((z : Int) == 10) = false := by
          rw [beq_eq_false_iff_ne]
          intro e
          exact hx10 (UInt8.toNat_inj.1 (by rw [hz]; show z = 10; omega))
        rw [if_neg hx10] at hcn
        have HCN : Hid ((a.data.toList.take (k + 1)).count 10 = (a.data.toList.take k).count 10 + 0) := hcn
        clear hcn hx10 hd hz
        generalize (a.data.toList.take k).count 10 = cc at *
        go_wp2_with fail
        go_round
        case rel => exact ⟨k + 1, by omega, by go_num, by rw [HCN.out]; go_num⟩
        case measure => simp [intOf]; omega
    · have hall : (a.data.toList.take k).count 10 = C := by
        rw [← HC.out, List.take_of_length_le (by rw [size_list]; omega)]
      rw [hall] at hcl ⊢
      clear hall HC
      obtain ⟨m, hm⟩ : ∃ m, 1 + C = m := ⟨_, rfl⟩
      have hm2 : m ≤ 5000 := by omega
      rw [hm] at HO ⊢
      clear hm hcl
      obtain ⟨ay, cy, hvy, hcapy⟩ := HO.out.2.1.form
      subst hvy
      go_wp2_with fail
      go_loopw [5, 19] (fun v iv wr => ∃ k : Nat, k ≤ WB.length ∧ iv = .int .i64 k ∧ GatherAt w w1 w3 WA WB m k v wr) (fun _ i _ => WB.length - (intOf i).toNat)
      case atStart => exact ⟨0, Nat.zero_le _, rfl, by rw [List.take_zero, List.map_nil, List.append_nil]; exact HO.out.1, fun g hg => Or.inl (HO.out.2.2.2 g hg), fun _ _ _ => rfl, hB4, Nat.le_refl _⟩
      case round =>
        obtain ⟨k, hk, rfl, hS⟩ := hrel
        by_cases hlt : k < WB.length
        · obtain ⟨x, hx⟩ : ∃ x, WB[k]? = some x := ⟨WB[k]'hlt, List.getElem?_eq_getElem hlt⟩
          have hOy := HO.out.2.1.kept (fun b h1 h2 => hS.kept b h1 h2)
          obtain ⟨gy, cy', hvy, hgy1, hgy2⟩ := World.ownsRow.form hOy (by omega)
          injection hvy with hv1 hv2 hv3
          subst hv1 hv3
          obtain ⟨hcell, _, _, _⟩ := owns_cell hOy
          obtain ⟨e1, e2, e3⟩ := cellsW_at WB k x hx
          have q0 : wr.cell? ⟨gy, k * 3, none⟩ = some (.string ⟨x.text.toArray⟩) := hcell _ _ e1
          have q1 : wr.cell? ⟨gy, k * 3 + 1, none⟩ = some (.int .i64 x.line) := hcell _ _ e2
          have q2 : wr.cell? ⟨gy, k * 3 + 2, none⟩ = some (.int .i64 x.col) := hcell _ _ e3
          have hlx := HLI.out x (List.mem_of_getElem? hx)
          have hgyz : gy < w3.heap.size := by
            rcases HO.out.2.1.2 with ⟨e, _⟩ | ⟨g, _, _, e, _, hh, _⟩
            · cases e
            · injection e with e _ _
              injection e with e
              injection e with e
              subst e
              exact (Array.getElem?_eq_some_iff.1 hh).1
          have hne : u5.ownBlock ≠ some gy := fun e => by rcases hS.apart gy e with hh | hh <;> omega
          have HS : Hid (GatherAt w w1 w3 WA WB m k u5 wr ∧ WB[k]? = some x) := ⟨hS, hx⟩
          have hO := hS.own
          have hsw := hS.size
          have hD : (WA ++ (WB.take k).map (shiftW m)).length ≤ 4000 := by
            rw [List.length_append, List.length_map, List.length_take]; omega
          have d0 : (0 : Int) ≤ (k : Int) := Int.natCast_nonneg _
          have d1 : (k : Int) < (WB.length : Int) := by omega
          have lg : gy < wr.heap.size := by omega
          have t1 : (x.line : Int) + (m : Int) = ((x.line + m : Nat) : Int) := by omega
          clear hS hcell e1 e2 e3 hx hOy hgy1 hgy2
          obtain ⟨T, hT⟩ : ∃ T, T = (⟨x.text.toArray⟩ : ByteArray) := ⟨_, rfl⟩
          rw [← hT] at q0
          obtain ⟨D, hDe⟩ : ∃ D, D = WA ++ (WB.take k).map (shiftW m) := ⟨_, rfl⟩
          rw [← hDe] at hO hD
          have HD : Hid (D = WA ++ (WB.take k).map (shiftW m)) := hDe
          clear hDe
          obtain ⟨L, hL⟩ : ∃ L, x.line = L := ⟨_, rfl⟩
          obtain ⟨Q, hQ⟩ : ∃ Q, x.col = Q := ⟨_, rfl⟩
          rw [hL] at q1 hlx t1
          rw [hQ] at q2
          have HE : Hid (T = (⟨x.text.toArray⟩ : ByteArray) ∧ x.line = L ∧ x.col = Q) := ⟨hT, hL, hQ⟩
          clear t1 hT hL hQ
          go_wp2_with fail
          go_region_held3 (fun w' => w'.cell? ⟨gy, k * 3, none⟩ = some (.string T) ∧ w'.cell? ⟨gy, k * 3 + 1, none⟩ = some (.int .i64 L) ∧ w'.cell? ⟨gy, k * 3 + 2, none⟩ = some (.int .i64 Q))
            (first
              | go_keep
              | (go_split_ands
                 refine ⟨?_, ?_, ?_⟩
                 · (rw [hgrow.cell_far _ (by simp; omega) (Ne.symm hne)]; assumption)
                 · (rw [hgrow.cell_far _ (by simp; omega) (Ne.symm hne)]; assumption)
                 · (rw [hgrow.cell_far _ (by simp; omega) (Ne.symm hne)]; assumption)))
            ((refine step_append_lies _ (by rfl) _ _ _ (by rfl) w.heap.size 32 i0 _ 3 32 Try.underlying22 hi hz0 hz1 hz2 rfl (by omega) u5 D.length (cellsW D) (by rfl) ((hO.alloc _).drew)
                ⟨wr.heap.size, 0, none⟩ 1 1 [.string T, .int .i64 (IntKind.i64.wrap ((L : Int) + m)), .int .i64 Q] (by rfl) (by rfl) (World.news_of_block (cs := #[.string T, .int .i64 (IntKind.i64.wrap ((L : Int) + m)), .int .i64 Q]) (t := 32) (fr := (0, 0)) (heap_alloc_new wr _)) (ones3 _ _ _)
                (by omega) (by unfold maxLen; omega) (by omega) (by simp; omega) (wr.heap.size + 1) (by simp) ?_; intro gg cap w5 hown5 hgrow hat hlt5))
          have hG : GatherAt w w1 w3 WA WB m (k + 1) (.slice (some ⟨gg, 0, none⟩) (D.length + 1) cap) w5 := by
            rw [wrap_small (by omega) (by omega)] at hown5
            rw [HD.out] at hown5 ⊢
            rw [← HE.out.2.1, ← HE.out.2.2, HE.out.1] at hown5
            exact gather_next (wa := (wr.alloc (.cells #[.string T, .int .i64 (IntKind.i64.wrap ((L : Int) + m)), .int .i64 Q] 32)).drew) HS.out.1 HS.out.2 (by omega) (.cells #[.string T, .int .i64 (IntKind.i64.wrap ((L : Int) + m)), .int .i64 Q] 32) rfl rfl rfl rfl hown5 hgrow hat
          clear hown5 hgrow hat
          go_wp2_with fail
          go_roundw
          case rel => exact ⟨k + 1, by omega, by go_num, hG⟩
          case measure => simp [intOf]; omega
        · have hS2 := hS.own
          rw [List.take_of_length_le (by omega)] at hS2
          have hOz := HO.out.2.2.1.kept (fun b h1 h2 => hS.kept b (by omega) h2)
          have hB5 := hS.below
          obtain ⟨a5, c5, rfl, _, hR5⟩ := hS2.row
          obtain ⟨a3, c3, rfl, _, hR3⟩ := hOz.row
          have hL : (WA ++ WB.map (shiftW m)).length ≤ 5000 := by rw [List.length_append, List.length_map]; omega
          generalize WA ++ WB.map (shiftW m) = R at *
          have HR : Hid (Row wr a3 R ∧ Row wr a5 R) := ⟨hR3, hR5⟩
          clear hS hS2 hOz hR5 hR3 HO
          go_wp2_with fail
          refine (awake_any _).mono ?_
          rintro e w6 ⟨rfl, hB6⟩
          have hB7 := below_next hB5 hB6
          go_wp2_with fail
          refine (alike_same _ _ _ _ R _ hL (HR.out.1.below hB6) (HR.out.2.below hB6)).mono ?_
          rintro e w7 ⟨rfl, hB8⟩
          have hB9 := below_next hB7 hB8
          go_wp2
          go_ret
          exact ⟨rfl, hB9⟩

theorem two_walk (a b : ByteArray) (ha : a.size ≤ 140737488351232) (hb : b.size ≤ 140737488351232) (w : World) :
    Calls Try.prog 4 #[.string a, .string b] w fun e w' => e = .returned (.bool true) ∧ Below w.heap.size w w' := by
  by_cases h : (a.size : Int) + b.size > 4000
  · exact two_over a b h ha hb w
  · rcases two_cases a.data.toList b.data.toList (by rw [size_list, size_list]; omega) with ⟨p, q, p', q', h1, h2⟩ | ⟨WA, p, q, h1, h2, h3, h4⟩ | ⟨WA, WB, h1, h2, h3, h4, h5⟩
    · exact two_first a b h p q p' q' h1 h2 w
    · exact two_second a b h WA p q h4 h1 h2 h3 w
    · exact two_third a b h WA WB h1 h2 h3 h4 h5 w

end Go.Proofs.Ytnjhjjbdihbjbaa
