/-
  What lex.split comes to: the words of a text in which nothing is wrong.
-/
import Derived.Test.YtmhjoomkeidcaaaDoorL3Mem
namespace Go.Proofs.YtmhjoomkeidcaaaDoor.L3
open Go.RowKit

theorem step_out {st : St} {c : List UInt8} (h : inN (remN st.rem c) c = false) : step st c = ⟨st.all, none, nextL st.line c, nextC st.col c, remN st.rem c⟩ := by
  unfold step; rw [h]; rfl
theorem step_in {st : St} {c : List UInt8} (h : inN (remN st.rem c) c = true) : step st c = ⟨st.done, some (more st.cur c st.line st.col), nextL st.line c, nextC st.col c, remN st.rem c⟩ := by
  unfold step; rw [h]; rfl

/-- Where split stands. -/
structure SplitAt (s : ByteArray) (F : St) (w : World) (pos start : Nat) (st : St) (v : Value) (wr : World) : Prop where
  own : Own wr (w.heap.size + 1) v st.all
  iter : wr.heap[w.heap.size]? = some (.stringIter s pos)
  below : Below w.heap.size w wr
  goes : run st (chop (s.data.toList.drop pos)) = F
  ok : okAll (chop (s.data.toList.drop pos))
  text : ∀ x, st.cur = some x → x.text = (s.data.toList.drop start).take (pos - start) ∧ start ≤ pos
  line : st.line ≤ pos + 1
  col : st.col ≤ pos + 1
  len : st.all.length ≤ pos

theorem Own.iterAt {wr : World} {k base : Nat} {v : Value} {ws : List Wd} {s : ByteArray} (h : Own wr base v ws) (hk : k < base) (p : Nat) : Own (wr.iterAt k s p) base v ws := by
  obtain ⟨h1, h2⟩ := h
  refine ⟨h1, ?_⟩
  rcases h2 with h2 | ⟨g, cap, cur, hv, hg, hh, r⟩
  · exact Or.inl h2
  · exact Or.inr ⟨g, cap, cur, hv, hg, (Lib.iterAt_other _ _ _ _ _ (by omega)).trans hh, r⟩

theorem all_none (D : List Wd) (l c : Nat) (r : Bool) : St.all ⟨D, none, l, c, r⟩ = D := by simp [St.all]

theorem extract_eq (s : ByteArray) (i j : Nat) : s.extract i j = ⟨((s.data.toList.drop i).take (j - i)).toArray⟩ := by
  refine ByteArray.ext (Array.toList_inj.1 ?_)
  rw [extract_list]

/-- Behind a rune that stands in a word. -/
theorem SplitAt.into {s : ByteArray} {F : St} {w wr w3 : World} {pos start np st1 : Nat} {st : St} {v v' : Value} {c : List UInt8} (h : SplitAt s F w pos start st v wr)
    (hc : chop (s.data.toList.drop pos) = c :: chop (s.data.toList.drop np)) (hn : pos < np) (hin : inN (remN st.rem c) c = true)
    (hown : Own w3 (w.heap.size + 1) v' (st.done ++ [more st.cur c st.line st.col])) (hit : w3.heap[w.heap.size]? = some (.stringIter s np)) (hb : Below w.heap.size w w3)
    (ht : (more st.cur c st.line st.col).text = (s.data.toList.drop st1).take (np - st1) ∧ st1 ≤ np) (hlen : st.done.length + 1 ≤ np) :
    SplitAt s F w np st1 ⟨st.done, some (more st.cur c st.line st.col), nextL st.line c, nextC st.col c, remN st.rem c⟩ v' w3 where
  own := hown
  iter := hit
  below := hb
  goes := by
    have := h.goes
    rw [hc, run_cons, step_in hin] at this
    exact this
  ok := by
    have := h.ok
    rw [hc, okAll_cons] at this
    exact this.2
  text := fun x hx => by injection hx with hx; subst hx; exact ht
  line := by have := h.line; show nextL st.line c ≤ _; unfold nextL; split <;> omega
  col := by have := h.col; show nextC st.col c ≤ _; unfold nextC; split <;> omega
  len := by simp [St.all]; omega

/-- Behind a rune that stands in no word. -/
theorem SplitAt.out {s : ByteArray} {F : St} {w wr : World} {pos start np : Nat} {st : St} {v : Value} {c : List UInt8} (h : SplitAt s F w pos start st v wr)
    (hc : chop (s.data.toList.drop pos) = c :: chop (s.data.toList.drop np)) (hn : pos < np) (hin : inN (remN st.rem c) c = false) :
    SplitAt s F w np start ⟨st.all, none, nextL st.line c, nextC st.col c, remN st.rem c⟩ v (wr.iterAt w.heap.size s np) where
  own := by rw [all_none]; exact h.own.iterAt (by omega) np
  iter := Lib.iterAt_heap wr w.heap.size s pos np h.iter
  below := Lib.below_iterAt h.below (by omega) _ _
  goes := by
    have := h.goes
    rw [hc, run_cons, step_out hin] at this
    exact this
  ok := by
    have := h.ok
    rw [hc, okAll_cons] at this
    exact this.2
  text := fun x hx => by cases hx
  line := by have := h.line; show nextL st.line c ≤ _; unfold nextL; split <;> omega
  col := by have := h.col; show nextC st.col c ≤ _; unfold nextC; split <;> omega
  len := by rw [all_none]; have := h.len; omega

/-- A word that was just laid. -/
theorem news3 (W : World) (b : Nat) (hb : W.heap.size = b) (x y z : Value) : ∀ (j : Nat) (u : Value), [x, y, z][j]? = some u → (W.alloc (.cells #[x, y, z] 70)).cell? ((⟨b, 0, none⟩ : Addr).add j) = some u := by
  subst hb
  intro j u hj
  match j, hj with
  | 0, hj => simp at hj; subst hj; simp [Addr.add]
  | 1, hj => simp at hj; subst hj; simp [Addr.add]
  | 2, hj => simp at hj; subst hj; simp [Addr.add]
  | (j + 3), hj => simp at hj
theorem ones3 (t : ByteArray) (a b : Int) : ∀ u ∈ [Value.string t, .int .i64 a, .int .i64 b], u.oneCell' = true := by
  intro u hu
  simp at hu
  rcases hu with rfl | rfl | rfl <;> rfl

theorem kinds (c : List UInt8) (r : Nat) (h : ∀ x : UInt8, x.toNat < 128 → (r = x.toNat ↔ c = [x])) :
    (c = [35] ∧ r = 35) ∨ (c = [10] ∧ r = 10) ∨ (c = [32] ∧ r = 32) ∨ (c ≠ [35] ∧ c ≠ [10] ∧ c ≠ [32] ∧ r ≠ 35 ∧ r ≠ 10 ∧ r ≠ 32) := by
  have h1 : r = 35 ↔ c = [35] := h 35 (by decide)
  have h2 : r = 10 ↔ c = [10] := h 10 (by decide)
  have h3 : r = 32 ↔ c = [32] := h 32 (by decide)
  by_cases k1 : r = 35
  · exact Or.inl ⟨h1.1 k1, k1⟩
  · by_cases k2 : r = 10
    · exact Or.inr (Or.inl ⟨h2.1 k2, k2⟩)
    · by_cases k3 : r = 32
      · exact Or.inr (Or.inr (Or.inl ⟨h3.1 k3, k3⟩))
      · exact Or.inr (Or.inr (Or.inr ⟨fun e => k1 (h1.2 e), fun e => k2 (h2.2 e), fun e => k3 (h3.2 e), k1, k2, k3⟩))

set_option maxHeartbeats 2000000 in
theorem split_any (s : ByteArray) (hz : s.size ≤ 4096) (hok : okAll (chop s.data.toList)) (w : World) :
    Calls Tryd.prog 55 #[.string s] w fun e w' => ∃ v, e = .returned v ∧ Own w' w.heap.size v (wordsOf s.data.toList) ∧ Below w.heap.size w w' := by
  obtain ⟨i0, hi, hz0, hz1, hz2⟩ := info_parts info70
  obtain ⟨F, hF⟩ : ∃ F, run start (chop s.data.toList) = F := ⟨_, rfl⟩
  rw [show wordsOf s.data.toList = F.all by rw [← hF]; rfl]
  have HOK : Hid (okAll (chop s.data.toList)) := hok
  clear hok
  go_enter Tryd.func55, Tryd.ntmps55
  go_wp2
  go_loopw [3, 4, 5, 6, 7, 8] (fun v lv cv sv iv mv wr => ∃ (pos st0 : Nat) (st : St), lv = .int .i64 st.line ∧ cv = .int .i64 st.col ∧ sv = .int .i64 st0 ∧ iv = .bool st.cur.isSome ∧ mv = .bool st.rem ∧ SplitAt s F w pos st0 st v wr) (fun _ _ _ _ _ _ wr => s.size - wr.iterPos w.heap.size)
  case atStart =>
    have e1 := World.iter_heap w s 0
    exact ⟨0, 0, start, rfl, rfl, rfl, rfl, rfl, Own.nil _ _, e1, below1 _ _, by rw [List.drop_zero]; exact hF, by rw [List.drop_zero]; exact HOK.out, (fun x hx => by cases hx), Nat.le_refl _, Nat.le_refl _, Nat.le_refl _⟩
  case round =>
    obtain ⟨pos, st0, st, rfl, rfl, rfl, rfl, rfl, hS⟩ := hrel
    have hsz : w.heap.size < wr.heap.size := (Array.getElem?_eq_some_iff.1 hS.iter).1
    by_cases hp : pos < s.size
    · have hdc := drop_cons hp
      obtain ⟨a, ha⟩ : ∃ a, a = s.get! pos := ⟨_, rfl⟩
      obtain ⟨t, ht⟩ : ∃ t, t = s.data.toList.drop (pos + 1) := ⟨_, rfl⟩
      rw [← ha, ← ht] at hdc
      clear ha ht
      obtain ⟨r, hdec, _, hgood⟩ := rune_facts s pos a t hdc
      obtain ⟨np, hnp⟩ : ∃ np, np = pos + far (a :: t) := ⟨_, rfl⟩
      have hnx : ∀ ty, (Instr.next (.pointer (some ⟨w.heap.size, 0, none⟩)) true ty).run Tryd.prog wr = .ok (.tuple #[.bool true, .int .i64 pos, .int .i32 r]) (wr.iterAt w.heap.size s np) := fun ty => by
        have := Lib.run_next_any_at (P := Tryd.prog) wr w.heap.size s pos ty hS.iter hp
        rw [hdec] at this
        rw [hnp]; exact this
      have hfp := far_pos (a :: t)
      have hlt : pos < np := by omega
      have hnps : np ≤ s.size := by
        have h1 := far_le a t
        have h2 := congrArg List.length hdc
        rw [List.length_drop, size_list, List.length_cons] at h2
        omega
      have hdn : s.data.toList.drop np = (a :: t).drop (far (a :: t)) := by rw [hnp, ← List.drop_drop, hdc]
      have hch : chop (s.data.toList.drop pos) = (a :: t).take (far (a :: t)) :: chop (s.data.toList.drop np) := by rw [hdc, chop_cons _ (by simp), ← hdn]
      obtain ⟨c, hc⟩ : ∃ c, c = (a :: t).take (far (a :: t)) := ⟨_, rfl⟩
      rw [← hc] at hgood hch
      have hokc : okC c = true := by have := hS.ok; rw [hch, okAll_cons] at this; exact this.1
      obtain ⟨hrl, hrm, hrs, hrx⟩ := hgood hokc
      have hk := kinds c r hrx
      have HIT : Hid (wr.heap[w.heap.size]? = some (.stringIter s pos)) := hS.iter
      have HC : Hid (chop (s.data.toList.drop pos) = c :: chop (s.data.toList.drop np)) := hch
      have HX : Hid (r = 10 ↔ c = [10]) := hrx 10 (by decide)
      have hln := hS.line
      have hcl := hS.col
      have HNP : Hid (np = pos + rlen r ∧ c = (s.data.toList.drop pos).take (np - pos)) := ⟨by rw [hrl]; exact hnp, by rw [hc, hdc, hnp, Nat.add_sub_cancel_left]⟩
      clear hdec hgood hdn hch hrx hokc hnp hc hrl hfp hdc
      rcases hk with ⟨hcc, hr⟩ | ⟨hcc, hr⟩ | ⟨hcc, hr⟩ | ⟨hc1, hc2, hc3, hr1, hr2, hr3⟩
      · have e35 : ((r : Int) == 35) = true := by simp [hr]
        have hin : inN (remN st.rem c) c = false := by subst hcc; simp [inN, remN]
        have hrm : remN st.rem c = true := by subst hcc; simp [remN]
        have hS2 := hS.out HC.out hlt hin
        rw [hrm] at hS2
        clear hr hcc hin
        go_wp2_with fail
        refine (behind_any r st.line st.col c HX.out (by omega) (by omega) _).mono ?_
        rintro e w1 ⟨rfl, rfl⟩
        go_wp2_with fail
        go_roundw
        case rel => exact ⟨np, st0, ⟨st.all, none, nextL st.line c, nextC st.col c, true⟩, rfl, rfl, rfl, rfl, rfl, hS2⟩
        case measure =>
          simp only [World.iterPos, hS2.iter, HIT.out]
          omega
      · have e35 : ((r : Int) == 35) = false := by simp [hr]
        have e10 : ((r : Int) != 10) = false := by simp [hr]
        have e32 : ((r : Int) != 32) = true := by simp [hr]
        have hin : inN (remN st.rem c) c = false := by subst hcc; simp [inN]
        have hrm : remN st.rem c = false := by subst hcc; simp [remN]
        have hS2 := hS.out HC.out hlt hin
        rw [hrm] at hS2
        clear hr hcc hin
        generalize st.rem = sr at *
        cases sr
        all_goals
          go_wp2_with fail
          refine (behind_any r st.line st.col c HX.out (by omega) (by omega) _).mono ?_
          rintro e w1 ⟨rfl, rfl⟩
          go_wp2_with fail
          go_roundw
          case rel => exact ⟨np, st0, ⟨st.all, none, nextL st.line c, nextC st.col c, false⟩, rfl, rfl, rfl, rfl, rfl, hS2⟩
          case measure =>
            simp only [World.iterPos, hS2.iter, HIT.out]
            omega
      · have e35 : ((r : Int) == 35) = false := by simp [hr]
        have e10 : ((r : Int) != 10) = true := by simp [hr]
        have e32 : ((r : Int) != 32) = false := by simp [hr]
        have hin : inN (remN st.rem c) c = false := by subst hcc; simp [inN]
        have hrm : remN st.rem c = st.rem := by subst hcc; simp [remN]
        have hS2 := hS.out HC.out hlt hin
        rw [hrm] at hS2
        clear hr hcc hin
        generalize st.rem = sr at *
        cases sr
        all_goals
          go_wp2_with fail
          refine (behind_any r st.line st.col c HX.out (by omega) (by omega) _).mono ?_
          rintro e w1 ⟨rfl, rfl⟩
          go_wp2_with fail
          go_roundw
          case rel => exact ⟨np, st0, ⟨st.all, none, nextL st.line c, nextC st.col c, _⟩, rfl, rfl, rfl, rfl, rfl, hS2⟩
          case measure =>
            simp only [World.iterPos, hS2.iter, HIT.out]
            omega
      · have e35 : ((r : Int) == 35) = false := by simp; omega
        have e10 : ((r : Int) != 10) = true := by simp; omega
        have e32 : ((r : Int) != 32) = true := by simp; omega
        have hrN : remN st.rem c = st.rem := by simp [remN, hc1, hc2]
        have hiN : inN st.rem c = !st.rem := by simp [inN, hc2, hc3]
        clear hc1 hc2 hc3 hr1 hr2 hr3
        have HR : Hid (remN st.rem c = st.rem ∧ inN st.rem c = !st.rem) := ⟨hrN, hiN⟩
        clear hrN hiN
        cases hsr : st.rem
        · have hin : inN (remN st.rem c) c = true := by rw [HR.out.1, HR.out.2, hsr]; rfl
          have HIN : Hid (inN (remN st.rem c) c = true) := hin
          clear hin
          have hlen := hS.len
          cases hcu : st.cur with
          | none =>
            have hal : st.all = st.done := by simp [St.all, hcu]
            have hO := hS.own.iterAt (s := s) (k := w.heap.size) (by omega) np
            have hI := Lib.iterAt_heap wr w.heap.size s pos np hS.iter
            have hB := Lib.below_iterAt (s := s) (pos := np) hS.below (k := w.heap.size) (Nat.le_refl _)
            rw [hal] at hO hlen
            have hsz2 : (wr.iterAt w.heap.size s np).heap.size = wr.heap.size := Lib.iterAt_size _ _ _ _
            have HS : Hid (SplitAt s F w pos st0 st u3 wr) := hS
            clear hS
            go_wp2_with (at_builtin; refine wpList_append_lies _ rfl _ _ 61 rfl (w.heap.size + 1) 70 i0 _ 3 32 Tryd.underlying61 hi hz0 hz1 hz2 rfl (by decide) _ _ _ rfl (hO.alloc _) ⟨wr.heap.size, 0, none⟩ 1 1 [.string ⟨#[]⟩, .int .i64 st.line, .int .i64 st.col] rfl rfl ?c1 ?c2 (by decide) ?c3 ?c4 ?c5 _ rfl ?_)
            case c1 => exact news3 _ _ hsz2 _ _ _
            case c2 => exact ones3 _ _ _
            case c3 => unfold maxLen; omega
            case c4 => omega
            case c5 => simp; omega
            intro g cap w3 hown' hgrow hwhere hglt
            have hown3 : w3.ownsRow (w.heap.size + 1) 70 3 (.slice (some ⟨g, 0, none⟩) (st.done.length + 1) cap) (st.done.length + 1) (cellsW (st.done ++ [⟨[], st.line, st.col⟩])) := by rw [cellsW_append]; exact hown'
            obtain ⟨hcell, hfroz, _, hgb⟩ := owns_cell hown3
            have q0 : w3.cell? ⟨g, st.done.length * 3, none⟩ = some (.string ⟨#[]⟩) := hcell _ _ (cellsW_at _ st.done.length ⟨[], st.line, st.col⟩ (by simp)).1
            have q1 : w3.frozen? ⟨g, st.done.length * 3, none⟩ = false := hfroz _
            have hB3 : Below w.heap.size w w3 := (hB.alloc (by omega) _).grown hgrow (by simp; omega) (fun j hj => by have := (hO.lt j hj).1; omega)
            have hI3 : w3.heap[w.heap.size]? = some (.stringIter s np) := by
              rw [hgrow.block w.heap.size (by simp; omega) (fun e => by have := (hO.lt _ e.symm).1; omega)]
              exact (Lib.alloc_old _ _ _ (by omega)).trans hI
            have HO3 : Hid (w3.ownsRow (w.heap.size + 1) 70 3 (.slice (some ⟨g, 0, none⟩) (st.done.length + 1) cap) (st.done.length + 1) (cellsW (st.done ++ [⟨[], st.line, st.col⟩]))) := hown3
            have HI3 : Hid (w3.heap[w.heap.size]? = some (.stringIter s np)) := hI3
            have hadd : (pos : Int) + (rlen r : Int) = np := by have := HNP.out.1; omega
            clear hown' hown3 hgrow hwhere hcell hfroz hI hI3 hO
            go_wp2_with fail
            refine (runeLen_any r hrm hrs _).mono ?_
            rintro e w1 ⟨rfl, rfl⟩
            go_wp2_with fail
            refine (behind_any r st.line st.col c HX.out (by omega) (by omega) _).mono ?_
            rintro e w2 ⟨rfl, rfl⟩
            have hS3 : SplitAt s F w np pos ⟨st.done, some (more st.cur c st.line st.col), nextL st.line c, nextC st.col c, remN st.rem c⟩ (.slice (some ⟨g, 0, none⟩) (st.done.length + 1) cap) (w1.setCell ⟨g, st.done.length * 3, none⟩ (.string (s.extract pos np))) := by
              refine HS.out.into HC.out hlt HIN.out (w3 := w1.setCell ⟨g, st.done.length * 3, none⟩ (.string (s.extract pos np))) (v' := .slice (some ⟨g, 0, none⟩) (st.done.length + 1) cap) ?_ ((Below.heap_setCell _ _ _ _ (by simp only; omega)).trans HI3.out) (hB3.setCell (by simp only; omega) _) ?_ (by omega)
              · have h1 := owns_set HO3.out (g := g) rfl (st.done.length * 3) (.string (s.extract pos np))
                rw [extract_eq, ← HNP.out.2, cellsW_last] at h1
                rw [hcu]
                unfold Own
                rw [List.length_append]
                rw [extract_eq, ← HNP.out.2]
                exact h1
              · rw [hcu]; exact ⟨HNP.out.2, by omega⟩
            rw [HR.out.1, hsr] at hS3
            have hI4 := hS3.iter
            go_wp2_with fail
            go_roundw
            case rel => exact ⟨np, pos, ⟨st.done, some (more st.cur c st.line st.col), nextL st.line c, nextC st.col c, false⟩, rfl, rfl, rfl, rfl, rfl, hS3⟩
            case measure =>
              simp only [World.iterPos, hI4, HIT.out]
              omega
          | some x =>
            have hal : st.all = st.done ++ [x] := by simp [St.all, hcu]
            have hxt := hS.text x hcu
            have hO := hS.own.iterAt (s := s) (k := w.heap.size) (by omega) np
            have hI := Lib.iterAt_heap wr w.heap.size s pos np hS.iter
            have hB := Lib.below_iterAt (s := s) (pos := np) hS.below (k := w.heap.size) (Nat.le_refl _)
            rw [hal] at hO hlen
            have hO2 : (wr.iterAt w.heap.size s np).ownsRow (w.heap.size + 1) 70 3 u3 (st.done.length + 1) (cellsW (st.done ++ [x])) := by
              have := hO
              unfold Own at this
              rw [List.length_append] at this
              exact this
            rw [List.length_append] at hlen
            simp only [List.length_cons, List.length_nil] at hlen
            obtain ⟨g, cap, rfl, hgb, hglt⟩ := hO2.form (by omega)
            obtain ⟨hcell, hfroz, _, _⟩ := owns_cell hO2
            have q0 : (wr.iterAt w.heap.size s np).cell? ⟨g, st.done.length * 3, none⟩ = some (.string ⟨x.text.toArray⟩) := hcell _ _ (cellsW_at _ st.done.length x (by simp)).1
            have q1 : (wr.iterAt w.heap.size s np).frozen? ⟨g, st.done.length * 3, none⟩ = false := hfroz _
            have HS : Hid (SplitAt s F w pos st0 st (.slice (some ⟨g, 0, none⟩) (st.done.length + 1) cap) wr) := hS
            have HO2 : Hid ((wr.iterAt w.heap.size s np).ownsRow (w.heap.size + 1) 70 3 (.slice (some ⟨g, 0, none⟩) (st.done.length + 1) cap) (st.done.length + 1) (cellsW (st.done ++ [x]))) := hO2
            have HI : Hid ((wr.iterAt w.heap.size s np).heap[w.heap.size]? = some (.stringIter s np)) := hI
            have HXT : Hid (x.text = (s.data.toList.drop st0).take (pos - st0)) := hxt.1
            have hst := hxt.2
            have hadd : (pos : Int) + (rlen r : Int) = np := by have := HNP.out.1; omega
            clear hS hO hO2 hcell hfroz hI hxt
            go_wp2_with fail
            refine (runeLen_any r hrm hrs _).mono ?_
            rintro e w1 ⟨rfl, rfl⟩
            go_wp2_with fail
            refine (behind_any r st.line st.col c HX.out (by omega) (by omega) _).mono ?_
            rintro e w2 ⟨rfl, rfl⟩
            have htx : x.text ++ c = (s.data.toList.drop st0).take (np - st0) := by
              rw [HXT.out, show np - st0 = (pos - st0) + (np - pos) by omega, List.take_add, List.drop_drop, show st0 + (pos - st0) = pos by omega, ← HNP.out.2]
            have hS3 : SplitAt s F w np st0 ⟨st.done, some (more st.cur c st.line st.col), nextL st.line c, nextC st.col c, remN st.rem c⟩ (.slice (some ⟨g, 0, none⟩) (st.done.length + 1) cap) ((wr.iterAt w.heap.size s np).setCell ⟨g, st.done.length * 3, none⟩ (.string (s.extract st0 np))) := by
              refine HS.out.into HC.out hlt HIN.out (w3 := (wr.iterAt w.heap.size s np).setCell ⟨g, st.done.length * 3, none⟩ (.string (s.extract st0 np))) (v' := .slice (some ⟨g, 0, none⟩) (st.done.length + 1) cap) ?_ ((Below.heap_setCell _ _ _ _ (by simp only; omega)).trans HI.out) (hB.setCell (by simp only; omega) _) ?_ (by omega)
              · have h1 := owns_set HO2.out (g := g) rfl (st.done.length * 3) (.string (s.extract st0 np))
                rw [extract_eq, ← htx, cellsW_last] at h1
                rw [hcu]
                unfold Own
                rw [List.length_append]
                rw [extract_eq, ← htx]
                exact h1
              · rw [hcu]; exact ⟨htx, by omega⟩
            rw [HR.out.1, hsr] at hS3
            have hI4 := hS3.iter
            go_wp2_with fail
            go_roundw
            case rel => exact ⟨np, st0, ⟨st.done, some (more st.cur c st.line st.col), nextL st.line c, nextC st.col c, false⟩, rfl, rfl, rfl, rfl, rfl, hS3⟩
            case measure =>
              simp only [World.iterPos, hI4, HIT.out]
              omega
        · have hin : inN (remN st.rem c) c = false := by rw [HR.out.1, HR.out.2, hsr]; rfl
          have hS2 := hS.out HC.out hlt hin
          rw [HR.out.1, hsr] at hS2
          clear hin
          go_wp2_with fail
          refine (behind_any r st.line st.col c HX.out (by omega) (by omega) _).mono ?_
          rintro e w1 ⟨rfl, rfl⟩
          go_wp2_with fail
          go_roundw
          case rel => exact ⟨np, st0, ⟨st.all, none, nextL st.line c, nextC st.col c, true⟩, rfl, rfl, rfl, rfl, rfl, hS2⟩
          case measure =>
            simp only [World.iterPos, hS2.iter, HIT.out]
            omega
    · have hnx : ∀ ty, (Instr.next (.pointer (some ⟨w.heap.size, 0, none⟩)) true ty).run Tryd.prog wr = _ := fun ty => Lib.run_next_end_at wr w.heap.size s pos ty hS.iter hp
      have hF2 : st = F := by
        have := hS.goes
        rw [List.drop_of_length_le (by rw [size_list]; omega), chop_nil] at this
        exact this
      subst hF2
      have hO := hS.own.mono (base' := w.heap.size) (by omega)
      have hB := hS.below
      clear hS
      go_wp2
      go_ret
      exact ⟨_, rfl, hO, hB⟩

end Go.Proofs.YtmhjoomkeidcaaaDoor.L3
