/-
  Called with any text, the law PolicyParses returns true and leaves its argument as it was; the library's listed tables hold what the program's text lays when the call begins.
-/
import Derived.Test.YtmhjoomkeidcaaaDoorOLowAll
import Derived.Test.YtmhjoomkeidcaaaDoorRefCheck
import Derived.Deep.DeepCutAuto
import Derived.Test.YtmhjoomkeidcaaaDoorODomAll
import Derived.Test.YtmhjoomkeidcaaaDoorOSlotAll
import Derived.Test.YtmhjoomkeidcaaaDoorOLinksAll
import Derived.Test.YtmhjoomkeidcaaaDoorPLawAll
import Derived.Test.YtmhjoomkeidcaaaDoorCards
import Derived.Test.YtmhjoomkeidcaaaDoorTie
import Derived.ProofKit
import Derived.OpenShut
import Derived.LaidMore
import Derived.Lib.SmallJoins
import Derived.Stop.Joined
import Derived.Deep.SlicePairs
/-
  What the document's Parse comes to, of what its 'one' does.
-/
namespace Go.Proofs.YtmhjoomkeidcaaaDoor
open Go.RowKit L2
open L3 (Wd cellsW ansOf)

theorem rinfo9 : (Tryd.prog.info? 9).map (fun i => (i.zero, i.size, i.bytes)) = some (some (.string ⟨#[]⟩), 1, 16) := by kernel_rfl

/-- How long all words are together. -/
def tot (ws : List Wd) : Nat := (ws.map fun x => x.text.length).sum
theorem tot_app (a b : List Wd) : tot (a ++ b) = tot a + tot b := by simp [tot]
theorem tot_mem {ws : List Wd} {x : Wd} (h : x ∈ ws) : x.text.length ≤ tot ws := by
  induction ws with
  | nil => cases h
  | cons y ws ih =>
    rcases List.mem_cons.1 h with rfl | h
    · simp [tot]
    · have := ih h
      simp [tot] at this ⊢
      omega
theorem step_tot (st : L3.St) (c : List UInt8) : tot (L3.step st c).all ≤ tot st.all + c.length := by
  unfold L3.step
  split
  · cases h : st.cur with
    | none => simp [L3.St.all, L3.more, h, tot_app]; simp [tot]
    | some x => simp [L3.St.all, L3.more, h, tot_app]; simp [tot]; omega
  · simp [L3.St.all, tot_app]
theorem run_tot : ∀ (cs : List (List UInt8)) (st : L3.St), tot (L3.run st cs).all ≤ tot st.all + cs.flatten.length
  | [], _ => by simp [L3.run_nil]
  | c :: cs, st => by
    rw [L3.run_cons]
    have h1 := run_tot cs (L3.step st c)
    have h2 := step_tot st c
    rw [List.flatten_cons, List.length_append]
    omega
theorem chop_flat : ∀ (n : Nat) (l : List UInt8), l.length ≤ n → (L3.chop l).flatten.length ≤ l.length := by
  intro n
  induction n with
  | zero =>
    intro l hl
    have : l = [] := List.length_eq_zero_iff.1 (by omega)
    subst this; rw [L3.chop_nil]; simp
  | succ n ih =>
    intro l hl
    cases l with
    | nil => rw [L3.chop_nil]; simp
    | cons a t =>
      have hf1 := L3.far_pos (a :: t)
      rw [L3.chop_cons _ (by simp), List.flatten_cons, List.length_append]
      have := ih ((a :: t).drop (L3.far (a :: t))) (by simp at hl ⊢; omega)
      simp only [List.length_drop, List.length_take, List.length_cons] at this ⊢
      omega
theorem words_small (l : List UInt8) : ∀ x ∈ (ansOf l).list, x.text.length ≤ 4096 := by
  by_cases h : 4096 < l.length
  · rw [L3.ans_over h]; intro x hx; cases hx
  · by_cases hk : L3.okAll (L3.chop l)
    · rw [L3.ans_ok (by omega) hk]
      intro x hx
      have h1 := tot_mem (ws := L3.wordsOf l) hx
      have h2 := run_tot (L3.chop l) L3.start
      have h3 := chop_flat _ l (Nat.le_refl _)
      have h4 : tot (L3.St.all L3.start) = 0 := rfl
      unfold L3.wordsOf at h1
      omega
    · rw [L3.ans_bad (by omega) hk]; intro x hx; cases hx

theorem row_small {ws : List Wd} {st i : Nat} (h : ∀ x ∈ ws, x.text.length ≤ 4096) : ∀ b ∈ rowAt ws st i, b.size ≤ 4096 := by
  intro b hb
  unfold rowAt txt at hb
  obtain ⟨x, hx, rfl⟩ := List.mem_map.1 hb
  have := h x (List.mem_of_mem_drop (List.mem_of_mem_take hx))
  show x.text.toArray.size ≤ 4096
  simpa using this
/-- What 'one' comes to, of any line whose words are no longer than a text may be. -/
def OneSays2 : Prop := ∀ (a1 a2 a3 : Option Addr) (c1 c2 c3 g n cap : Nat) (p : Pol) (row : List ByteArray) (W : World), Held W a1 a2 a3 c1 c2 c3 p → p.size ≤ 5000 → row.length = n → 1 ≤ n → n ≤ 5000 → n ≤ cap → g < W.heap.size →
  (∀ i, i < n → W.cell? ⟨g, i, none⟩ = some (.string (row.getD i ⟨#[]⟩))) → (∀ b ∈ row, b.size ≤ 4096) →
  Calls Tryd.prog 36 #[.agg #[.slice a1 p.ds.length c1, .slice a2 p.ss.length c2, .slice a3 p.ls.length c3], .slice (some ⟨g, 0, none⟩) n cap] W (OSaid W (lineOf p row))

/-- What holds at each round's head: W is the world in which the line began. -/
structure RAt (w1 : World) (R : Nat × Nat × Pol) (pb : Nat) (ws : List Wd) (wr W : World) (v : Value) (i st m : Nat) (p : Pol) (a1 a2 a3 : Option Addr) (c1 c2 c3 : Nat) : Prop where
  h : Held W a1 a2 a3 c1 c2 c3 p
  box : W.heap[pb]? = some (.cells #[.slice a1 p.ds.length c1, .slice a2 p.ss.length c2, .slice a3 p.ls.length c3] 26 (0, 0))
  row : wr.ownsRow W.heap.size 9 1 v (i - st) (cellsT (rowAt ws st i))
  goes : rowsN m p (ws.drop st) = R
  fuel : (ws.drop st).length ≤ m
  le : st ≤ i
  len : i ≤ ws.length
  lines : ∀ j, st ≤ j → j ≤ i → j < ws.length → (wd ws j).line = (wd ws st).line
  fin : i = ws.length → st = ws.length
  fine : Fine p
  small : p.size ≤ st
  b0 : Below W.heap.size W wr
  b : Below w1.heap.size w1 W
theorem row_cells {W : World} {base g n cap : Nat} {row : List ByteArray} (h : W.ownsRow base 9 1 (.slice (some ⟨g, 0, none⟩) n cap) n (cellsT row)) (hn : row.length = n) (h0 : 1 ≤ n) : n ≤ cap ∧ g < W.heap.size ∧ ∀ i, i < n → W.cell? ⟨g, i, none⟩ = some (.string (row.getD i ⟨#[]⟩)) := by
  have h' := h
  rcases h.2 with ⟨_, h1⟩ | ⟨g', c', cur, e, hb, hh, hc, _⟩
  · omega
  · injection e with e1 e2 e3
    injection e1 with e1
    injection e1 with e1
    subst e1 e3
    refine ⟨hc, (Array.getElem?_eq_some_iff.1 hh).1, fun i hi => ?_⟩
    rw [h'.cellAt i (by omega)]
    have : i < row.length := by omega
    simp [cellsT, this]

/-- What the document's Parse hands back out of its box. -/
theorem rparse_ret {w W : World} {B : Nat} {t : Array Value} {a1 a2 a3 : Option Addr} {n1 n2 n3 c1 c2 c3 line e : Nat} {R : Nat × Nat × Pol} {p : Pol} (h : W.heap[B]? = some (.cells #[.slice a1 n1 c1, .slice a2 n2 c2, .slice a3 n3 c3] 26 (0, 0))) (hb : Below w.heap.size w W) (hh : Held W a1 a2 a3 c1 c2 c3 p)
    (hR : R = (e, line, p)) (h1 : n1 = p.ds.length) (h2 : n2 = p.ss.length) (h3 : n3 = p.ls.length)
    (e2 : t[2]? = some (.pointer (some ⟨B, 0, none⟩)) := by rfl) (e3 : t[3]? = some (.int .i64 line) := by rfl) (e4 : t[4]? = some (.int .i64 e) := by rfl) :
    bodyPost Tryd.prog Tryd.f16 (PSaid w R) Exit.ret { tmps := t, defers := [] } W := by
  subst hR h1 h2 h3
  obtain ⟨q0, q1, q2, _⟩ := blk_cells h
  exact bodyPost_ret (v := .tuple #[.agg #[.slice a1 p.ds.length c1, .slice a2 p.ss.length c2, .slice a3 p.ls.length c3], .int .i64 line, .int .i64 e]) (by simp [results, Tryd.f16, go_sem, e2, e3, e4, q0, q1, q2]) rfl ⟨a1, a2, a3, c1, c2, c3, rfl, hh, hb⟩

theorem rparse_none {w W : World} {B : Nat} {t : Array Value} {line e : Nat} {R : Nat × Nat × Pol} (h : W.heap[B]? = some (.cells #[.slice none 0 0, .slice none 0 0, .slice none 0 0] 26 (0, 0))) (hb : Below w.heap.size w W) (hR : R = (e, line, pol0))
    (e2 : t[2]? = some (.pointer (some ⟨B, 0, none⟩)) := by rfl) (e3 : t[3]? = some (.int .i64 line) := by rfl) (e4 : t[4]? = some (.int .i64 e) := by rfl) :
    bodyPost Tryd.prog Tryd.f16 (PSaid w R) Exit.ret { tmps := t, defers := [] } W.drew :=
  rparse_ret (W := W.drew) (p := pol0) h hb.drew (held_none _) hR rfl rfl rfl e2 e3 e4

set_option maxHeartbeats 4000000 in
set_option maxRecDepth 100000 in
theorem refParse_ok (hone : OneSays2) (s : ByteArray) (h : (ansOf s.data.toList).e = 0) (w : World) : Calls Tryd.prog 16 #[.string s] w (PSaid w (parseOf s.data.toList)) := by
  rw [parse_rows h]
  have H := fun w => L3.ref_any s w
  have hfew := words_few s.data.toList
  have hsml := words_small s.data.toList
  generalize ansOf s.data.toList = A at *
  obtain ⟨WS, E, P, Q⟩ := A
  dsimp only at h hfew hsml ⊢
  subst h
  have HSML : Hid (∀ x ∈ WS, x.text.length ≤ 4096) := hsml
  clear hsml
  obtain ⟨R, hR⟩ : ∃ R, rowsN WS.length pol0 WS = R := ⟨_, rfl⟩
  rw [hR]
  have HR : Hid (rowsN WS.length pol0 WS = R) := hR
  have HONE : Hid OneSays2 := hone
  clear hR hone
  obtain ⟨i0, hi, hz0, hz1, hz2⟩ := info_parts rinfo9
  go_enter Tryd.func16, Tryd.ntmps16
  go_wp2_with fail
  refine (H _).mono ?_
  rintro e w1 ⟨v, rfl, hO, hB⟩
  have hb : w1.heap[w.heap.size]? = some (.cells #[.slice none 0 0, .slice none 0 0, .slice none 0 0] 26 (0, 0)) := (hB.block _ (by simp)).trans (alloc_at _ _)
  have hB1 : Below w.heap.size w w1 := (below1 _ _).trans (hB.mono (by simp))
  obtain ⟨ad, cap, hv, hcap, hL⟩ := owns_lies hO (fun e => by rw [List.length_eq_zero_iff.1 e]; rfl)
  subst hv
  have HAD : Hid (∀ q, ad = some q → w.heap.size < q.block) := fun q hq => by
    subst hq
    rcases hO.2 with ⟨e1, _⟩ | ⟨g, cp, cur, e1, hg, hh, _⟩
    · cases e1
    · injection e1 with e1
      injection e1 with e1
      subst e1
      simp at hg
      show w.heap.size < g
      omega
  have hz : w.heap.size < w1.heap.size := (Array.getElem?_eq_some_iff.1 hb).1
  have HLW := (show Hid (Lies w1 ad (cellsW WS)) from hL)
  clear hO hB hL
  go_wp2
  go_loopw [6, 10, 11] (fun ev v i wr => ev = .int .i64 0 ∧ ∃ (k st m : Nat) (p : Pol) (W : World) (a1 a2 a3 : Option Addr) (c1 c2 c3 : Nat), i = .int .i64 k ∧ RAt w1 R w1.heap.size WS wr W v k st m p a1 a2 a3 c1 c2 c3) (fun _ _ i _ => WS.length - (intOf i).toNat)
  case atStart =>
    refine ⟨rfl, 0, 0, WS.length, pol0, w1.alloc (.cells #[.slice none 0 0, .slice none 0 0, .slice none 0 0] 26), none, none, none, 0, 0, 0, rfl, ⟨held_none _, alloc_at _ _, ?_, HR.out, Nat.le_refl _, Nat.le_refl _, Nat.zero_le _, fun j h1 h2 h3 => ?_, fun h => h, fine0, Nat.le_refl _, below1 _ _, below1 _ _⟩⟩
    · have h := World.ownsRow_lit (base := (w1.alloc (.cells #[.slice none 0 0, .slice none 0 0, .slice none 0 0] 26)).heap.size) (e := 9) (size := 1) (w1.alloc (.cells #[.slice none 0 0, .slice none 0 0, .slice none 0 0] 26)) #[] 0 (Nat.le_refl _) (by unfold maxLen; omega) rfl
      simp only [World.size_alloc] at h ⊢
      exact h
    · obtain rfl : j = 0 := by omega
      rfl
  case round =>
    clear H HR
    obtain ⟨rfl, k, st, m, p, W, a1, a2, a3, c1, c2, c3, rfl, hS⟩ := hrel
    have hkl := hS.len
    have hst := hS.le
    have hsz := hS.b0.size
    have HB := (show Hid (Below w1.heap.size w1 wr) from hS.b.trans (hS.b0.mono hS.b.size))
    by_cases hlt : k < WS.length
    · have hlt' : (k : Int) < (WS.length : Int) := by omega
      obtain ⟨b, off, rfl, hbw, q0, q1, _⟩ := HLW.out.word (wd_at hlt)
      have z0 : wr.cell? ⟨b, off + k * 3, none⟩ = some (.string ⟨(wd WS k).text.toArray⟩) := (HB.out.cell (p := ⟨b, _, none⟩) hbw).trans q0
      have z1 : wr.cell? ⟨b, off + k * 3 + 1, none⟩ = some (.int .i64 ((wd WS k).line : Nat)) := (HB.out.cell (p := ⟨b, _, none⟩) hbw).trans q1
      have hw := hS.row
      have HNX := (show Hid (rowAt WS st (k + 1) = rowAt WS st k ++ [⟨(wd WS k).text.toArray⟩]) from rowAt_next hst hlt)
      have HS : Hid (RAt w1 R w1.heap.size WS wr W u10 k st m p a1 a2 a3 c1 c2 c3) := hS
      clear hS q0 q1
      generalize hx : (⟨(wd WS k).text.toArray⟩ : ByteArray) = x at *
      clear hx
      go_wp2_with (at_builtin; refine wpList_append_own _ rfl _ _ 67 rfl W.heap.size 9 i0 (.string ⟨#[]⟩) 1 16 Tryd.underlying67 hi hz0 hz1 hz2 rfl (by decide) _ _ _ rfl (hw.alloc _) ⟨wr.heap.size, 0, none⟩ 1 1 [.string x] rfl rfl ?c1 ?c2 ?c3 ?c4 ?c5 ?_)
      case c1 =>
        intro j u hj
        match j, hj with
        | 0, hj => simp at hj; subst hj; simp [Addr.add, go_sem]
      case c2 => intro u hu; simp at hu; subst hu; rfl
      case c3 => unfold maxLen; omega
      case c4 => omega
      case c5 => simp; omega
      intro v' w4 hown' hgrow _
      have hb4 : Below W.heap.size W w4 := (HS.out.b0.alloc hsz (.cells #[.string x] 9)).grown hgrow (by simp; omega) (fun j hj => (hw.lt j hj).1)
      have HO4 : Hid (w4.ownsRow W.heap.size 9 1 v' (k + 1 - st) (cellsT (rowAt WS st (k + 1)))) := by
        show w4.ownsRow _ _ _ _ _ _
        rw [HNX.out, cellsT_snoc, show k + 1 - st = k - st + 1 by omega]; exact hown'
      have HB4 : Hid (Below w1.heap.size w1 w4) := HS.out.b.trans (hb4.mono HS.out.b.size)
      have y1 : w4.cell? ⟨b, off + k * 3 + 1, none⟩ = some (.int .i64 ((wd WS k).line : Nat)) := by
        obtain ⟨b', off', e1, hbw', _, q1', _⟩ := HLW.out.word (wd_at hlt)
        injection e1 with e1
        injection e1 with e1 e2
        subst e1 e2
        exact (HB4.out.cell (p := ⟨b, _, none⟩) hbw').trans q1'
      have HH4 : Hid (Below W.heap.size W w4) := hb4
      clear hown' hgrow hw z0 z1 HB hb4
      go_upto_region 10 with fail
      go_cut [59] (fun c wx => ∃ bb : Bool, c = .bool bb ∧ (bb = true → k + 1 = WS.length ∨ (wd WS (k + 1)).line ≠ (wd WS k).line) ∧ (bb = false → k + 1 < WS.length ∧ (wd WS (k + 1)).line = (wd WS k).line) ∧ Below w4.heap.size w4 wx)
      case first =>
        by_cases e : k + 1 = WS.length
        · have e' : ((k : Int) + 1 == (WS.length : Int)) = true := by simp; omega
          have HE := (show Hid (k + 1 = WS.length) from e)
          clear e
          go_wp2_with fail
          go_quiet (fail)
          go_wp2_with fail
          go_meet
          exact ⟨true, rfl, fun _ => .inl HE.out, fun h => (by cases h), ⟨rfl, rfl, rfl, Nat.le_refl _, fun _ _ => rfl⟩⟩
        · have e' : ((k : Int) + 1 == (WS.length : Int)) = false := by simp; omega
          have hk2 : k + 1 < WS.length := by omega
          have y2 : w4.cell? ⟨b, off + (k + 1) * 3 + 1, none⟩ = some (.int .i64 ((wd WS (k + 1)).line : Nat)) := by
            obtain ⟨b', off', e1, hbw', _, q1', _⟩ := HLW.out.word (wd_at hk2)
            injection e1 with e1
            injection e1 with e1 e2
            subst e1 e2
            exact (HB4.out.cell (p := ⟨b, _, none⟩) hbw').trans q1'
          have hk2' : (k : Int) + 1 < (WS.length : Int) := by omega
          have hk0 : (0 : Int) ≤ (k : Int) + 1 := by omega
          have hk3 : IntKind.i64.wrap ((k : Int) + 1) = ((k + 1 : Nat) : Int) := by rw [IntKind.wrap_i64]; omega
          by_cases el : (wd WS (k + 1)).line = (wd WS k).line
          · have el' : ((((wd WS (k + 1)).line : Nat) : Int) != (((wd WS k).line : Nat) : Int)) = false := by simp [el]
            have HE := (show Hid ((wd WS (k + 1)).line = (wd WS k).line) from el)
            clear e el
            generalize (wd WS (k + 1)).line = L2 at *
            generalize (wd WS k).line = L1 at *
            go_wp2_with fail
            go_quiet (fail)
            go_wp2_with fail
            go_meet
            exact ⟨false, rfl, fun h => (by cases h), fun _ => ⟨hk2, HE.out⟩, ⟨rfl, rfl, rfl, Nat.le_refl _, fun _ _ => rfl⟩⟩
          · have el' : ((((wd WS (k + 1)).line : Nat) : Int) != (((wd WS k).line : Nat) : Int)) = true := by simp; omega
            have HE := (show Hid ((wd WS (k + 1)).line ≠ (wd WS k).line) from el)
            clear e el
            generalize (wd WS (k + 1)).line = L2 at *
            generalize (wd WS k).line = L1 at *
            go_wp2_with fail
            go_quiet (fail)
            go_wp2_with fail
            go_meet
            exact ⟨true, rfl, fun _ => .inr HE.out, fun h => (by cases h), ⟨rfl, rfl, rfl, Nat.le_refl _, fun _ _ => rfl⟩⟩
      case rest =>
        obtain ⟨bb, rfl, htt, hff, hB5⟩ := hcut
        have HT := (show Hid (bb = true → k + 1 = WS.length ∨ (wd WS (k + 1)).line ≠ (wd WS k).line) from htt)
        have HF := (show Hid (bb = false → k + 1 < WS.length ∧ (wd WS (k + 1)).line = (wd WS k).line) from hff)
        have HHc : Hid (Below W.heap.size W wc) := HH4.out.trans (hB5.mono HH4.out.size)
        have HOc : Hid (wc.ownsRow W.heap.size 9 1 v' (k + 1 - st) (cellsT (rowAt WS st (k + 1)))) := L3.owns_below HO4.out hB5
        clear htt hff y1 HO4 HH4 hB5 HB4 HNX
        cases bb
        · obtain ⟨f1, f2⟩ := HF.out rfl
          have HN : Hid (RAt w1 R w1.heap.size WS wc W v' (k + 1) st m p a1 a2 a3 c1 c2 c3) :=
            ⟨HS.out.h, HS.out.box, HOc.out, HS.out.goes, HS.out.fuel, by omega, by omega, fun j j1 j2 j3 => by
              by_cases e : j = k + 1
              · subst e; rw [f2]; exact HS.out.lines k hst (Nat.le_refl _) hlt
              · exact HS.out.lines j j1 (by omega) j3, fun h => by omega, HS.out.fine, HS.out.small, HHc.out, HS.out.b⟩
          clear HS HT HF f2
          go_wp2
          go_roundw
          case rel => exact ⟨rfl, k + 1, st, m, p, W, a1, a2, a3, c1, c2, c3, by go_num, HN.out⟩
          case measure => simp [intOf]; omega
        · obtain ⟨g, cp, hv'⟩ : ∃ g cp, v' = .slice (some ⟨g, 0, none⟩) (k + 1 - st) cp := by
            rcases HOc.out.2 with ⟨_, h1⟩ | ⟨g, cp, cur, e, _⟩
            · omega
            · exact ⟨g, cp, e⟩
          subst hv'
          have hrl : rowLen (WS.drop st) = k + 1 - st := rowLen_is hst hlt (fun j j1 j2 => HS.out.lines j j1 j2 (by omega)) (HT.out rfl)
          have hrow : txt ((WS.drop st).take (rowLen (WS.drop st))) = rowAt WS st (k + 1) := by rw [hrl]; rfl
          have hdl : 0 < (WS.drop st).length := by rw [List.length_drop]; omega
          have hln : (wd (WS.drop st) 0).line = (wd WS k).line := by rw [wd_drop]; exact (HS.out.lines k hst (Nat.le_refl _) hlt).symm
          obtain ⟨o1, o2, o3⟩ := row_cells HOc.out (rowAt_len (by omega)) (by omega)
          have hsm := HS.out.small
          have hO := HONE.out a1 a2 a3 c1 c2 c3 g (k + 1 - st) cp p (rowAt WS st (k + 1)) wc (HS.out.h.below HHc.out) (by omega) (rowAt_len (by omega)) (by omega) (by omega) o1 o2 o3 (row_small HSML.out)
          have hbad := @rowsN_bad m p (WS.drop st) hdl HS.out.fuel
          have hnxt := @rowsN_next m p (WS.drop st) hdl HS.out.fuel
          have hfn := fine_line HS.out.fine (rowAt WS st (k + 1))
          have hszl := lineOf_size p (rowAt WS st (k + 1))
          rw [hrow, HS.out.goes] at hbad hnxt
          rw [hrl, List.drop_drop] at hnxt
          rw [hln] at hbad
          generalize lineOf p (rowAt WS st (k + 1)) = LO at *
          obtain ⟨E, p'⟩ := LO
          dsimp only at hbad hnxt hfn hszl
          have HO := (show Hid (Calls Tryd.prog 36 #[.agg #[.slice a1 p.ds.length c1, .slice a2 p.ss.length c2, .slice a3 p.ls.length c3], .slice (some ⟨g, 0, none⟩) (k + 1 - st) cp] wc (OSaid wc (E, p'))) from hO)
          have HX := (show Hid ((E ≠ 0 → R = (E, (wd WS k).line, pol0)) ∧ (E = 0 → R = rowsN (m - 1) p' (WS.drop (k + 1))) ∧ Fine p' ∧ p'.size ≤ st + 1) from ⟨hbad, fun h => by rw [hnxt h, show st + (k + 1 - st) = k + 1 by omega], hfn, by omega⟩)
          have hbx : wc.heap[w1.heap.size]? = some (.cells #[.slice a1 p.ds.length c1, .slice a2 p.ss.length c2, .slice a3 p.ls.length c3] 26 (0, 0)) := (HHc.out.block _ (Array.getElem?_eq_some_iff.1 HS.out.box).1).trans HS.out.box
          obtain ⟨k0, k1, k2, _, _, _⟩ := blk_cells hbx
          have HBX := (show Hid (wc.heap[w1.heap.size]? = _) from hbx)
          clear hO hbad hnxt hfn hszl hrl hrow hdl hln o1 o2 o3 hbx HT HF
          go_wp2_with fail
          refine HO.out.mono ?_
          rintro e w5 ⟨b1, b2, b3, d1, d2, d3, rfl, hH5, hB6⟩
          have hbx5 : w5.heap[w1.heap.size]? = some (.cells #[.slice a1 p.ds.length c1, .slice a2 p.ss.length c2, .slice a3 p.ls.length c3] 26 (0, 0)) := (hB6.block _ (Array.getElem?_eq_some_iff.1 HBX.out).1).trans HBX.out
          obtain ⟨_, _, _, f0, f1, f2⟩ := blk_cells hbx5
          obtain ⟨m0, m1, m2, _, _, _⟩ := blk_cells hbx5
          have hBc : Below w1.heap.size w1 wc := HS.out.b.trans (HHc.out.mono HS.out.b.size)
          have hB5 : Below w1.heap.size w1 w5 := hBc.trans (hB6.mono hBc.size)
          obtain ⟨hbx6, hb6⟩ := three_set hbx5 hB5 (Nat.le_refl _) (.slice b1 p'.ds.length d1) (.slice b2 p'.ss.length d2) (.slice b3 p'.ls.length d3)
          have HH6 := (show Hid (Held (((w5.setCell ⟨w1.heap.size, 0, none⟩ (.slice b1 p'.ds.length d1)).setCell ⟨w1.heap.size, 1, none⟩ (.slice b2 p'.ss.length d2)).setCell ⟨w1.heap.size, 2, none⟩ (.slice b3 p'.ls.length d3)) b1 b2 b3 d1 d2 d3 p') from held_box hH5 ⟨_, _, _, hbx5, rfl, rfl, rfl⟩)
          have HX6 := (show Hid _ from And.intro hbx6 hb6)
          have hrb5 : w5.heap[w.heap.size]? = some (.cells #[.slice none 0 0, .slice none 0 0, .slice none 0 0] 26 (0, 0)) := (hB5.block _ hz).trans hb
          obtain ⟨r0, r1, r2, rf0, rf1, rf2⟩ := blk_cells hrb5
          have y5 : w5.cell? ⟨b, off + k * 3 + 1, none⟩ = some (.int .i64 ((wd WS k).line : Nat)) := by
            obtain ⟨b', off', e1, hbw', _, q1', _⟩ := HLW.out.word (wd_at hlt)
            injection e1 with e1
            injection e1 with e1 e2
            subst e1 e2
            exact (hB5.cell (p := ⟨b, _, none⟩) hbw').trans q1'
          have hbne : b ≠ w1.heap.size := by omega
          have hbne2 : b ≠ w.heap.size := by have : w.heap.size < b := HAD.out _ rfl; omega
          have hrne : w.heap.size ≠ w1.heap.size := by omega
          have HFU := (show Hid ((WS.drop st).length ≤ m) from HS.out.fuel)
          clear hbx5 hbx6 hb6 hH5 hB6 hBc HBX HS HOc HHc
          dsimp only
          by_cases hE : E = 0
          · have hE1 : ((E : Int) != 0) = false := by simp [hE]
            have hgo := HX.out.2.1 hE
            have HGO := (show Hid (R = rowsN (m - 1) p' (WS.drop (k + 1))) from hgo)
            have HEZ := (show Hid ((E : Int) = 0) from by show (E : Int) = 0; omega)
            clear hgo hE hB5 y5 r0 r1 r2 rf0 rf1 rf2
            go_wp2
            go_roundw
            case rel =>
              refine ⟨by rw [HEZ.out], k + 1, k + 1, m - 1, p', _, b1, b2, b3, d1, d2, d3, by go_num, ⟨HH6.out, HX6.out.1, ?_, HGO.out.symm, ?_, Nat.le_refl _, hlt, fun j j1 j2 _ => ?_, fun h => h, HX.out.2.2.1, ?_, below1 _ _, HX6.out.2⟩⟩
              · rw [rowAt_start, Nat.sub_self]
                have hl := World.ownsRow_lit (e := 9) (size := 1) (((w5.setCell ⟨w1.heap.size, 0, none⟩ (.slice b1 p'.ds.length d1)).setCell ⟨w1.heap.size, 1, none⟩ (.slice b2 p'.ss.length d2)).setCell ⟨w1.heap.size, 2, none⟩ (.slice b3 p'.ls.length d3)) #[] 0 (Nat.le_refl _) (by unfold maxLen; omega) rfl
                simpa [cellsT] using hl
              · have := HFU.out
                rw [List.length_drop] at this ⊢
                omega
              · obtain rfl : j = k + 1 := by omega
                rfl
              · have := HX.out.2.2.2; omega
            case measure => simp [intOf]; omega
          · have hE1 : ((E : Int) != 0) = true := by simp; exact hE
            have HGO := (show Hid (R = (E, (wd WS k).line, pol0)) from HX.out.1 hE)
            have HEN := (show Hid (E ≠ 0) from hE)
            clear hE
            generalize (wd WS k).line = L1 at *
            have hrb6 : (((w5.setCell ⟨w1.heap.size, 0, none⟩ (.slice b1 p'.ds.length d1)).setCell ⟨w1.heap.size, 1, none⟩ (.slice b2 p'.ss.length d2)).setCell ⟨w1.heap.size, 2, none⟩ (.slice b3 p'.ls.length d3)).heap[w.heap.size]? = some (.cells #[.slice none 0 0, .slice none 0 0, .slice none 0 0] 26 (0, 0)) := by
              rw [Below.heap_setCell _ _ _ _ hrne, Below.heap_setCell _ _ _ _ hrne, Below.heap_setCell _ _ _ _ hrne]; exact hrb5
            obtain ⟨t1, t2⟩ := three_set hrb6 (hB1.trans (HX6.out.2.mono (by omega))) (Nat.le_refl _) (.slice none 0 0) (.slice none 0 0) (.slice none 0 0)
            have HT12 := (show Hid _ from And.intro t1 t2)
            clear t1 t2 hrb6
            go_wp2_with fail
            go_region
            go_wp2
            refine rparse_none HT12.out.1 HT12.out.2 ?_
            rw [HGO.out]; unfold finish; rw [if_pos HEN.out]
    · obtain rfl : k = WS.length := by omega
      have hlt' : ¬ (WS.length : Int) < (WS.length : Int) := by omega
      have hgo := hS.goes
      rw [hS.fin rfl, List.drop_length, rowsN_nil] at hgo
      have hbx : wr.heap[w1.heap.size]? = some (.cells #[.slice a1 p.ds.length c1, .slice a2 p.ss.length c2, .slice a3 p.ls.length c3] 26 (0, 0)) := (hS.b0.block _ (Array.getElem?_eq_some_iff.1 hS.box).1).trans hS.box
      obtain ⟨k0, k1, k2, _, _, _⟩ := blk_cells hbx
      have hH := hS.h.below hS.b0
      have hC := refCheck_any a1 a2 a3 _ _ _ c1 c2 c3 p wr rfl rfl rfl hH hS.fine
      have HC := (show Hid (Calls Tryd.prog 14 #[.agg #[.slice a1 p.ds.length c1, .slice a2 p.ss.length c2, .slice a3 p.ls.length c3]] wr fun e w' => e = .returned (.int .i64 (checkOf p : Nat)) ∧ Below wr.heap.size wr w') from hC)
      have HGO : Hid (finish R = if checkOf p ≠ 0 then (checkOf p, 0, pol0) else (0, 0, p)) := by
        show finish R = _
        rw [← hgo]; unfold finish; simp
      have HBX := (show Hid (wr.heap[w1.heap.size]? = some (.cells #[.slice a1 p.ds.length c1, .slice a2 p.ss.length c2, .slice a3 p.ls.length c3] 26 (0, 0))) from hbx)
      have HHH := (show Hid (Held wr a1 a2 a3 c1 c2 c3 p) from hH)
      generalize checkOf p = C at *
      clear hC hgo hbx hH hS
      go_wp2_with fail
      refine HC.out.mono ?_
      rintro e w5 ⟨rfl, hB5⟩
      have hbx5 := (hB5.block _ (Array.getElem?_eq_some_iff.1 HBX.out).1).trans HBX.out
      obtain ⟨m0, m1, m2, _, _, _⟩ := blk_cells hbx5
      have hB : Below w1.heap.size w1 w5 := HB.out.trans (hB5.mono HB.out.size)
      have hrb5 : w5.heap[w.heap.size]? = some (.cells #[.slice none 0 0, .slice none 0 0, .slice none 0 0] 26 (0, 0)) := (hB.block _ hz).trans hb
      obtain ⟨r0, r1, r2, rf0, rf1, rf2⟩ := blk_cells hrb5
      have hBw : Below w.heap.size w w5 := hB1.trans (hB.mono (by omega))
      have HN := (show Hid _ from three_set hrb5 hBw (Nat.le_refl _) (.slice none 0 0) (.slice none 0 0) (.slice none 0 0))
      have HP := (show Hid _ from three_set hrb5 hBw (Nat.le_refl _) (.slice a1 p.ds.length c1) (.slice a2 p.ss.length c2) (.slice a3 p.ls.length c3))
      have HQ := (show Hid (Held (((w5.setCell ⟨w.heap.size, 0, none⟩ (.slice a1 p.ds.length c1)).setCell ⟨w.heap.size, 1, none⟩ (.slice a2 p.ss.length c2)).setCell ⟨w.heap.size, 2, none⟩ (.slice a3 p.ls.length c3)) a1 a2 a3 c1 c2 c3 p) from held_box (HHH.out.below hB5) ⟨_, _, _, hrb5, rfl, rfl, rfl⟩)
      have hrne : w.heap.size ≠ w1.heap.size := by omega
      clear hbx5 hrb5 hB5 hB hBw HC HBX HHH HB
      by_cases hC0 : C = 0
      · have hC1 : ((C : Int) != 0) = false := by simp [hC0]
        have HF := (show Hid (finish R = (0, 0, p)) from by show finish R = _; rw [HGO.out, if_neg (fun h => h hC0)])
        clear hC0 HGO
        go_wp2
        exact rparse_ret HP.out.1 HP.out.2 HQ.out HF.out rfl rfl rfl
      · have hC1 : ((C : Int) != 0) = true := by simp; exact hC0
        have HF := (show Hid (finish R = (C, 0, pol0)) from by show finish R = _; rw [HGO.out, if_pos hC0])
        clear hC0 HGO
        go_wp2
        exact rparse_ret HN.out.1 HN.out.2 (held_none _) HF.out rfl rfl rfl

set_option maxHeartbeats 1000000 in
theorem refParse_bad (s : ByteArray) (h : (ansOf s.data.toList).e ≠ 0) (w : World) : Calls Tryd.prog 16 #[.string s] w (PSaid w (parseOf s.data.toList)) := by
  rw [parse_over h]
  have H := fun w => L3.ref_any s w
  generalize ansOf s.data.toList = A at *
  obtain ⟨L, E, P, Q⟩ := A
  have hE : ((E : Int) != 0) = true := by simp; exact h
  clear h
  go_enter Tryd.func16, Tryd.ntmps16
  go_wp2_with fail
  refine (H _).mono ?_
  rintro e w1 ⟨v, rfl, _, hB⟩
  have hb : w1.heap[w.heap.size]? = some (.cells #[.slice none 0 0, .slice none 0 0, .slice none 0 0] 26 (0, 0)) := (hB.block _ (by simp)).trans (alloc_at _ _)
  obtain ⟨k0, k1, k2, f0, f1, f2⟩ := blk_cells hb
  have hB1 : Below w.heap.size w w1 := (below1 _ _).trans (hB.mono (by simp))
  obtain ⟨hs, hbs⟩ := three_set hb hB1 (Nat.le_refl _) (.slice none 0 0) (.slice none 0 0) (.slice none 0 0)
  clear hb hB
  go_wp2
  exact rparse_ret hs hbs (held_none _) rfl rfl rfl rfl

theorem refParse_of (hone : OneSays2) (s : ByteArray) (w : World) : Calls Tryd.prog 16 #[.string s] w (PSaid w (parseOf s.data.toList)) := by
  by_cases h : (ansOf s.data.toList).e = 0
  · exact refParse_ok hone s h w
  · exact refParse_bad s h w

end Go.Proofs.YtmhjoomkeidcaaaDoor

/-
  What the document's 'one' comes to, of any line; and so what its Parse comes to.
-/
namespace Go.Proofs.YtmhjoomkeidcaaaDoor
open Go.RowKit L2

theorem kw_no {x k : ByteArray} (h : x ≠ k) : (x.toList == k.toList) = false := by rw [list_eqb]; exact decide_eq_false h
theorem kw_is {x k : ByteArray} (h : x = k) : (x.toList == k.toList) = true := by rw [list_eqb]; exact decide_eq_true h

theorem one_says : OneSays2 := by
  intro a1 a2 a3 c1 c2 c3 g n cap p row W hh hp hl h1 h5 hcap hg hcells hsm
  obtain ⟨x, hx⟩ : ∃ x, row[0]? = some x := ⟨row[0]'(by omega), List.getElem?_eq_getElem (by omega)⟩
  rcases line_kinds p row n hl x hx with ⟨nm, lb, a, b, c, hr, hb, hL⟩ | ⟨nm, a, hr, h6, hb, hL⟩ | ⟨nm, nm2, a, hr, h6, h3, hb, hL⟩ | ⟨nm, nm2, a, hr, h6, h3, h4, hb, hL⟩ | ⟨h6, h3, h4, h4', hL⟩
  · rw [hL]
    subst hr
    simp only [Bool.and_eq_true, decide_eq_true_eq] at hb
    obtain ⟨hx1, hn⟩ := hb
    subst hn
    refine one_domain a1 a2 a3 c1 c2 c3 g cap p x nm lb a b c W hh hp (hsm nm (by simp)) (hsm lb (by simp)) hg (hcells 0 (by omega)) (hcells 1 (by omega)) (hcells 2 (by omega)) (hcells 3 (by omega)) (hcells 4 (by omega)) (hcells 5 (by omega)) ?_
    rw [← kwDomain_list]; exact kw_is hx1
  · rw [hL]
    subst hr
    simp only [Bool.and_eq_true, decide_eq_true_eq] at hb
    obtain ⟨hx1, hn⟩ := hb
    subst hn
    refine one_slot a1 a2 a3 c1 c2 c3 g cap p x nm a W hh hp hg (hcells 0 (by omega)) (hcells 1 (by omega)) (hcells 2 (by omega)) ?_ ?_
    · rw [← kwDomain_list]; exact kw_no (fun e => kw12 (e.symm.trans hx1))
    · rw [← kwSlot_list]; exact kw_is hx1
  · rw [hL]
    subst hr
    simp only [Bool.and_eq_true, decide_eq_true_eq] at hb
    obtain ⟨hx1, hn⟩ := hb
    subst hn
    refine one_cell a1 a2 a3 c1 c2 c3 g cap p x nm nm2 a W hh hp hg (hcells 0 (by omega)) (hcells 1 (by omega)) (hcells 2 (by omega)) (hcells 3 (by omega)) ?_ ?_ ?_ ?_
    · rw [← kwDomain_list]; exact kw_no (fun e => kw13 (e.symm.trans hx1))
    · rw [← kwSlot_list]; exact kw_no (fun e => kw23 (e.symm.trans hx1))
    · rw [← kwCell_list]; exact kw_is hx1
    · rw [← kwPump_list]; exact kw_no (fun e => kw34 (hx1.symm.trans e))
  · rw [hL]
    subst hr
    simp only [Bool.and_eq_true, decide_eq_true_eq] at hb
    obtain ⟨hx1, hn⟩ := hb
    subst hn
    refine one_pump a1 a2 a3 c1 c2 c3 g cap p x nm nm2 a W hh hp hg (hcells 0 (by omega)) (hcells 1 (by omega)) (hcells 2 (by omega)) (hcells 3 (by omega)) ?_ ?_ ?_ ?_
    · rw [← kwDomain_list]; exact kw_no (fun e => kw14 (e.symm.trans hx1))
    · rw [← kwSlot_list]; exact kw_no (fun e => kw24 (e.symm.trans hx1))
    · rw [← kwCell_list]; exact kw_no (fun e => kw34 (e.symm.trans hx1))
    · rw [← kwPump_list]; exact kw_is hx1
  · rw [hL]
    refine one_wrong a1 a2 a3 c1 c2 c3 g 0 n cap p x W hh h1 hg ?_ ⟨h6, h3, h4, h4'⟩
    have := hcells 0 (by omega)
    rw [this]
    have : row.getD 0 ⟨#[]⟩ = x := by simp [List.getD, hx]
    rw [this]

theorem refParse_any (s : ByteArray) (w : World) : Calls Tryd.prog 16 #[.string s] w (PSaid w (parseOf s.data.toList)) := refParse_of one_says s w

end Go.Proofs.YtmhjoomkeidcaaaDoor

/-
  The walk of the law PolicyParses.
-/
namespace Go.Proofs.YtmhjoomkeidcaaaDoor
open Go.RowKit L2

theorem parses_walk (s : ByteArray) (w : World) : Calls Tryd.prog 5 #[.string s] w fun e w' => e = .returned (.bool true) ∧ Below w.heap.size w w' := parses_of s w fun W => refParse_any s W

end Go.Proofs.YtmhjoomkeidcaaaDoor

/-
  How a policy that is handed in lies in memory, and what each statement's frame leans on besides.
-/
namespace Go.Proofs.YtmhjoomkeidcaaaDoor
open Go.ChangeShapes Go.WideShapes Go.ChangeAt Go.RowKit Go.Joins Go.Deep

theorem own : ownKnob Tryd.prog.godebug = none := by kernel_rfl
theorem laidOut : laidOutB Tryd.prog = true := by kernel_rfl
theorem cells26 : Tryd.prog.cellsOf 26 = 3 := by kernel_rfl
theorem cells37 : Tryd.prog.cellsOf 37 = 6 := by kernel_rfl
theorem cells39 : Tryd.prog.cellsOf 39 = 2 := by kernel_rfl
theorem cells32 : Tryd.prog.cellsOf 32 = 4 := by kernel_rfl
theorem cells35 : Tryd.prog.cellsOf 35 = 2 := by kernel_rfl
theorem cells9 : Tryd.prog.cellsOf 9 = 1 := by kernel_rfl
theorem cells3 : Tryd.prog.cellsOf 3 = 1 := by kernel_rfl

theorem in64_of_wf {x : Int} (h : (Lit.int .i64 x).wf = true) : L2.In64 x := by
  have := bounds_i64 h
  unfold L2.In64
  omega

/-- A list that is read lies in memory as a row of its elements' cells. -/
theorem open_list {H : Type} {enc : TypeId × Value → H} {W : World} {a0 : Option Addr} {len cap fuel : Nat} {sp : Nat → Bool} {y : DataW H × List MemPlace} {t e : TypeId}
    {α : Type} (x0 : α) (f : α → List Value) (k : Nat) (hk : ∀ x, (f x).length = k) (k0 : 0 < k) (Q : α → Prop) (ht : Tryd.prog.underlying t = some (.slice e)) (ce : Tryd.prog.cellsOf e = k)
    (hdec : ∀ n cs y, DataW.trod enc Tryd.prog W 0 sp true n e cs = some y → ∃ x, cs = f x ∧ Q x)
    (hf : DataW.trod enc Tryd.prog W 0 sp true fuel t [.slice a0 len cap] = some y) : len ≤ cap ∧ cap ≤ maxLen ∧ ∃ xs : List α, xs.length = len ∧ Lies W a0 (xs.flatMap f) ∧ ∀ x ∈ xs, Q x := by
  rcases open_slice ht hf with ⟨hcs, _⟩ | ⟨a, l, c, m, n, D, Pl, hcs, _, hl, hm, hmm, _, hx⟩
  · simp at hcs
    obtain ⟨rfl, rfl, rfl⟩ := hcs
    exact ⟨Nat.le_refl _, by unfold maxLen; omega, [], rfl, Or.inl rfl, fun x hx => by cases hx⟩
  · simp at hcs
    obtain ⟨rfl, rfl, rfl⟩ := hcs
    have hlm : len ≤ m := by rw [hmm]; split <;> omega
    refine ⟨hl, hm, ?_⟩
    have each : ∀ i, i < len → ∃ x : α, (∀ j, j < k → W.cell? ((a.add (i * k)).add j) = (f x)[j]?) ∧ Q x := by
      intro i hi
      obtain ⟨cs', h1, h2⟩ := hx i (by omega)
      rw [ce] at h1
      obtain ⟨_, _, hcell⟩ := World.cells?_some h1
      obtain ⟨x, rfl, hq⟩ := hdec _ _ _ h2
      exact ⟨x, hcell, hq⟩
    haveI : Inhabited α := ⟨x0⟩
    obtain ⟨g, hg⟩ := choose_lt each
    refine ⟨(List.range len).map g, by simp, ?_, fun x hx => ?_⟩
    · by_cases h0 : len = 0
      · subst h0; exact Or.inl rfl
      · right
        obtain ⟨b, off, spot⟩ := a
        have hc0 := (hg 0 (by omega)).1 0 k0
        have hsome : ∃ u, (f (g 0))[0]? = some u := ⟨_, List.getElem?_eq_getElem (by rw [hk]; exact k0)⟩
        obtain ⟨u, hu⟩ := hsome
        rw [hu] at hc0
        have hspot : spot = none := by simpa [Addr.add] using World.cell?_spot hc0
        subst hspot
        refine ⟨b, off, rfl, ?_, fun j u hj => ?_⟩
        · have := block_lt_of_cell hc0
          simpa [Addr.add] using this
        · have hjl : j < ((List.range len).map g).length * k := by
            rw [← flat_length f k hk]
            exact (List.getElem?_eq_some_iff.1 hj).1
          simp only [List.length_map, List.length_range] at hjl
          have hi : j / k < len := by rw [Nat.div_lt_iff_lt_mul k0]; exact hjl
          have hr : j % k < k := Nat.mod_lt _ k0
          have hje : j / k * k + j % k = j := by rw [Nat.mul_comm]; exact Nat.div_add_mod j k
          have hat := flat_at f k hk ((List.range len).map g) (j / k) (j % k) (g (j / k)) (by simp [hi]) hr
          rw [hje, hj] at hat
          have := (hg _ hi).1 _ hr
          rw [add_plain, add_plain, ← hat, Nat.add_assoc, hje] at this
          exact this
    · obtain ⟨i, hi, rfl⟩ := List.mem_map.1 hx
      exact (hg i (List.mem_range.1 hi)).2

/-- What is asked of a policy's numbers and names: they fit. -/
def FitD (d : Dm) : Prop := L2.In64 d.cat ∧ d.name.size ≤ 9223372036854775807

set_option maxRecDepth 100000 in
theorem dec_lab {H : Type} {enc : TypeId × Value → H} {W : World} {sp : Nat → Bool} {n : Nat} {cs : List Value} {y : DataW H × List MemPlace} (h : DataW.trod enc Tryd.prog W 0 sp true n 35 cs = some y) : ∃ a b : Int, cs = [.int .i64 a, .int .i64 b] ∧ L2.In64 b := by
  obtain ⟨xs, k, _, _, hlen, hxl, hf⟩ := DataW.trod_struct Tryd.underlying35 h
  rw [cells35] at hlen
  match cs, hlen with
  | [u, v], _ =>
    match xs, hxl with
    | [y0, y1], _ =>
      have g0 := hf 0 _ rfl
      have g1 := hf 1 _ rfl
      simp [cells3] at g0 g1
      obtain ⟨a, e0, _, _⟩ := DataW.trod_int Tryd.underlying3 g0
      obtain ⟨b, e1, _, wb⟩ := DataW.trod_int Tryd.underlying3 g1
      simp at e0 e1
      subst e0 e1
      exact ⟨a, b, rfl, in64_of_wf wb⟩

set_option maxRecDepth 100000 in
theorem dec_dom {H : Type} {enc : TypeId × Value → H} {W : World} {sp : Nat → Bool} (n : Nat) (cs : List Value) (y : DataW H × List MemPlace) (h : DataW.trod enc Tryd.prog W 0 sp true n 37 cs = some y) : ∃ d : Dm, cs = cD d ∧ FitD d := by
  obtain ⟨xs, k, _, _, hlen, hxl, hf⟩ := DataW.trod_struct Tryd.underlying37 h
  rw [cells37] at hlen
  match cs, hlen with
  | [u0, u1, u2, u3, u4, u5], _ =>
    match xs, hxl with
    | [y0, y1, y2, y3, y4], _ =>
      have g0 := hf 0 _ rfl
      have g1 := hf 1 _ rfl
      have g2 := hf 2 _ rfl
      have g3 := hf 3 _ rfl
      have g4 := hf 4 _ rfl
      simp [cells3, cells9, cells35] at g0 g1 g2 g3 g4
      obtain ⟨s, e0, _, ws⟩ := DataW.trod_string Tryd.underlying9 g0
      obtain ⟨a, b, e1, hb⟩ := dec_lab g1
      obtain ⟨c, e2, _, _⟩ := DataW.trod_int Tryd.underlying3 g2
      obtain ⟨d, e3, _, _⟩ := DataW.trod_int Tryd.underlying3 g3
      obtain ⟨e, e4, _, _⟩ := DataW.trod_int Tryd.underlying3 g4
      simp at e0 e1 e2 e3 e4
      obtain ⟨e1, e1'⟩ := e1
      subst e0 e1 e1' e2 e3 e4
      exact ⟨⟨s, a, b, c, d, e⟩, rfl, hb, by unfold maxLen at ws; show s.size ≤ _; omega⟩

set_option maxRecDepth 100000 in
theorem dec_slot {H : Type} {enc : TypeId × Value → H} {W : World} {sp : Nat → Bool} (n : Nat) (cs : List Value) (y : DataW H × List MemPlace) (h : DataW.trod enc Tryd.prog W 0 sp true n 39 cs = some y) : ∃ s : Sl, cs = cS s ∧ True := by
  obtain ⟨xs, k, _, _, hlen, hxl, hf⟩ := DataW.trod_struct Tryd.underlying39 h
  rw [cells39] at hlen
  match cs, hlen with
  | [u, v], _ =>
    match xs, hxl with
    | [y0, y1], _ =>
      have g0 := hf 0 _ rfl
      have g1 := hf 1 _ rfl
      simp [cells3] at g0 g1
      obtain ⟨a, e0, _, _⟩ := DataW.trod_int Tryd.underlying3 g0
      obtain ⟨b, e1, _, wb⟩ := DataW.trod_int Tryd.underlying3 g1
      simp at e0 e1
      subst e0 e1
      exact ⟨⟨a, b⟩, rfl, trivial⟩

set_option maxRecDepth 100000 in
theorem dec_link {H : Type} {enc : TypeId × Value → H} {W : World} {sp : Nat → Bool} (n : Nat) (cs : List Value) (y : DataW H × List MemPlace) (h : DataW.trod enc Tryd.prog W 0 sp true n 32 cs = some y) : ∃ s : Lk, cs = cL s ∧ True := by
  obtain ⟨xs, k, _, _, hlen, hxl, hf⟩ := DataW.trod_struct Tryd.underlying32 h
  rw [cells32] at hlen
  match cs, hlen with
  | [u0, u1, u2, u3], _ =>
    match xs, hxl with
    | [y0, y1, y2, y3], _ =>
      have g0 := hf 0 _ rfl
      have g1 := hf 1 _ rfl
      have g2 := hf 2 _ rfl
      have g3 := hf 3 _ rfl
      simp [cells3] at g0 g1 g2 g3
      obtain ⟨a, e0, _, _⟩ := DataW.trod_int Tryd.underlying3 g0
      obtain ⟨b, e1, _, _⟩ := DataW.trod_int Tryd.underlying3 g1
      obtain ⟨c, e2, _, _⟩ := DataW.trod_int Tryd.underlying3 g2
      obtain ⟨d, e3, _, _⟩ := DataW.trod_int Tryd.underlying3 g3
      simp at e0 e1 e2 e3
      subst e0 e1 e2 e3
      exact ⟨⟨a, b, c, d⟩, rfl, trivial⟩

set_option maxRecDepth 100000 in
/-- A policy that is handed in. -/
theorem open_pol {H : Type} {enc : TypeId × Value → H} {W : World} {sp : Nat → Bool} {v : Value} {d : DataW H} {ps : List MemPlace} {base : Nat} (hv : Value.okWide Tryd.prog W .any base 26 v) (h : DataW.Trod enc Tryd.prog W 0 sp true 26 v d ps) :
    ∃ (a1 a2 a3 : Option Addr) (c1 c2 c3 : Nat) (p : Pol), v = .agg #[.slice a1 p.ds.length c1, .slice a2 p.ss.length c2, .slice a3 p.ls.length c3] ∧ Held W a1 a2 a3 c1 c2 c3 p ∧ (∀ x ∈ p.ds, FitD x) ∧ c1 ≤ maxLen ∧ c2 ≤ maxLen ∧ c3 ≤ maxLen := by
  obtain ⟨v0, v1, v2, y0, y1, y2, n, rfl, _, _, h0, h1, h2⟩ := open_agg3 Tryd.underlying26 (by kernel_rfl) cells26 hv h
  have form : ∀ {t e : TypeId} {v : Value} {y : DataW H × List MemPlace}, Tryd.prog.underlying t = some (.slice e) → DataW.trod enc Tryd.prog W 0 sp true n t [v] = some y → ∃ a l c, v = .slice a l c := by
    intro t e v y ht h
    rcases open_slice ht h with ⟨hcs, _⟩ | ⟨a, l, c, _, _, _, _, hcs, _⟩
    · simp at hcs; exact ⟨none, 0, 0, hcs⟩
    · simp at hcs; exact ⟨some a, l, c, hcs⟩
  obtain ⟨a1, l1, c1, rfl⟩ := form Tryd.underlying22 h0
  obtain ⟨a2, l2, c2, rfl⟩ := form Tryd.underlying23 h1
  obtain ⟨a3, l3, c3, rfl⟩ := form Tryd.underlying24 h2
  obtain ⟨k1, m1, ds, rfl, hd, hq⟩ := open_list ⟨⟨#[]⟩, 0, 0, 0, 0, 0⟩ cD 6 (fun _ => rfl) (by omega) FitD Tryd.underlying22 cells37 dec_dom h0
  obtain ⟨k2, m2, ss, rfl, hs, _⟩ := open_list ⟨0, 0⟩ cS 2 (fun _ => rfl) (by omega) (fun _ => True) Tryd.underlying23 cells39 dec_slot h1
  obtain ⟨k3, m3, ls, rfl, hl, _⟩ := open_list ⟨0, 0, 0, 0⟩ cL 4 (fun _ => rfl) (by omega) (fun _ => True) Tryd.underlying24 cells32 dec_link h2
  exact ⟨a1, a2, a3, c1, c2, c3, ⟨ds, ss, ls⟩, rfl, ⟨hd, hs, hl, k1, k2, k3⟩, hq, m1, m2, m3⟩

/-- The door's own heap holds the listed variables as the program's text lays them. -/
theorem door_met (os : Os) (args : Array Value) : laidMetH Tryd.prog Rows.policyChecksRow.laid ((World.doorLaid Tryd.prog 400 os).forCall (fun _ _ => 0) ⟨#[], args, []⟩).memory :=
  laidMetH_of_parts3 (fuel := 8) (laidMet_of_run' 8 (by kernel_rfl) (by kernel_rfl)) (by kernel_rfl) (by kernel_rfl)

end Go.Proofs.YtmhjoomkeidcaaaDoor

/-
  Called with any text, the law PolicyParses returns true and leaves its argument as it was; the library's listed tables hold what the program's text lays when the call begins.
-/
namespace Go.Proofs.YtmhjoomkeidcaaaDoor
open Go.ChangeShapes Go.WideShapes Go.ChangeAt Go.RowKit Go.Joins Go.Deep
open Go.ChangeMaps (open_string shut_string)

set_option maxRecDepth 100000 in
theorem parses_lifted (os : Os) (started : os.Started) (H : Type) (enc : TypeId × Value → H) :
    ReturnsInHanded {} Tryd.checked os 5 .any (fun w args => (Rows.policyParsesSpec.pre enc Tryd.prog Tryd.f5 [] false w args ∧ laidMetH Tryd.prog Rows.policyParsesRow.laid w) ∧ sizedMet enc Tryd.prog Tryd.f5 (OpenSpec.ofChange Rows.policyParsesSpec) false w args)
      (Rows.policyParsesSpec.post enc Tryd.prog Tryd.f5 false true false false) := by
  refine returnsInHanded_of_change_and (C := Tryd.checked) (X := fun w _ => laidMetH Tryd.prog Rows.policyParsesRow.laid w) (fun _ _ _ hh h => h.of_heap hh) own started (by kernel_rfl) Tryd.func5
    (ChangeSpec.witness_shaped (enc := enc) (C := Tryd.checked) (os := os) (X := fun w _ => laidMetH Tryd.prog Rows.policyParsesRow.laid w) false (World.doorLaid Tryd.prog 400 os) #[.string ⟨#[]⟩] 8 rfl (World.shaped_of_RefB (by kernel_rfl) (by kernel_rfl)) (by kernel_rfl) (by kernel_rfl) (by kernel_rfl) (door_met os _)) ?_
  intro W base args ds gs before hval0 hW _ _ _ _
  have hval : ∀ (j : Nat) t v, Tryd.f5.params[j]? = some t → args[j]? = some v → Value.okWide Tryd.prog W .any base t v := hval0
  have hW' := hW
  obtain ⟨p, q, hA0, hV, rfl, hfz, hnd⟩ := hW
  have hA : DataW.TrodAll enc Tryd.prog W 0 (fun _ => true) true Tryd.f5.params.toList args.toList ds p := hA0
  rw [Tryd.params5] at hA hval
  obtain ⟨v0, d0, rfl, rfl, h0⟩ := trodAll_one hA
  obtain ⟨rfl, rfl⟩ := trodVars_none hV
  obtain ⟨s0, rfl, rfl, rfl, ws0⟩ := open_string Tryd.underlying9 (hval 0 9 v0 rfl rfl) h0
  clear hA0 hval0
  simp only [List.append_nil] at hW'
  refine (parses_walk s0 W).mono fun e W' ⟨he, hg⟩ => ?_
  subst he
  exact ⟨_, rfl, _, _, _, [], _, [], hW', trodAll_mk1 (shut_bool Tryd.underlying4 _), trodAll_mk1 (shut_string Tryd.underlying9 ws0), rfl, hg.frame _, fun h => by cases h⟩

theorem parses_over : Rows.policyParsesRow.holds Tryd.pinned (OpenSpec.ofChange Rows.policyParsesSpec) :=
  OpenClaim.holds_of_wide 5 Tryd.f5 rfl rfl rfl rfl rfl rfl rfl ⟨rfl, rfl, rfl, rfl, rfl⟩ rfl rfl rfl rfl rfl (by kernel_rfl) Tryd.func5 (by kernel_rfl)
    (of_decide_eq_true (by kernel_rfl)) (by unfold Func.isWrapper; first | (rw [if_pos (by decide +kernel)]; kernel_rfl) | (rw [if_neg (by decide +kernel)]; exact ⟨rfl, rfl⟩))
    (fun os started H enc _ => parses_lifted os started H enc)

theorem parses_proved : Rows.PolicyParsesCardSaid :=
  Claim7.holds_tied_plain_at .later [] [.data, .data, .data] true _ false
    parses_over (fun _ h => by cases h) (by kernel_rfl) (fun _ h => by cases h) policyParses_row_tie rfl ⟨rfl, rfl⟩ (by kernel_rfl) rfl
    (fun f fn hf hfn => by
      obtain rfl : f = 5 := Option.some.inj ((show Tryd.prog.funcNamed Rows.policyParsesRow.func = some 5 by kernel_rfl).symm.trans hf) |>.symm
      obtain rfl : fn = Tryd.f5 := (Option.some.inj (Tryd.func5.symm.trans hfn)).symm
      exact ⟨by kernel_rfl, fun j t ht => by
        rw [Tryd.params5] at ht
        have hm : t ∈ [9] := by simpa using Array.mem_of_getElem? ht
        have hall : ([9].all fun u => !Tryd.prog.wantsStandIn u) = true := by kernel_rfl
        exact (show Tryd.prog.wantsStandIn t = false by simpa using List.all_eq_true.1 hall t hm)⟩)
    (by kernel_rfl)
#print axioms parses_proved
end Go.Proofs.YtmhjoomkeidcaaaDoor
