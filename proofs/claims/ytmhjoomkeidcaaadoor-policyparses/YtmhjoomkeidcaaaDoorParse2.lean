/-
  What policy.Parse comes to where the words of the text are known.
-/
import Derived.Test.YtmhjoomkeidcaaaDoorParse
namespace Go.Proofs.YtmhjoomkeidcaaaDoor
open Go.RowKit L2
open L3 (Wd cellsW ansOf)

/-- Where Parse stands: the words that are left, and the policy so far. -/
structure ParseAt (w w1 : World) (R : Nat × Nat × Pol) (v : Value) (wr : World) (ad : Option Addr) (n cap m : Nat) (ws : List Wd) (p : Pol) (v1 v2 v3 : Value) : Prop where
  val : v = .slice ad n cap
  len : ws.length = n
  capl : n ≤ cap
  lies : Lies w1 ad (cellsW ws)
  blk : ∀ q, ad = some q → w.heap.size < q.block ∧ q.block < w1.heap.size
  pat : PAt wr w.heap.size w1.heap.size v1 v2 v3 p
  fuel : ws.length ≤ m
  goes : rowsN m p ws = R
  few : p.size + ws.length ≤ 4096
  but : But w.heap.size w1.heap.size w1 wr

/-- How long a list is. -/
def sliceLen : Value → Nat
  | .slice _ n _ => n
  | _ => 0
theorem Pol.size_le {p : Pol} {n : Nat} (h : p.size ≤ n) : p.ds.length ≤ n ∧ p.ss.length ≤ n ∧ p.ls.length ≤ n := by unfold Pol.size at h; omega

theorem owns_slice {w : World} {B : Nat} {e : TypeId} {size n cap : Nat} {ad : Option Addr} {xs : List Value} (h : w.ownsRow B e size (.slice ad n cap) n xs) (h0 : n = 0 → xs = []) : n ≤ cap ∧ Lies w ad xs := by
  obtain ⟨ad', cap', e1, h1, h2⟩ := owns_lies h h0
  injection e1 with e1 e2 e3
  subst e1 e3
  exact ⟨h1, h2⟩
theorem held_set {w : World} {B base : Nat} {a1 a2 a3 : Option Addr} {d1 d2 d3 : Nat} {p : Pol} (h : PAt w B base (.slice a1 p.ds.length d1) (.slice a2 p.ss.length d2) (.slice a3 p.ls.length d3) p) (x y z : Value) :
    Held (((w.setCell ⟨B, 0, none⟩ x).setCell ⟨B, 1, none⟩ y).setCell ⟨B, 2, none⟩ z) a1 a2 a3 d1 d2 d3 p := by
  obtain ⟨k1, l1⟩ := owns_slice (ownsRow_setCell_below (a := ⟨B, 2, none⟩) (ownsRow_setCell_below (a := ⟨B, 1, none⟩) (ownsRow_setCell_below (a := ⟨B, 0, none⟩) h.d h.lt x) h.lt y) h.lt z) (fun e => by rw [List.length_eq_zero_iff.1 e]; rfl)
  obtain ⟨k2, l2⟩ := owns_slice (ownsRow_setCell_below (a := ⟨B, 2, none⟩) (ownsRow_setCell_below (a := ⟨B, 1, none⟩) (ownsRow_setCell_below (a := ⟨B, 0, none⟩) h.s h.lt x) h.lt y) h.lt z) (fun e => by rw [List.length_eq_zero_iff.1 e]; rfl)
  obtain ⟨k3, l3⟩ := owns_slice (ownsRow_setCell_below (a := ⟨B, 2, none⟩) (ownsRow_setCell_below (a := ⟨B, 1, none⟩) (ownsRow_setCell_below (a := ⟨B, 0, none⟩) h.l h.lt x) h.lt y) h.lt z) (fun e => by rw [List.length_eq_zero_iff.1 e]; rfl)
  exact ⟨l1, l2, l3, k1, k2, k3⟩

set_option maxHeartbeats 4000000 in
theorem parse_ok (s : ByteArray) (h : (ansOf s.data.toList).e = 0) (w : World) : Calls Tryd.prog 15 #[.string s] w (PSaid w (parseOf s.data.toList)) := by
  rw [parse_rows h]
  have H := fun w => L3.words_any s w
  have hfew := words_few s.data.toList
  generalize ansOf s.data.toList = A at *
  obtain ⟨WS, E, P, Q⟩ := A
  dsimp only at h hfew ⊢
  subst h
  obtain ⟨R, hR⟩ : ∃ R, rowsN WS.length pol0 WS = R := ⟨_, rfl⟩
  rw [hR]
  have HR : Hid (rowsN WS.length pol0 WS = R) := hR
  clear hR
  go_enter Tryd.func15, Tryd.ntmps15
  go_wp2_with fail
  refine (H _).mono ?_
  rintro e w1 ⟨v, rfl, hO, hB⟩
  have hb : w1.heap[w.heap.size]? = some (.cells #[.slice none 0 0, .slice none 0 0, .slice none 0 0] 26 (0, 0)) := (hB.block _ (by simp)).trans (alloc_at _ _)
  have hB1 : Below w.heap.size w w1 := (below1 _ _).trans (hB.mono (by simp))
  obtain ⟨ad, cap, hv, hcap, hL⟩ := owns_lies hO (fun e => by rw [List.length_eq_zero_iff.1 e]; rfl)
  have hz : w.heap.size < w1.heap.size := (Array.getElem?_eq_some_iff.1 hb).1
  have hS : ParseAt w w1 R v w1 ad WS.length cap WS.length WS pol0 (.slice none 0 0) (.slice none 0 0) (.slice none 0 0) := by
    refine ⟨hv, rfl, hcap, hL, fun q hq => ?_, ⟨hb, World.ownsRow_nil _ _ _ _, World.ownsRow_nil _ _ _ _, World.ownsRow_nil _ _ _ _, hz, Nat.le_refl _⟩, Nat.le_refl _, HR.out, by simp [Pol.size, pol0]; exact hfew, But.refl _ _ _⟩
    rcases hO.2 with ⟨e1, _⟩ | ⟨g, cp, cur, e1, hg, hh, _⟩
    · rw [hv] at e1; injection e1 with e1; rw [e1] at hq; cases hq
    · rw [hv] at e1
      injection e1 with e1
      rw [e1] at hq
      injection hq with hq
      subst hq
      simp at hg
      exact ⟨by simp only; omega, (Array.getElem?_eq_some_iff.1 hh).1⟩
  have HS : Hid (ParseAt w w1 R v w1 ad WS.length cap WS.length WS pol0 (.slice none 0 0) (.slice none 0 0) (.slice none 0 0)) := hS
  clear hS hO hB hb hL hv hcap hfew HR H
  go_wp2_with fail
  go_loopw [5] (fun v wr => ∃ ad n cap m ws p v1 v2 v3, ParseAt w w1 R v wr ad n cap m ws p v1 v2 v3) (fun v _ => sliceLen v)
  case atStart => exact ⟨_, _, _, _, _, _, _, _, _, HS.out⟩
  case round =>
    clear HS
    obtain ⟨ad, n, cap, m, ws, p, v1, v2, v3, hS⟩ := hrel
    obtain rfl := hS.val
    have HS : Hid (ParseAt w w1 R (.slice ad n cap) wr ad n cap m ws p v1 v2 v3) := hS
    have hl := hS.len
    have hfew := hS.few
    obtain ⟨g1, g2, g3⟩ := Pol.size_le (p := p) (n := 5000) (by omega)
    have hcl := hS.capl
    have HLW : Hid (Lies wr ad (cellsW ws)) := lies_but hS.lies hS.blk hS.but
    clear hS
    by_cases hn : 0 < n
    · have hn1 : (n : Int) > 0 := by omega
      have hF := fun W hrow => firstRow_any ad n cap ws W hl (by omega) (by omega) hcl hrow
      have hr1 := rowLen_pos (ws := ws) (by omega)
      have hr2 := rowLen_le ws
      have hrt : (ws.take (rowLen ws)).length = rowLen ws := by rw [List.length_take]; omega
      have hT := fun W hrow => texts_any ad (rowLen ws) cap (ws.take (rowLen ws)) W hrt (by omega) hrow
      have HN : Hid (((lineOf p (txt (ws.take (rowLen ws)))).1 ≠ 0 → R = ((lineOf p (txt (ws.take (rowLen ws)))).1, (wd ws 0).line, pol0)) ∧ ((lineOf p (txt (ws.take (rowLen ws)))).1 = 0 → rowsN (m - 1) (lineOf p (txt (ws.take (rowLen ws)))).2 (ws.drop (rowLen ws)) = R)) :=
        ⟨fun h => by rw [← HS.out.goes, rowsN_bad (by omega) HS.out.fuel h], fun h => by rw [← HS.out.goes, rowsN_next (by omega) HS.out.fuel h]⟩
      have hsz := lineOf_size p (txt (ws.take (rowLen ws)))
      have htl : (txt (ws.take (rowLen ws))).length = rowLen ws := by rw [txt_length, hrt]
      have hdl : (ws.drop (rowLen ws)).length = n - rowLen ws := by rw [List.length_drop]; omega
      have HDL : Hid ((ws.drop (rowLen ws)).length = n - rowLen ws) := hdl
      have HTW : Hid (∀ W, Lies W ad (cellsW ws) → Lies W ad (cellsW (ws.take (rowLen ws)))) := fun W h => take_liesW h _
      have HDR : Hid (∀ W b off, Lies W (some ⟨b, off, none⟩) (cellsW ws) → Lies W (some ⟨b, off + rowLen ws * 3, none⟩) (cellsW (ws.drop (rowLen ws)))) := fun W b off h => drop_liesW h _
      generalize txt (ws.take (rowLen ws)) = row at *
      generalize ws.take (rowLen ws) = wst at *
      generalize ws.drop (rowLen ws) = wsd at *
      generalize rowLen ws = r at *
      clear hrt hdl
      obtain ⟨b, off, rfl, hbw, _, z1, _⟩ := HLW.out.word (wd_at (i := 0) (by omega))
      clear hbw z1
      go_wp2_with fail
      refine (hF _ HLW.out).mono ?_
      rintro e w2 ⟨rfl, hB2⟩
      go_wp2_with fail
      refine (hT _ (HTW.out _ (HLW.out.below hB2))).mono ?_
      rintro e w3 ⟨tv, rfl, hOT, hB3⟩
      have hB23 := below_next hB2 hB3
      have hP3 := HS.out.pat.below hB23
      obtain ⟨ta, tc, rfl, htc, hLT⟩ := ownT_lies hOT
      obtain ⟨x0, hx0⟩ : ∃ x0, row[0]? = some x0 := ⟨row[0]'(by omega), List.getElem?_eq_getElem (by omega)⟩
      obtain ⟨rb, ro, rfl, hrb, _⟩ := hLT.text hx0
      have hRR := readRow_any w.heap.size w1.heap.size rb ro row.length tc v1 v2 v3 p row w3 hP3 g1 g2 g3 rfl (by omega) htc hrb (fun j x hj => by
        obtain ⟨b', o', e', _, h'⟩ := hLT.text hj
        injection e' with e'
        injection e' with e1 e2
        subst e1 e2
        exact h')
      have hBut3 : But w.heap.size w1.heap.size w1 w3 := HS.out.but.trans (Below.but hB23 HS.out.pat.le)
      clear hOT hLT hx0 hP3 hB2 hB3 hF hT
      rw [htl] at hRR htc ⊢
      clear htl
      generalize lineOf p row = LR at *
      obtain ⟨le, lp⟩ := LR
      dsimp only at hRR hsz HN ⊢
      go_wp2_with fail
      refine hRR.mono ?_
      rintro e w4 ⟨rfl, ⟨u1, u2, u3, hP4⟩, hBut4⟩
      have hBut : But w.heap.size w1.heap.size w1 w4 := hBut3.trans hBut4
      have HL4 : Hid (Lies w4 (some ⟨b, off, none⟩) (cellsW ws)) := lies_but HS.out.lies HS.out.blk hBut
      have HP4 : Hid (PAt w4 w.heap.size w1.heap.size u1 u2 u3 lp ∧ But w.heap.size w1.heap.size w1 w4) := ⟨hP4, hBut⟩
      clear hRR hBut3 hBut4 hB23 hBut hP4
      by_cases hle : le = 0
      · subst hle
        have hgo := HN.out.2 rfl
        have hlen := HDL.out
        have hfl := HS.out.fuel
        by_cases hrc : r < cap
        · have hrc1 : ¬ cap = r := by omega
          have hrc2 : ¬ (cap : Int) - r = 0 := by omega
          have hNx : ParseAt w w1 R (.slice (some ⟨b, off + r * 3, none⟩) (n - r) (cap - r)) w4 (some ⟨b, off + r * 3, none⟩) (n - r) (cap - r) (m - 1) wsd lp u1 u2 u3 := by
            refine ⟨rfl, hlen, by omega, HDR.out _ _ _ HS.out.lies, fun q hq => ?_, HP4.out.1, by omega, hgo, by omega, HP4.out.2⟩
            have := HS.out.blk _ rfl
            injection hq with hq
            subst hq
            exact this
          have HNX : Hid (ParseAt w w1 R (.slice (some ⟨b, off + r * 3, none⟩) (n - r) (cap - r)) w4 (some ⟨b, off + r * 3, none⟩) (n - r) (cap - r) (m - 1) wsd lp u1 u2 u3) := hNx
          clear hNx hgo hlen hfl
          go_wp2_with fail
          exact ⟨⟨_, _, _, _, _, _, _, _, _, HNX.out⟩, by simp only [sliceLen]; omega⟩
        · have hrc1 : cap = r := by omega
          have hrn : n = r := by omega
          subst hrc1
          subst hrn
          have hw0 : wsd = [] := List.length_eq_zero_iff.1 (by omega)
          have hNx : ∀ ad2, (∀ q, ad2 = some q → w.heap.size < q.block ∧ q.block < w1.heap.size) → ParseAt w w1 R (.slice ad2 0 0) w4 ad2 0 0 (m - 1) wsd lp u1 u2 u3 := fun ad2 had => by
            refine ⟨rfl, by omega, Nat.le_refl _, by rw [hw0]; exact Or.inl rfl, had, HP4.out.1, by omega, hgo, by omega, HP4.out.2⟩
          have HNX : Hid (∀ ad2, (∀ q, ad2 = some q → w.heap.size < q.block ∧ q.block < w1.heap.size) → ParseAt w w1 R (.slice ad2 0 0) w4 ad2 0 0 (m - 1) wsd lp u1 u2 u3) := hNx
          have hbb := HS.out.blk _ rfl
          have HBB : Hid (w.heap.size < b ∧ b < w1.heap.size) := hbb
          clear hNx hgo hlen hfl hbb hw0
          go_wp2_with fail
          exact ⟨⟨_, _, _, _, _, _, _, _, _, HNX.out _ (fun q hq => by injection hq with hq; subst hq; exact HBB.out)⟩, by simp only [sliceLen]; omega⟩
      · have hR := HN.out.1 hle
        have HRR : Hid (R = (le, (wd ws 0).line, pol0)) := hR
        have hle2 : ((le : Int) != 0) = true := by simp; omega
        obtain ⟨b2, off2, he2, _, _, z1, _⟩ := HL4.out.word (wd_at (i := 0) (by omega))
        injection he2 with he2
        injection he2 with e1 e2
        subst e1 e2
        have z1 : w4.cell? ⟨b, off + 1, none⟩ = some (.int .i64 ((wd ws 0).line : Nat)) := by simpa using z1
        have hr0 : (0 : Int) < (r : Int) := by omega
        have hPb := HP4.out.1.blk
        have hBel : Below w.heap.size w w4 := hB1.trans ⟨HP4.out.2.os, HP4.out.2.tape, HP4.out.2.output, HP4.out.2.size, fun k hk => HP4.out.2.block k (by omega) (by omega)⟩
        obtain ⟨hs, hbs⟩ := three_set hPb hBel (Nat.le_refl _) (.slice none 0 0) (.slice none 0 0) (.slice none 0 0)
        obtain ⟨k0, k1, k2, f0, f1, f2⟩ := blk_cells hPb
        have hbne : ¬ b = w.heap.size := by have := HS.out.blk _ rfl; simp only at this; omega
        generalize (wd ws 0).line = ln at *
        clear hR hle hPb hBel
        have hF : finish R = (le, ln, pol0) := by
          rw [HRR.out]; unfold finish; exact if_pos (fun e => by simp only at e; rw [e] at hle2; simp at hle2)
        go_wp2
        exact parse_ret hs hbs (held_none _) hF rfl rfl rfl
    · obtain rfl : n = 0 := by omega
      have hw0 : ws = [] := List.length_eq_zero_iff.1 hl
      have hR : R = (0, 0, p) := by rw [← HS.out.goes, hw0, rowsN_nil]
      obtain ⟨a1, a2, a3, d1, d2, d3, e1, e2, e3, hH⟩ := HS.out.pat.held
      subst e1 e2 e3
      have hPb := HS.out.pat.blk
      have hBel : Below w.heap.size w wr := hB1.trans ⟨HS.out.but.os, HS.out.but.tape, HS.out.but.output, HS.out.but.size, fun k hk => HS.out.but.block k (by omega) (by omega)⟩
      have hC := check_any a1 a2 a3 p.ds.length p.ss.length p.ls.length d1 d2 d3 p wr rfl rfl rfl hH
      obtain ⟨k0, k1, k2, f0, f1, f2⟩ := blk_cells hPb
      have hbz : w.heap.size < wr.heap.size := (Array.getElem?_eq_some_iff.1 hPb).1
      have HB : Hid (wr.heap[w.heap.size]? = some (.cells #[.slice a1 p.ds.length d1, .slice a2 p.ss.length d2, .slice a3 p.ls.length d3] 26 (0, 0)) ∧ Held wr a1 a2 a3 d1 d2 d3 p ∧ R = (0, 0, p)) := ⟨hPb, hH, hR⟩
      have HPA : Hid (PAt wr w.heap.size w1.heap.size (.slice a1 p.ds.length d1) (.slice a2 p.ss.length d2) (.slice a3 p.ls.length d3) p) := HS.out.pat
      clear hPb hH hR hw0 HLW
      obtain ⟨ck, hck⟩ : ∃ ck, checkOf p = ck := ⟨_, rfl⟩
      rw [hck] at hC
      have HCK : Hid (checkOf p = ck) := hck
      clear hck HS
      by_cases hc0 : ck = 0
      · subst hc0
        go_wp2_with fail
        refine hC.mono ?_
        rintro e w5 ⟨rfl, hB5⟩
        have hb5 := (hB5.block _ hbz).trans HB.out.1
        obtain ⟨l0, l1, l2, q0, q1, q2⟩ := blk_cells hb5
        have hF : finish R = (0, 0, p) := by
          rw [HB.out.2.2]; unfold finish; simp only; rw [HCK.out]; rfl
        have hB6 := below_next hBel hB5
        obtain ⟨hs, hbs⟩ := three_set hb5 hB6 (Nat.le_refl _) (.slice a1 p.ds.length d1) (.slice a2 p.ss.length d2) (.slice a3 p.ls.length d3)
        have HHW : Hid (∀ x y z : Value, Held (((w5.setCell ⟨w.heap.size, 0, none⟩ x).setCell ⟨w.heap.size, 1, none⟩ y).setCell ⟨w.heap.size, 2, none⟩ z) a1 a2 a3 d1 d2 d3 p) := fun x y z => held_set (HPA.out.below hB5) x y z
        clear hb5 hC
        go_wp2
        exact parse_ret hs hbs (HHW.out _ _ _) hF rfl rfl rfl
      · have hc1 : ((ck : Int) != 0) = true := by simp; omega
        have hF : finish R = (ck, 0, pol0) := by
          rw [HB.out.2.2]; unfold finish; simp only; rw [HCK.out]; exact if_pos hc0
        clear hc0
        go_wp2_with fail
        refine hC.mono ?_
        rintro e w5 ⟨rfl, hB5⟩
        have hb5 := (hB5.block _ hbz).trans HB.out.1
        obtain ⟨l0, l1, l2, q0, q1, q2⟩ := blk_cells hb5
        have hB6 := below_next hBel hB5
        obtain ⟨hs, hbs⟩ := three_set hb5 hB6 (Nat.le_refl _) (.slice none 0 0) (.slice none 0 0) (.slice none 0 0)
        clear hb5 hC
        go_wp2
        exact parse_ret hs hbs (held_none _) hF rfl rfl rfl

theorem parse_any (s : ByteArray) (w : World) : Calls Tryd.prog 15 #[.string s] w (PSaid w (parseOf s.data.toList)) := by
  by_cases h : (ansOf s.data.toList).e = 0
  · exact parse_ok s h w
  · exact parse_bad s h w

end Go.Proofs.YtmhjoomkeidcaaaDoor
