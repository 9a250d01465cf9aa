/-
  What the document's own answer for reading a text comes to, where the text's ends are a label's.
-/
import Derived.Test.YtmhjoomkeidcaaaDoorNum
import Derived.Test.YtmhjoomkeidcaaaDoorPSpec
import Derived.Test.YtmhjoomkeidcaaaDoorRRow
import Derived.Test.YtmhjoomkeidcaaaDoorParse
import Derived.Deep.RegionHeld3
import Derived.Test.YtmhjoomkeidcaaaDoorRSlot
import Derived.Test.YtmhjoomkeidcaaaDoorRDom
import Derived.Test.YtmhjoomkeidcaaaDoorRLink
import Derived.Test.YtmhjoomkeidcaaaDoorL2RefName
/-
  What the document's Number comes to: the number of a text of one to four digits without noughts ahead; below 0: it is none.
-/
namespace Go.Proofs.YtmhjoomkeidcaaaDoor
open Go.RowKit

theorem hideN {p : Prop} (h : p) : Hid p := h

def numI : Option Nat → Int
  | some n => (n : Int)
  | none => -1

theorem byte_at (T : ByteArray) {k : Nat} (hk : k < T.size) : T.data.toList.drop k = (T[k]'hk) :: T.data.toList.drop (k + 1) := by
  have : k < T.data.toList.length := by rw [Array.length_toList]; exact hk
  rw [List.drop_eq_getElem_cons this]
  rfl
theorem wrapI {n : Int} (h : -9223372036854775808 ≤ n ∧ n ≤ 9223372036854775807) : IntKind.i64.wrap n = n := by rw [IntKind.wrap_i64]; omega
theorem digs_yes {b : UInt8} {t : List UInt8} {n : Nat} (h : 48 ≤ b.toNat ∧ b.toNat ≤ 57) : digs (b :: t) n = digs t (10 * n + (b.toNat - 48)) := if_pos h
theorem digs_no {b : UInt8} {t : List UInt8} {n : Nat} (h : ¬ (48 ≤ b.toNat ∧ b.toNat ≤ 57)) : digs (b :: t) n = none := if_neg h
theorem ten_le {k : Nat} (h : k ≤ 4) : 10 ^ k ≤ 10000 := Nat.pow_le_pow_right (n := 10) (by omega) h

/-- A digit, in the words of the walk: all numbers as letters of their own. -/
theorem digit_facts {b m : Nat} (h : 48 ≤ b ∧ b ≤ 57) (hm : m ≤ 10000) : ∃ V : Int, ((b : Nat) : Int) = V ∧ 48 ≤ V ∧ V ≤ 57 ∧
    (¬ V < 48 ∧ ¬ (57 : Int) < V ∧ IntKind.u8.wrap (V - 48) = V - 48 ∧ wrap64 (V - 48) = V - 48 ∧ IntKind.i64.wrap ((m : Int) * 10) = (m : Int) * 10 ∧ IntKind.i64.wrap ((m : Int) * 10 + (V - 48)) = (m : Int) * 10 + (V - 48)) ∧ (m : Int) * 10 + (V - 48) = ((10 * m + (b - 48) : Nat) : Int) := by
  refine ⟨(b : Int), rfl, by omega, by omega, ⟨by omega, by omega, ?_, ?_, wrapI (by omega), wrapI (by omega)⟩, by omega⟩
  · simp [IntKind.wrap, IntKind.bits, IntKind.signed]; omega
  · unfold wrap64; omega

set_option maxHeartbeats 1000000 in
theorem refNumber_loop (s : ByteArray) (w : World) (h1 : 1 ≤ s.size) (h4 : s.size ≤ 4) (h0 : s.size = 1 ∨ (s[0]'(by omega)).toNat ≠ 48) (hn : numOf s = digs s.data.toList 0) :
    Calls Tryd.prog 63 #[.string s] w fun e w' => e = .returned (.int .i64 (numI (numOf s))) ∧ w' = w := by
  rw [hn]
  have t1 : ¬ (s.size : Int) < 1 := by omega
  have t2 : ¬ (4 : Int) < (s.size : Int) := by omega
  have hz : 0 < s.size := by omega
  obtain ⟨c, hc⟩ : ∃ c : Nat, c = (s[0]'hz).toNat := ⟨_, rfl⟩
  have ec : (s[0]'hz).toNat = c := hc.symm
  have hsp : (¬ (1 : Int) < (s.size : Int)) ∨ ((1 : Int) < (s.size : Int) ∧ ((c : Int) == 48) = false) := by
    by_cases h : (1 : Int) < (s.size : Int)
    · right
      refine ⟨h, beq_eq_false_iff_ne.2 ?_⟩
      rcases h0 with h0 | h0
      · omega
      · rw [ec] at h0; omega
    · exact Or.inl h
  clear h0 hn hc
  rcases hsp with hs1 | ⟨hs1, hs2⟩
  all_goals
    go_enter Tryd.func63, Tryd.ntmps63
    go_wp2
    go_loop [3, 4] (fun n i => ∃ k m : Nat, k ≤ s.size ∧ i = .int .i64 k ∧ n = .int .i64 m ∧ m + 1 ≤ 10 ^ k ∧ digs (s.data.toList.drop k) m = digs s.data.toList 0) (fun _ i => s.size - (intOf i).toNat)
    case atStart => exact ⟨0, 0, Nat.zero_le _, rfl, rfl, by simp, by simp⟩
    case round =>
      obtain ⟨k, m, hk, rfl, rfl, hm, hd⟩ := hrel
      have hp := ten_le (show k ≤ 4 by omega)
      by_cases hlt : k < s.size
      · have hlt' : (k : Int) < (s.size : Int) := by omega
        have hk0 : (0 : Int) ≤ (k : Int) := by omega
        have hdr := byte_at s hlt
        rw [hdr] at hd
        have hb8 : (s[k]'hlt).toNat < 256 := (s[k]'hlt).toNat_lt
        by_cases hdg : 48 ≤ (s[k]'hlt).toNat ∧ (s[k]'hlt).toNat ≤ 57
        · rw [digs_yes hdg] at hd
          obtain ⟨V, hV, hV0, hV9, hD, hM1⟩ := digit_facts hdg (show m ≤ 10000 by omega)
          have hm' : 10 * m + ((s[k]'hlt).toNat - 48) + 1 ≤ 10 ^ (k + 1) := by rw [Nat.pow_succ]; omega
          have HD := hideN hd
          have HM := hideN hm'
          have HX := hideN hM1
          clear hd hm' hdr hm hp hdg hb8 hM1
          generalize (m : Int) = M at *
          obtain ⟨q1, q2, q3, q4, q5, q6⟩ := hD
          go_wp2
          go_round
          case rel => exact ⟨k + 1, _, by omega, by go_num, congrArg _ HX.out, HM.out, HD.out⟩
          case measure => simp [intOf]; omega
        · rw [digs_no hdg] at hd
          have HD := hideN hd
          obtain ⟨V, hV⟩ : ∃ V : Int, (((s[k]'hlt).toNat : Nat) : Int) = V := ⟨_, rfl⟩
          have hout : V < 48 ∨ (¬ V < 48 ∧ (57 : Int) < V) := by omega
          clear hd hdr hm hp hdg hb8
          rcases hout with q1 | ⟨q1, q2⟩
          all_goals
            go_wp2
            go_ret
            exact ⟨by rw [← HD.out]; rfl, rfl⟩
      · have HD := hideN hd
        clear hd hm hp
        go_wp2
        go_ret
        refine ⟨?_, rfl⟩
        rw [← HD.out, List.drop_of_length_le (by rw [Array.length_toList]; exact Nat.not_lt.1 hlt)]
        rfl

theorem head_at (s : ByteArray) (h : 0 < s.size) : s.data.toList.head? = some (s[0]'h) := by
  have := byte_at s h
  rw [List.drop_zero] at this
  rw [this]
  rfl

set_option maxHeartbeats 1000000 in
theorem refNumber_any (s : ByteArray) (w : World) : Calls Tryd.prog 63 #[.string s] w fun e w' => e = .returned (.int .i64 (numI (numOf s))) ∧ w' = w := by
  have hl : s.data.toList.length = s.size := Array.length_toList
  by_cases h1 : s.size < 1
  · have e : numOf s = none := by unfold numOf formB; rw [hl]; rw [if_neg (by simp; omega)]
    rw [e]
    have t1 : (s.size : Int) < 1 := by omega
    go_enter Tryd.func63, Tryd.ntmps63
    go_wp2
    go_ret
    exact ⟨rfl, rfl⟩
  · by_cases h4 : 4 < s.size
    · have e : numOf s = none := by unfold numOf formB; rw [hl]; rw [if_neg (by simp; omega)]
      rw [e]
      have t1 : ¬ (s.size : Int) < 1 := by omega
      have t2 : (4 : Int) < (s.size : Int) := by omega
      go_enter Tryd.func63, Tryd.ntmps63
      go_wp2
      go_ret
      exact ⟨rfl, rfl⟩
    · have hz : 0 < s.size := by omega
      have hh := head_at s hz
      by_cases h0 : 1 < s.size ∧ (s[0]'hz).toNat = 48
      · have h48 : (s[0]'hz) = 48 := UInt8.toNat_inj.1 h0.2
        have e : numOf s = none := by unfold numOf formB; rw [hl, hh, h48]; rw [if_neg (by simp; omega)]
        rw [e]
        have t1 : ¬ (s.size : Int) < 1 := by omega
        have t2 : ¬ (4 : Int) < (s.size : Int) := by omega
        have t3 : (1 : Int) < (s.size : Int) := by omega
        obtain ⟨c, hc⟩ : ∃ c : Nat, (s[0]'hz).toNat = c := ⟨_, rfl⟩
        have t4 : ((c : Int) == 48) = true := by rw [← hc, h0.2]; rfl
        clear h0 h48 e hh
        go_enter Tryd.func63, Tryd.ntmps63
        go_wp2
        go_ret
        exact ⟨rfl, rfl⟩
      · have e : numOf s = digs s.data.toList 0 := by
          unfold numOf formB
          rw [hl, hh, if_pos]
          simp only [decide_eq_true_eq]
          refine ⟨by omega, by omega, fun ⟨q1, q2⟩ => h0 ⟨q1, ?_⟩⟩
          rw [Option.some.inj q2]
          rfl
        exact refNumber_loop s w (by omega) (by omega) (by
          by_cases h : s.size = 1
          · exact Or.inl h
          · exact Or.inr (fun q => h0 ⟨by omega, q⟩)) e

end Go.Proofs.YtmhjoomkeidcaaaDoor

/-
  What the document's 'one' comes to where a line is of no kind: the policy as it was, and the error's number.
-/
namespace Go.Proofs.YtmhjoomkeidcaaaDoor
open Go.RowKit L2

/-- What is answered: a policy, and the error's number. -/
def OSaid (w : World) (R : Nat × Pol) (e : Ending) (w' : World) : Prop :=
  ∃ a1 a2 a3 c1 c2 c3, e = .returned (.tuple #[.agg #[.slice a1 R.2.ds.length c1, .slice a2 R.2.ss.length c2, .slice a3 R.2.ls.length c3], .int .i64 (R.1 : Nat)]) ∧ Held w' a1 a2 a3 c1 c2 c3 R.2 ∧ Below w.heap.size w w'

theorem kwDomain_list : kwDomain.toList = [100, 111, 109, 97, 105, 110] := by simp [kwDomain]
theorem kwSlot_list : kwSlot.toList = [115, 108, 111, 116] := by simp [kwSlot]
theorem kwCell_list : kwCell.toList = [99, 101, 108, 108] := by simp [kwCell]
theorem kwPump_list : kwPump.toList = [112, 117, 109, 112] := by simp [kwPump]
/-- Which word opens a line, in the walk's spelling. -/
theorem word_kinds0 (x : ByteArray) : (x = kwDomain ∧ (x.toList == kwDomain.toList) = true) ∨ ((x.toList == kwDomain.toList) = false ∧ x = kwSlot ∧ (x.toList == kwSlot.toList) = true) ∨ ((x.toList == kwDomain.toList) = false ∧ (x.toList == kwSlot.toList) = false ∧ x = kwCell ∧ (x.toList == kwCell.toList) = true)
    ∨ ((x.toList == kwDomain.toList) = false ∧ (x.toList == kwSlot.toList) = false ∧ (x.toList == kwCell.toList) = false ∧ x = kwPump ∧ (x.toList == kwPump.toList) = true)
    ∨ ((x.toList == kwDomain.toList) = false ∧ (x.toList == kwSlot.toList) = false ∧ (x.toList == kwCell.toList) = false ∧ (x.toList == kwPump.toList) = false) := by
  simp only [list_eqb]
  by_cases h1 : x = kwDomain
  · left; exact ⟨h1, decide_eq_true h1⟩
  · by_cases h2 : x = kwSlot
    · right; left; exact ⟨decide_eq_false h1, h2, decide_eq_true h2⟩
    · by_cases h3 : x = kwCell
      · right; right; left; exact ⟨decide_eq_false h1, decide_eq_false h2, h3, decide_eq_true h3⟩
      · by_cases h4 : x = kwPump
        · right; right; right; left; exact ⟨decide_eq_false h1, decide_eq_false h2, decide_eq_false h3, h4, decide_eq_true h4⟩
        · right; right; right; right; exact ⟨decide_eq_false h1, decide_eq_false h2, decide_eq_false h3, decide_eq_false h4⟩

theorem word_kinds (x : ByteArray) : (x = kwDomain ∧ (x.toList == [100, 111, 109, 97, 105, 110]) = true) ∨ ((x.toList == [100, 111, 109, 97, 105, 110]) = false ∧ x = kwSlot ∧ (x.toList == [115, 108, 111, 116]) = true) ∨ ((x.toList == [100, 111, 109, 97, 105, 110]) = false ∧ (x.toList == [115, 108, 111, 116]) = false ∧ x = kwCell ∧ (x.toList == [99, 101, 108, 108]) = true)
    ∨ ((x.toList == [100, 111, 109, 97, 105, 110]) = false ∧ (x.toList == [115, 108, 111, 116]) = false ∧ (x.toList == [99, 101, 108, 108]) = false ∧ x = kwPump ∧ (x.toList == [112, 117, 109, 112]) = true)
    ∨ ((x.toList == [100, 111, 109, 97, 105, 110]) = false ∧ (x.toList == [115, 108, 111, 116]) = false ∧ (x.toList == [99, 101, 108, 108]) = false ∧ (x.toList == [112, 117, 109, 112]) = false) := by
  have h := word_kinds0 x
  rw [kwDomain_list, kwSlot_list, kwCell_list, kwPump_list] at h
  exact h

set_option maxHeartbeats 2000000 in
set_option maxRecDepth 100000 in
theorem one_wrong (a1 a2 a3 : Option Addr) (c1 c2 c3 rb ro n cap : Nat) (p : Pol) (x : ByteArray) (w : World) (hh : Held w a1 a2 a3 c1 c2 c3 p) (hn : 1 ≤ n) (hrb : rb < w.heap.size) (h0 : w.cell? ⟨rb, ro, none⟩ = some (.string x))
    (hbad : (decide (x = kwDomain) && decide (n = 6)) = false ∧ (decide (x = kwSlot) && decide (n = 3)) = false ∧ (decide (x = kwCell) && decide (n = 4)) = false ∧ (decide (x = kwPump) && decide (n = 4)) = false) :
    Calls Tryd.prog 36 #[.agg #[.slice a1 p.ds.length c1, .slice a2 p.ss.length c2, .slice a3 p.ls.length c3], .slice (some ⟨rb, ro, none⟩) n cap] w (OSaid w (2, p)) := by
  have HH : Hid (Held w a1 a2 a3 c1 c2 c3 p) := hh
  obtain ⟨b1, b2, b3, b4⟩ := hbad
  have hn0 : (0 : Int) < (n : Int) := by omega
  have hB : Below w.heap.size w ((w.alloc (.cells #[.slice a1 p.ds.length c1, .slice a2 p.ss.length c2, .slice a3 p.ls.length c3] 26)).alloc (.cells #[.slice a1 p.ds.length c1, .slice a2 p.ss.length c2, .slice a3 p.ls.length c3] 26)) := ((Below.refl _ _).alloc (Nat.le_refl _) _).alloc (by simp) _
  have hz : rb ≠ w.heap.size := by omega
  have hz' : rb ≠ w.heap.size + 1 := by omega
  have hn1 : ((n : Int) != 0) = true := by simp; omega
  rcases word_kinds x with ⟨e, k1⟩ | ⟨k1, e, k2⟩ | ⟨k1, k2, e, k3⟩ | ⟨k1, k2, k3, e, k4⟩ | ⟨k1, k2, k3, k4⟩
  · have hne : ((n : Int) != 6) = true := by rw [decide_eq_true e] at b1; simp at b1; simp; omega
    clear hh b1 b2 b3 b4 e
    go_enter Tryd.func36, Tryd.ntmps36
    go_wp2
    exact bodyPost_ret (v := .tuple #[.agg #[.slice a1 p.ds.length c1, .slice a2 p.ss.length c2, .slice a3 p.ls.length c3], .int .i64 2]) (by simp [results, Tryd.f36, go_sem]) rfl ⟨_, _, _, _, _, _, rfl, HH.out.below hB, hB⟩
  · have hne : ((n : Int) != 3) = true := by rw [decide_eq_true e] at b2; simp at b2; simp; omega
    clear hh b1 b2 b3 b4 e
    go_enter Tryd.func36, Tryd.ntmps36
    go_wp2
    exact bodyPost_ret (v := .tuple #[.agg #[.slice a1 p.ds.length c1, .slice a2 p.ss.length c2, .slice a3 p.ls.length c3], .int .i64 2]) (by simp [results, Tryd.f36, go_sem]) rfl ⟨_, _, _, _, _, _, rfl, HH.out.below hB, hB⟩
  · have hne : ((n : Int) != 4) = true := by rw [decide_eq_true e] at b3; simp at b3; simp; omega
    clear hh b1 b2 b3 b4 e
    go_enter Tryd.func36, Tryd.ntmps36
    go_wp2
    exact bodyPost_ret (v := .tuple #[.agg #[.slice a1 p.ds.length c1, .slice a2 p.ss.length c2, .slice a3 p.ls.length c3], .int .i64 2]) (by simp [results, Tryd.f36, go_sem]) rfl ⟨_, _, _, _, _, _, rfl, HH.out.below hB, hB⟩
  · have hne : ((n : Int) != 4) = true := by rw [decide_eq_true e] at b4; simp at b4; simp; omega
    clear hh b1 b2 b3 b4 e
    go_enter Tryd.func36, Tryd.ntmps36
    go_wp2
    exact bodyPost_ret (v := .tuple #[.agg #[.slice a1 p.ds.length c1, .slice a2 p.ss.length c2, .slice a3 p.ls.length c3], .int .i64 2]) (by simp [results, Tryd.f36, go_sem]) rfl ⟨_, _, _, _, _, _, rfl, HH.out.below hB, hB⟩
  · clear hh b1 b2 b3 b4
    go_enter Tryd.func36, Tryd.ntmps36
    go_wp2
    exact bodyPost_ret (v := .tuple #[.agg #[.slice a1 p.ds.length c1, .slice a2 p.ss.length c2, .slice a3 p.ls.length c3], .int .i64 2]) (by simp [results, Tryd.f36, go_sem]) rfl ⟨_, _, _, _, _, _, rfl, HH.out.below hB, hB⟩

end Go.Proofs.YtmhjoomkeidcaaaDoor

/-
  Plain facts for the document's Parse, which gathers a line's words one by one.
-/
namespace Go.Proofs.YtmhjoomkeidcaaaDoor
open Go.RowKit L2
open L3 (Wd cellsW ansOf)

theorem runLen_is (L : Nat) : ∀ (t : List Wd) (m : Nat), m ≤ t.length → (∀ j, j < m → (wd t j).line = L) → (m = t.length ∨ (wd t m).line ≠ L) → runLen L t = m
  | [], m, h, _, _ => by simp at h; subst h; rfl
  | x :: t, 0, _, _, h => by
    rcases h with h | h
    · simp at h
    · have : x.line ≠ L := h
      simp [runLen, this]
  | x :: t, m + 1, h1, h2, h3 => by
    have hx : x.line = L := h2 0 (by omega)
    have ih := runLen_is L t m (by simpa using h1) (fun j hj => h2 (j + 1) (by omega)) (by
      rcases h3 with h3 | h3
      · left; simpa using h3
      · right; exact h3)
    simp only [runLen, hx, if_true, ih]; omega
theorem wd_drop (ws : List Wd) (st j : Nat) : wd (ws.drop st) j = wd ws (st + j) := by simp [wd, List.getD, List.getElem?_drop]
theorem drop_cons {ws : List Wd} {st : Nat} (h : st < ws.length) : ws.drop st = wd ws st :: ws.drop (st + 1) := by
  rw [List.drop_eq_getElem_cons h]
  congr 1
  simp [wd, h]
theorem rowLen_is {ws : List Wd} {st i : Nat} (h1 : st ≤ i) (h2 : i < ws.length) (hl : ∀ j, st ≤ j → j ≤ i → (wd ws j).line = (wd ws st).line) (he : i + 1 = ws.length ∨ (wd ws (i + 1)).line ≠ (wd ws i).line) :
    rowLen (ws.drop st) = i + 1 - st := by
  rw [drop_cons (by omega)]
  show 1 + runLen (wd ws st).line (ws.drop (st + 1)) = i + 1 - st
  rw [runLen_is _ _ (i - st) (by rw [List.length_drop]; omega) (fun j hj => by rw [wd_drop]; exact hl _ (by omega) (by omega)) (by
    rcases he with he | he
    · left; rw [List.length_drop]; omega
    · right
      rw [wd_drop, show st + 1 + (i - st) = i + 1 by omega]
      rw [← hl i h1 (Nat.le_refl _)]
      exact he)]
  omega
/-- The texts of the words from st on, before i. -/
def rowAt (ws : List Wd) (st i : Nat) : List ByteArray := txt ((ws.drop st).take (i - st))
theorem rowAt_start (ws : List Wd) (st : Nat) : rowAt ws st st = [] := by simp [rowAt, txt]
theorem rowAt_len {ws : List Wd} {st i : Nat} (h : i ≤ ws.length) : (rowAt ws st i).length = i - st := by
  simp [rowAt, txt]; omega
theorem rowAt_next {ws : List Wd} {st i : Nat} (h1 : st ≤ i) (h2 : i < ws.length) : rowAt ws st (i + 1) = rowAt ws st i ++ [⟨(wd ws i).text.toArray⟩] := by
  unfold rowAt
  rw [show i + 1 - st = (i - st) + 1 by omega, txt_next (by rw [List.length_drop]; omega), wd_drop, show st + (i - st) = i by omega]

/-- What the check's callers ask of a policy's domains. -/
def Fine (p : Pol) : Prop := ∀ d ∈ p.ds, In64 d.cat ∧ d.name.size ≤ 9223372036854775807
theorem fine0 : Fine pol0 := fun d hd => by cases hd
theorem letters_many : ∀ (n : Nat) (l : List UInt8) (k : Nat), l.length ≤ n → letters l = some k → l.length ≤ 2 * k
  | 0, l, k, h, _ => by omega
  | n + 1, [], k, _, _ => by simp
  | n + 1, [a], k, _, h => by
    unfold letters at h
    split at h
    · simp at h; subst h; simp
    · cases h
  | n + 1, a :: b :: rest, k, hn, h => by
    unfold letters at h
    split at h
    · cases hb : letters (b :: rest) with
      | none => rw [hb] at h; cases h
      | some j =>
        rw [hb] at h
        simp at h
        subst h
        have := letters_many n (b :: rest) j (by simp at hn ⊢; omega) hb
        simp at this ⊢
        omega
    · split at h
      · cases hb : letters rest with
        | none => rw [hb] at h; cases h
        | some j =>
          rw [hb] at h
          simp at h
          subst h
          have := letters_many n rest j (by simp at hn; omega) hb
          simp at this ⊢
          omega
      · cases h
theorem nameB_size {s : ByteArray} (h : nameB s = true) : s.size ≤ 9223372036854775807 := by
  unfold nameB at h
  have hl : s.data.toList.length = s.size := Array.length_toList
  cases hb : letters s.data.toList with
  | none => rw [hb] at h; cases h
  | some k =>
    rw [hb] at h
    simp [nameOK] at h
    have := letters_many _ _ k (Nat.le_refl _) hb
    omega
theorem fine_line {p : Pol} (h : Fine p) (row : List ByteArray) : Fine (lineOf p row).2 := by
  unfold lineOf
  split
  · split
    · unfold domLine
      split
      · exact h
      · rename_i hnm
        split
        · exact h
        · rename_i l k hr
          split
          · intro d hd
            rcases List.mem_append.1 hd with hd | hd
            · exact h d hd
            · simp at hd
              subst hd
              have hk := (refRead_text _ _ _ hr).2.1
              simp at hnm
              exact ⟨⟨by show (-9223372036854775808 : Int) ≤ (k : Int); omega, by show (k : Int) < 9223372036854775808; omega⟩, nameB_size hnm.1⟩
          · exact h
    · exact h
  · split
    · unfold slotLine
      split
      · exact h
      · split <;> exact h
    · exact h
  · split
    · unfold linkLine
      split
      · exact h
      · split <;> exact h
    · split
      · unfold linkLine
        split
        · exact h
        · split <;> exact h
      · exact h
  · exact h

end Go.Proofs.YtmhjoomkeidcaaaDoor

/-
  A policy's lists beside the box that holds them, where the box is laid anew; and a row of texts.
-/
namespace Go.Proofs.YtmhjoomkeidcaaaDoor
open Go.RowKit L2
open L3 (Wd cellsW ansOf)

/-- A value that is no list. -/
def noList : Value → Bool
  | .slice _ _ _ => false
  | _ => true
theorem noList_D (ds : List Dm) : ∀ v ∈ cellsD ds, noList v = true := by
  intro v hv
  simp only [cellsD, List.mem_flatMap] at hv
  obtain ⟨d, _, hd⟩ := hv
  simp [cD] at hd
  rcases hd with rfl | rfl | rfl | rfl | rfl | rfl <;> rfl
theorem noList_S (ss : List Sl) : ∀ v ∈ cellsS ss, noList v = true := by
  intro v hv
  simp only [cellsS, List.mem_flatMap] at hv
  obtain ⟨d, _, hd⟩ := hv
  simp [cS] at hd
  rcases hd with rfl | rfl <;> rfl
theorem noList_L (ls : List Lk) : ∀ v ∈ cellsL ls, noList v = true := by
  intro v hv
  simp only [cellsL, List.mem_flatMap] at hv
  obtain ⟨d, _, hd⟩ := hv
  simp [cL] at hd
  rcases hd with rfl | rfl | rfl | rfl <;> rfl

/-- A box of three lists. -/
def Box3 (w : World) (B : Nat) : Prop := ∃ x y z, w.heap[B]? = some (.cells #[x, y, z] 26 (0, 0)) ∧ noList x = false ∧ noList y = false ∧ noList z = false
theorem lies_box {w : World} {B : Nat} {ad : Option Addr} {xs : List Value} (h : Lies w ad xs) (hB : Box3 w B) (hx : ∀ v ∈ xs, noList v = true) (i : Nat) (v : Value) : Lies (w.setCell ⟨B, i, none⟩ v) ad xs := by
  rcases h with h | ⟨b, off, h1, h2, h3⟩
  · exact Or.inl h
  · refine Or.inr ⟨b, off, h1, by simpa using h2, fun j u hj => ?_⟩
    have hc := h3 j u hj
    by_cases e : b = B
    · exfalso
      subst e
      obtain ⟨x, y, z, hh, n1, n2, n3⟩ := hB
      have hn := hx u (List.mem_of_getElem? hj)
      rw [Lib.cell_of_heap hh] at hc
      match hk : off + j, hc with
      | 0, hc => simp at hc; subst hc; rw [n1] at hn; cases hn
      | 1, hc => simp at hc; subst hc; rw [n2] at hn; cases hn
      | 2, hc => simp at hc; subst hc; rw [n3] at hn; cases hn
      | k + 3, hc => simp at hc
    · rw [World.cell?_of_block (w := w) (a := ⟨b, off + j, none⟩) (Below.heap_setCell _ _ _ _ e)]
      exact hc
theorem box3_set {w : World} {B : Nat} (h : Box3 w B) (i : Nat) (hi : i < 3) (a : Option Addr) (n c : Nat) : Box3 (w.setCell ⟨B, i, none⟩ (.slice a n c)) B := by
  obtain ⟨x, y, z, hh, n1, n2, n3⟩ := h
  have := Lib.heap_setCell_same hh (i := i) (.slice a n c)
  match i, hi with
  | 0, _ => exact ⟨_, _, _, this, rfl, n2, n3⟩
  | 1, _ => exact ⟨_, _, _, this, n1, rfl, n3⟩
  | 2, _ => exact ⟨_, _, _, this, n1, n2, rfl⟩
/-- The lists lie as they lay where the box is laid anew. -/
theorem held_box {w : World} {B : Nat} {a1 a2 a3 b1 b2 b3 : Option Addr} {c1 c2 c3 n1 n2 n3 d1 d2 d3 : Nat} {p : Pol} (h : Held w a1 a2 a3 c1 c2 c3 p) (hB : Box3 w B) :
    Held (((w.setCell ⟨B, 0, none⟩ (.slice b1 n1 d1)).setCell ⟨B, 1, none⟩ (.slice b2 n2 d2)).setCell ⟨B, 2, none⟩ (.slice b3 n3 d3)) a1 a2 a3 c1 c2 c3 p := by
  have B1 := box3_set hB 0 (by omega) b1 n1 d1
  have B2 := box3_set B1 1 (by omega) b2 n2 d2
  exact ⟨lies_box (lies_box (lies_box h.d hB (noList_D _) _ _) B1 (noList_D _) _ _) B2 (noList_D _) _ _, lies_box (lies_box (lies_box h.s hB (noList_S _) _ _) B1 (noList_S _) _ _) B2 (noList_S _) _ _, lies_box (lies_box (lies_box h.l hB (noList_L _) _ _) B1 (noList_L _) _ _) B2 (noList_L _) _ _, h.dc, h.sc, h.lc⟩

def cellsT (l : List ByteArray) : List Value := l.map Value.string
theorem cellsT_snoc (l : List ByteArray) (x : ByteArray) : cellsT (l ++ [x]) = cellsT l ++ [.string x] := by simp [cellsT]
theorem cellsT_len (l : List ByteArray) : (cellsT l).length = l.length := by simp [cellsT]

/-- What 'one' comes to, of any line. -/
def OneSays : Prop := ∀ (a1 a2 a3 : Option Addr) (c1 c2 c3 g n cap : Nat) (p : Pol) (row : List ByteArray) (W : World), Held W a1 a2 a3 c1 c2 c3 p → p.size ≤ 5000 → row.length = n → 1 ≤ n → n ≤ 5000 → n ≤ cap → g < W.heap.size →
  (∀ i, i < n → W.cell? ⟨g, i, none⟩ = some (.string (row.getD i ⟨#[]⟩))) →
  Calls Tryd.prog 36 #[.agg #[.slice a1 p.ds.length c1, .slice a2 p.ss.length c2, .slice a3 p.ls.length c3], .slice (some ⟨g, 0, none⟩) n cap] W (OSaid W (lineOf p row))

end Go.Proofs.YtmhjoomkeidcaaaDoor

/-
  A region that draws its order and ends in one store that waits for all else: behind that store nothing is asked of the world.
-/
namespace Go.Proofs.YtmhjoomkeidcaaaDoor
open Go

section
variable {P : Program} {ops : Array Oper} {Q : Exit → Act → World → Prop} {md : Region.Mode} {S : World → Prop}

/-- Whatever order is picked from here on, and S holds behind each operation but number L. -/
def wpAnyL (P : Program) (md : Region.Mode) (ops : Array Oper) (Q : Exit → Act → World → Prop) (S : World → Prop) (L : Nat) : Nat → Array Bool → Act → World → Prop
  | 0, listed, a, w => Region.ready md ops listed = [] ∧ Q .normal a w
  | fuel + 1, listed, a, w =>
    (Region.ready md ops listed = [] → Q .normal a w) ∧
    ∀ i ∈ Region.ready md ops listed, wpOp P ops Q i (fun a' w' => (i ≠ L → S w') ∧ wpAnyL P md ops Q S L fuel (listed.setIfInBounds i true) a' w') a w

theorem wpAny_of_last {L : Nat} : ∀ (fuel : Nat) (listed : Array Bool) (a : Act) (w : World), wpAnyL P md ops Q S L fuel listed a w → wpAny P md ops Q fuel listed a w
  | 0, _, _, _, h => h
  | fuel + 1, _, _, _, h => ⟨h.1, fun i hi => wpOp_mono (fun a' w' h' => wpAny_of_last fuel _ a' w' h'.2) (h.2 i hi)⟩

def waits (md : Region.Mode) (ops : Array Oper) (L i : Nat) : Bool := match ops[L]? with
  | some o => o.after.any fun e => Region.binds md e && e.on == i
  | none => false

theorem wpAnyL_first {L i : Nat} {oi : Oper} {v : Value} (hi : ops[i]? = some oi) (hsel : ∀ (j : Nat) (o : Oper) cs b, ops[j]? = some o → o.op ≠ .select cs b)
    (hQ : ∀ c a w, Q (.panic c) (a.put oi.dst v) w → Q (.panic c) a w) (hL : waits md ops L i = true) :
    ∀ (fuel : Nat) (listed : Array Bool) (a : Act) (w : World),
      (∀ j oj, ops[j]? = some oj → j ≠ i → listed.getD j true = false → (∀ e ∈ oj.after, Region.binds md e = true → e.on ≠ i) → oi.apart ops oj = true) →
      i ∈ Region.ready md ops listed → YieldsIf P ops S oi v a → S w →
      wpAnyL P md ops Q S L fuel (listed.setIfInBounds i true) (a.put oi.dst v) w → wpAnyL P md ops Q S L (fuel + 1) listed a w := by
  intro fuel
  induction fuel with
  | zero =>
    intro listed a w _ hr hy hS H
    refine ⟨fun h => (by rw [h] at hr; cases hr), fun j hj => ?_⟩
    by_cases hji : j = i
    · subst hji; exact hy.wpOp hi hS ⟨fun _ => hS, H⟩
    · have := ready_mono hj hji
      rw [H.1] at this
      cases this
  | succ fuel ih =>
    intro listed a w hfree hr hy hS H
    refine ⟨fun h => (by rw [h] at hr; cases hr), fun j hj => ?_⟩
    by_cases hji : j = i
    · subst hji; exact hy.wpOp hi hS ⟨fun _ => hS, H⟩
    · have h1 := H.2 j (ready_mono hj hji)
      obtain ⟨hjun, oj, hoj, hall⟩ := mem_ready.1 hj
      have hnot : ∀ e ∈ oj.after, Region.binds md e = true → e.on ≠ i := fun e he hb heq => by
        have h1 := hall e he hb
        have h0 := (mem_ready.1 hr).1
        rw [heq] at h1
        rcases Nat.lt_or_ge i listed.size with h' | h'
        · simp [h'] at h0 h1; rw [h0] at h1; cases h1
        · simp [Array.getElem?_eq_none h'] at h1
      have hjL : j ≠ L := fun e => by
        subst e
        unfold waits at hL
        rw [hoj] at hL
        simp only [Array.any_eq_true'] at hL
        obtain ⟨x, hx, hb⟩ := hL
        simp only [Bool.and_eq_true, beq_iff_eq] at hb
        exact hnot x hx hb.1 hb.2
      have h2 := wpOp_putIf hoj (hfree j oj hoj hji hjun hnot) (fun cs b => hsel i oi cs b hi) (fun cs b => hsel j oj cs b hoj) hQ hy h1
      have hfree' : ∀ k ok, ops[k]? = some ok → k ≠ i → (listed.setIfInBounds j true).getD k true = false →
          (∀ e ∈ ok.after, Region.binds md e = true → e.on ≠ i) → oi.apart ops ok = true := fun k ok hk hki hun hno => by
        refine hfree k ok hk hki ?_ hno
        by_cases hjk : j = k
        · subst hjk; exact hjun
        · rw [getD_set_ne true hjk] at hun; exact hun
      refine wpOp_mono (fun a' w' h3 => ⟨h3.2.1, ih (listed.setIfInBounds j true) a' w' hfree' (ready_mono hr (Ne.symm hji)) h3.1 (h3.2.1 hjL) ?_⟩) h2
      rw [Array.setIfInBounds_comm _ _ hji]
      exact h3.2.2

/-- Take number i first. -/
theorem wpAnyL_take {L i : Nat} {oi : Oper} {v : Value} {fuel : Nat} {listed : Array Bool} {a : Act} {w : World} (hi : ops[i]? = some oi)
    (hs : Region.noSelect ops = true) (hf : Region.free md ops listed i = true) (hr : (Region.ready md ops listed).contains i = true) (hL : waits md ops L i = true)
    (hQ : ∀ c a w, Q (.panic c) (a.put oi.dst v) w → Q (.panic c) a w) (hy : YieldsIf P ops S oi v a) (hS : S w)
    (h : wpAnyL P md ops Q S L fuel (listed.setIfInBounds i true) (a.put oi.dst v) w) : wpAnyL P md ops Q S L (fuel + 1) listed a w :=
  wpAnyL_first hi (Region.noSelect_spec hs) hQ hL fuel listed a w (Region.free_spec hi hf) (by simpa using hr) hy hS h

theorem wpAnyL_done {L : Nat} {listed : Array Bool} {a : Act} {w : World} (hr : Region.ready md ops listed = []) (h : Q .normal a w) :
    ∀ fuel, wpAnyL P md ops Q S L fuel listed a w
  | 0 => ⟨hr, h⟩
  | _ + 1 => ⟨fun _ => h, by rw [hr]; simp⟩

def AllReadyL (P : Program) (md : Region.Mode) (ops : Array Oper) (Q : Exit → Act → World → Prop) (S : World → Prop) (L : Nat) (fuel : Nat) (listed : Array Bool) (a : Act) (w : World) (rs : List Nat) : Prop :=
  ∀ i ∈ rs, wpOp P ops Q i (fun a' w' => (i ≠ L → S w') ∧ wpAnyL P md ops Q S L fuel (listed.setIfInBounds i true) a' w') a w
theorem AllReadyL.nil {L fuel : Nat} {listed : Array Bool} {a : Act} {w : World} : AllReadyL P md ops Q S L fuel listed a w [] := fun _ h => by cases h
theorem AllReadyL.cons {L fuel : Nat} {listed : Array Bool} {a : Act} {w : World} {i : Nat} {o : Oper} {rs : List Nat} (ho : ops[i]? = some o)
    (h : ∀ K' : Act → World → Prop, Shut (∀ a w, S w → (S w → wpAnyL P md ops Q S L fuel (listed.setIfInBounds i true) a w) → K' a w) → if Region.wanted o (yielded ops a.tmps) = true then Oper.wp P o a w K' Q else K' (a.put o.dst undef) w)
    (hs : AllReadyL P md ops Q S L fuel listed a w rs) : AllReadyL P md ops Q S L fuel listed a w (i :: rs) := fun j hj => by
  rcases List.mem_cons.1 hj with rfl | hj
  · exact wpOp_step ho (fun K' hK => h K' (fun a w hS hW => hK a w ⟨fun _ => hS, hW hS⟩))
  · exact hs j hj
/-- The last one, alone. -/
theorem AllReadyL.last {L fuel : Nat} {listed : Array Bool} {a : Act} {w : World} {o : Oper} (ho : ops[L]? = some o)
    (h : ∀ K' : Act → World → Prop, Shut (∀ a w, wpAnyL P md ops Q S L fuel (listed.setIfInBounds L true) a w → K' a w) → if Region.wanted o (yielded ops a.tmps) = true then Oper.wp P o a w K' Q else K' (a.put o.dst undef) w) :
    AllReadyL P md ops Q S L fuel listed a w [L] := fun j hj => by
  obtain rfl : j = L := by simpa using hj
  exact wpOp_step ho (fun K' hK => h K' (fun a w hW => hK a w ⟨fun hne => absurd rfl hne, hW⟩))
theorem wpAnyL_ready {L : Nat} {rs : List Nat} {fuel : Nat} {listed : Array Bool} {a : Act} {w : World} (hr : Region.ready md ops listed = rs) (hne : rs ≠ [])
    (h : AllReadyL P md ops Q S L fuel listed a w rs) : wpAnyL P md ops Q S L (fuel + 1) listed a w := ⟨fun h0 => absurd (hr ▸ h0) hne, hr ▸ h⟩
theorem wp_region_last_drew {L id : Nat} {a : Act} {w : World} (hm : P.follows .mixedOrders = true) (hS : S w.drew)
    (h : S w.drew → wpAnyL P .any ops Q S L ops.size (Array.replicate ops.size false) a w.drew) : (Code.region id ops true).wp P Q a w :=
  wp_region_any hm (wpAny_of_last _ _ _ _ (h hS))
end

end Go.Proofs.YtmhjoomkeidcaaaDoor

/-
  What the good lines of the document's 'one' share: appends in a region that draws its order, and the boxes of the call.
-/
namespace Go.Proofs.YtmhjoomkeidcaaaDoor
open Go.RowKit L2
attribute [local go_sem ↓] Go.wp_at_zero Go.wp_at_succ

theorem info3 : (Tryd.prog.info? 3).map (fun i => (i.zero, i.size, i.bytes)) = some (some (.int .i64 0), 1, 8) := by kernel_rfl
theorem hid {p : Prop} (h : p) : Hid p := h
theorem cell_off (W : World) {b c i j : Nat} (v : Value) (h : b ≠ c) : (W.setCell ⟨c, i, none⟩ v).cell? ⟨b, j, none⟩ = W.cell? ⟨b, j, none⟩ :=
  World.cell?_of_block (w := W) (a := ⟨b, j, none⟩) (Below.heap_setCell _ _ _ _ h)
theorem heap_off (W : World) {b c i : Nat} (v : Value) (h : b ≠ c) : (W.setCell ⟨c, i, none⟩ v).heap[b]? = W.heap[b]? := Below.heap_setCell _ _ _ _ h
theorem new_three (w : World) (x y z : Obj) : (((w.alloc x).alloc y).alloc z).heap[w.heap.size]? = some x ∧ (((w.alloc x).alloc y).alloc z).heap[w.heap.size + 1]? = some y ∧ (((w.alloc x).alloc y).alloc z).heap[w.heap.size + 2]? = some z := by
  have h3 := alloc_at ((w.alloc x).alloc y) z
  rw [show ((w.alloc x).alloc y).heap.size = w.heap.size + 2 by simp] at h3
  have h2 := alloc_at (w.alloc x) y
  rw [show (w.alloc x).heap.size = w.heap.size + 1 by simp] at h2
  exact ⟨((((Below.refl (w.heap.size + 1) (w.alloc x)).alloc (by simp) y).alloc (by simp) z).block w.heap.size (by omega)).trans (alloc_at w x),
    (((Below.refl (w.heap.size + 2) ((w.alloc x).alloc y)).alloc (by simp) z).block (w.heap.size + 1) (by omega)).trans h2, h3⟩
theorem off_both {W : World} {b c r i j k : Nat} {v x y : Value} (h1 : b ≠ c) (h2 : r ≠ c) (h : W.cell? ⟨b, j, none⟩ = some x ∧ W.cell? ⟨r, k, none⟩ = some y) : (W.setCell ⟨c, i, none⟩ v).cell? ⟨b, j, none⟩ = some x ∧ (W.setCell ⟨c, i, none⟩ v).cell? ⟨r, k, none⟩ = some y :=
  ⟨(cell_off W v h1).trans h.1, (cell_off W v h2).trans h.2⟩
theorem slice_own {W : World} {base e size : Nat} {v : Value} {n : Nat} {xs : List Value} (h : W.ownsRow base e size v n xs) : ∃ a c, v = .slice a n c ∧ n ≤ c := by
  rcases h.2 with ⟨rfl, rfl⟩ | ⟨g, cap, cur, rfl, _, _, hc, _⟩
  · exact ⟨none, 0, rfl, Nat.le_refl _⟩
  · exact ⟨_, _, rfl, hc⟩

theorem run_none {P : Program} (t e : TypeId) (i : TypeInfo) (hu : P.underlying t = some (.slice e)) (hi : P.info? e = some i) (a : Option Addr) (n c c2 : Nat) (hnc : n ≤ c) (ty : TypeId) (w : World) : (Builtin.append_ #[t, t] ty #[.slice a n c, .slice none 0 c2]).run P w = .ok (.slice a n c) w := by
  cases a <;> simp [Builtin.append_, go_sem, hnc, run_underlying hu, sizeOf, typeInfo, hi]

section
variable {P : Program} (w : World)
/-- 'append' of any row that can be read onto one that the call owns, as one step of a region that draws its order. -/
theorem step_append_lie {ops : Array Oper} {o : Oper} {a : Act} {K : Act → World → Prop} {Q : Exit → Act → World → Prop} {E : Prop} (hgd : o.guard = none) (s x : Operand) (t : TypeId)
    (ho : o.op = .call { callee := .builtin .append, args := #[s, x], argTypes := #[t, t] })
    (base : Nat) (e : TypeId) (i : TypeInfo) (z : Value) (size bytes : Nat) (ht : P.underlying t = some (.slice e)) (hi : P.info? e = some i) (hz : i.zero = some z)
    (hsize : i.size = size) (hby : i.bytes = bytes) (hzs : z.cells.size = size) (hsz : 0 < size)
    (v : Value) (n : Nat) (xs : List Value) (hs : a.eval s = v) (hown : w.ownsRow base e size v n xs)
    (ad : Option Addr) (m c : Nat) (news : List Value) (hx : a.eval x = .slice ad m c) (hl : news.length = m * size) (hnews : Lies w ad news) (h1 : ∀ u ∈ news, u.oneCell' = true)
    (h63 : n + m ≤ maxLen) (hbytes : (n + m) * bytes ≤ 140737488355328) (hbase : base ≤ w.heap.size)
    (h : ∀ ad' cap' w', w'.ownsRow base e size (.slice ad' (n + m) cap') (n + m) (xs ++ news) → w.grownBy w' v.ownBlock → ((Value.slice ad' (n + m) cap').ownBlock = v.ownBlock ∨ (Value.slice ad' (n + m) cap').ownBlock = some w.heap.size) → K (a.put o.dst (.slice ad' (n + m) cap')) w') :
    if Region.wanted o (yielded ops a.tmps) = true then Oper.wp P o a w K Q else E := by
  have hw : Region.wanted o (yielded ops a.tmps) = true := by simp [Region.wanted, hgd]
  rw [if_pos hw]
  cases had : ad with
  | none =>
    have hn : news = [] := by
      rcases hnews with h | ⟨b, off, e, _⟩
      · exact h
      · rw [had] at e; cases e
    have hm : m = 0 := by
      rw [hn] at hl
      rcases Nat.eq_zero_or_pos m with h | h
      · exact h
      · have := Nat.mul_pos h hsz; simp at hl; omega
    subst hn hm had
    obtain ⟨a0, c0, rfl, hnc⟩ := slice_own hown
    have hr := run_none t e i ht hi a0 n c0 c hnc o.type w
    unfold Oper.wp execOp
    simp only [ho, resolve, invoke, builtin, Sem.run_bind, Sem.run_pure, Result.andThen_ok, List.map_toArray, List.map_cons, List.map_nil, hs, hx, hr]
    exact h a0 c0 w (by simpa using hown) ⟨rfl, rfl, rfl, Nat.le_refl _, fun _ _ _ => rfl⟩ (Or.inl rfl)
  | some ad0 =>
    subst had
    obtain ⟨v', w', hr, h2, h3, _, h5⟩ := run_append_own_at (P := P) w base t o.type e i z size bytes ht hi hz hsize hby hzs hsz v n xs hown ad0 m c news hl (fun j u hj => by
      rcases hnews with h | ⟨b, off, e, _, hc⟩
      · rw [h] at hj; simp at hj
      · cases e
        have hadd : (⟨b, off, none⟩ : Addr).add j = ⟨b, off + j, none⟩ := by unfold Addr.add; split <;> simp_all
        rw [hadd]; exact hc j u hj) h1 h63 hbytes hbase
    obtain ⟨ad', cap', rfl, _⟩ := slice_own h2
    unfold Oper.wp execOp
    simp only [ho, resolve, invoke, builtin, Sem.run_bind, Sem.run_pure, Result.andThen_ok, List.map_toArray, List.map_cons, List.map_nil, hs, hx, hr]
    exact h ad' cap' w' h2 h3 h5
/-- The same onto a new row in which there is nothing. -/
theorem step_copy_lie {ops : Array Oper} {o : Oper} {a : Act} {K : Act → World → Prop} {Q : Exit → Act → World → Prop} {E : Prop} (hgd : o.guard = none) (s x : Operand) (t : TypeId)
    (ho : o.op = .call { callee := .builtin .append, args := #[s, x], argTypes := #[t, t] })
    (base : Nat) (e : TypeId) (i : TypeInfo) (z : Value) (size bytes : Nat) (ht : P.underlying t = some (.slice e)) (hi : P.info? e = some i) (hz : i.zero = some z)
    (hsize : i.size = size) (hby : i.bytes = bytes) (hzs : z.cells.size = size) (hsz : 0 < size)
    (v : Value) (hs : a.eval s = v) (hown : w.ownsRow base e size v 0 [])
    (ad : Option Addr) (m c : Nat) (news : List Value) (hx : a.eval x = .slice ad m c) (hl : news.length = m * size) (hnews : Lies w ad news) (h1 : ∀ u ∈ news, u.oneCell' = true)
    (h63 : m ≤ maxLen) (hbytes : m * bytes ≤ 140737488355328) (hbase : base ≤ w.heap.size)
    (h : ∀ ad' cap' w', w'.ownsRow base e size (.slice ad' m cap') m news → w.grownBy w' v.ownBlock → ((Value.slice ad' m cap').ownBlock = v.ownBlock ∨ (Value.slice ad' m cap').ownBlock = some w.heap.size) → K (a.put o.dst (.slice ad' m cap')) w') :
    if Region.wanted o (yielded ops a.tmps) = true then Oper.wp P o a w K Q else E := by
  refine step_append_lie w hgd s x t ho base e i z size bytes ht hi hz hsize hby hzs hsz v 0 [] hs hown ad m c news hx hl hnews h1 (by omega) (by simpa using hbytes) hbase ?_
  intro ad' cap' w' h2 h3 h4
  simp only [Nat.zero_add, List.nil_append] at h2 h4 ⊢
  exact h ad' cap' w' h2 h3 h4
end

/-- The boxes of the call: the policy, the answer, and the two places. -/
structure FR (w W : World) (a1 a2 a3 : Option Addr) (c1 c2 c3 : Nat) (p : Pol) (q0 q1 : Int) : Prop where
  pb : W.heap[w.heap.size]? = some (.cells #[.slice a1 p.ds.length c1, .slice a2 p.ss.length c2, .slice a3 p.ls.length c3] 26 (0, 0))
  rs : ∃ r1 r2 r3, W.heap[w.heap.size + 1]? = some (.cells #[r1, r2, r3] 26 (0, 0))
  wh : W.heap[w.heap.size + 2]? = some (.cells #[.int .i64 q0, .int .i64 q1] 3 (0, 0))
  b : Below w.heap.size w W
variable {w W W' : World} {a1 a2 a3 : Option Addr} {c1 c2 c3 : Nat} {p : Pol} {q0 q1 : Int}
theorem FR.lt (h : FR w W a1 a2 a3 c1 c2 c3 p q0 q1) : w.heap.size + 2 < W.heap.size := (Array.getElem?_eq_some_iff.1 h.wh).1
theorem FR.below (h : FR w W a1 a2 a3 c1 c2 c3 p q0 q1) (k : Below W.heap.size W W') : FR w W' a1 a2 a3 c1 c2 c3 p q0 q1 := by
  have hl := h.lt
  obtain ⟨r1, r2, r3, hr⟩ := h.rs
  exact ⟨(k.block _ (by omega)).trans h.pb, ⟨r1, r2, r3, (k.block _ (by omega)).trans hr⟩, (k.block _ (by omega)).trans h.wh, below_next h.b k⟩
theorem FR.who0 (h : FR w W a1 a2 a3 c1 c2 c3 p q0 q1) (x : Int) : FR w (W.setCell ⟨w.heap.size + 2, 0, none⟩ (.int .i64 x)) a1 a2 a3 c1 c2 c3 p x q1 := by
  obtain ⟨r1, r2, r3, hr⟩ := h.rs
  exact ⟨(heap_off W _ (by omega)).trans h.pb, ⟨r1, r2, r3, (heap_off W _ (by omega)).trans hr⟩, Lib.heap_setCell_same h.wh (i := 0) _, h.b.setCell (by simp) _⟩
theorem FR.who1 (h : FR w W a1 a2 a3 c1 c2 c3 p q0 q1) (x : Int) : FR w (W.setCell ⟨w.heap.size + 2, 1, none⟩ (.int .i64 x)) a1 a2 a3 c1 c2 c3 p q0 x := by
  obtain ⟨r1, r2, r3, hr⟩ := h.rs
  exact ⟨(heap_off W _ (by omega)).trans h.pb, ⟨r1, r2, r3, (heap_off W _ (by omega)).trans hr⟩, Lib.heap_setCell_same h.wh (i := 1) _, h.b.setCell (by simp) _⟩
theorem FR.drew (h : FR w W a1 a2 a3 c1 c2 c3 p q0 q1) : FR w W.drew a1 a2 a3 c1 c2 c3 p q0 q1 := ⟨h.pb, h.rs, h.wh, h.b.drew⟩

/-- All that is read and written of the boxes. -/
theorem FR.all (h : FR w W a1 a2 a3 c1 c2 c3 p q0 q1) : ∃ r1 r2 r3, (W.cell? ⟨w.heap.size, 0, none⟩ = some (.slice a1 p.ds.length c1) ∧ W.cell? ⟨w.heap.size, 1, none⟩ = some (.slice a2 p.ss.length c2) ∧ W.cell? ⟨w.heap.size, 2, none⟩ = some (.slice a3 p.ls.length c3)) ∧
    (W.cell? ⟨w.heap.size + 1, 0, none⟩ = some r1 ∧ W.cell? ⟨w.heap.size + 1, 1, none⟩ = some r2 ∧ W.cell? ⟨w.heap.size + 1, 2, none⟩ = some r3) ∧ (W.cell? ⟨w.heap.size + 2, 0, none⟩ = some (.int .i64 q0) ∧ W.cell? ⟨w.heap.size + 2, 1, none⟩ = some (.int .i64 q1)) ∧
    (W.frozen? ⟨w.heap.size, 0, none⟩ = false ∧ W.frozen? ⟨w.heap.size, 1, none⟩ = false ∧ W.frozen? ⟨w.heap.size, 2, none⟩ = false) ∧ (W.frozen? ⟨w.heap.size + 1, 0, none⟩ = false ∧ W.frozen? ⟨w.heap.size + 1, 1, none⟩ = false ∧ W.frozen? ⟨w.heap.size + 1, 2, none⟩ = false) ∧ (W.frozen? ⟨w.heap.size + 2, 0, none⟩ = false ∧ W.frozen? ⟨w.heap.size + 2, 1, none⟩ = false) := by
  obtain ⟨r1, r2, r3, hr⟩ := h.rs
  exact ⟨r1, r2, r3, ⟨Lib.cell_of_heap h.pb 0, Lib.cell_of_heap h.pb 1, Lib.cell_of_heap h.pb 2⟩, ⟨Lib.cell_of_heap hr 0, Lib.cell_of_heap hr 1, Lib.cell_of_heap hr 2⟩, ⟨Lib.cell_of_heap h.wh 0, Lib.cell_of_heap h.wh 1⟩,
    ⟨Lib.frozen_of_heap h.pb 0, Lib.frozen_of_heap h.pb 1, Lib.frozen_of_heap h.pb 2⟩, ⟨Lib.frozen_of_heap hr 0, Lib.frozen_of_heap hr 1, Lib.frozen_of_heap hr 2⟩, ⟨Lib.frozen_of_heap h.wh 0, Lib.frozen_of_heap h.wh 1⟩⟩
def cN (ys : List Nat) : List Value := ys.map fun (y : Nat) => Value.int .i64 (y : Int)
theorem cN_snoc (ys : List Nat) (y : Nat) : cN (ys ++ [y]) = cN ys ++ [.int .i64 (y : Int)] := by simp [cN]
theorem FR.grown {w6 : World} {o : Obj} {v : Value} {n base : Nat} {xs : List Value} (h : FR w W a1 a2 a3 c1 c2 c3 p q0 q1) (ho : W.ownsRow base 3 1 v n xs) (hb : w.heap.size + 3 ≤ base) (hg : (W.alloc o).grownBy w6 v.ownBlock) : FR w w6 a1 a2 a3 c1 c2 c3 p q0 q1 := by
  have hl := h.lt
  have h' := h.below (W' := W.alloc o) ((Below.refl _ _).alloc (Nat.le_refl _) _)
  have hz : (W.alloc o).heap.size = W.heap.size + 1 := by simp
  have k : ∀ j, j < w.heap.size + 3 → w6.heap[j]? = (W.alloc o).heap[j]? := fun j hj => hg.block j (by omega) (fun e => by have := (ho.lt j e.symm).1; omega)
  obtain ⟨r1, r2, r3, hr⟩ := h'.rs
  exact ⟨(k _ (by omega)).trans h'.pb, ⟨r1, r2, r3, (k _ (by omega)).trans hr⟩, (k _ (by omega)).trans h'.wh, h'.b.grown hg (Nat.le_trans h.b.size (by omega)) (fun j hj => by have := (ho.lt j hj).1; omega)⟩
/-- What lies below the numbers' rows stays. -/
theorem keep_grown {w6 wS : World} {o : Obj} {v : Value} {n base : Nat} {xs : List Value} (h : ∀ j, j < base → W.heap[j]? = wS.heap[j]?) (ho : W.ownsRow base 3 1 v n xs) (hb : base ≤ W.heap.size) (hg : (W.alloc o).grownBy w6 v.ownBlock) : ∀ j, j < base → w6.heap[j]? = wS.heap[j]? := fun j hj =>
  (hg.block j (by simp; omega) (fun e => by have := (ho.lt j e.symm).1; omega)).trans ((Lib.alloc_old W o j (by omega)).trans (h j hj))
theorem new1 (W : World) (y : Int) : ∀ j u, [Value.int .i64 y][j]? = some u → (W.alloc (.cells #[.int .i64 y] 3)).cell? ((⟨W.heap.size, 0, none⟩ : Addr).add j) = some u := by
  intro j u hj
  match j, hj with
  | 0, hj => simp at hj; subst hj; simp [Addr.add]
  | n + 1, hj => simp at hj
theorem onesS (ss : List Sl) : ∀ u ∈ cellsS ss, u.oneCell' = true := by
  intro v hv
  simp only [cellsS, List.mem_flatMap] at hv
  obtain ⟨d, _, hd⟩ := hv
  simp [cS] at hd
  rcases hd with rfl | rfl <;> rfl
theorem onesL (ls : List Lk) : ∀ u ∈ cellsL ls, u.oneCell' = true := by
  intro v hv
  simp only [cellsL, List.mem_flatMap] at hv
  obtain ⟨d, _, hd⟩ := hv
  simp [cL] at hd
  rcases hd with rfl | rfl | rfl | rfl <;> rfl
theorem onesD (ds : List Dm) : ∀ u ∈ cellsD ds, u.oneCell' = true := by
  intro v hv
  simp only [cellsD, List.mem_flatMap] at hv
  obtain ⟨d, _, hd⟩ := hv
  simp [cD] at hd
  rcases hd with rfl | rfl | rfl | rfl | rfl | rfl <;> rfl
theorem lies_blk {W : World} {x : Nat} {cs : List Value} {t : TypeId} (h : W.heap[x]? = some (.cells cs.toArray t (0, 0))) : Lies W (some ⟨x, 0, none⟩) cs :=
  Or.inr ⟨x, 0, rfl, (Array.getElem?_eq_some_iff.1 h).1, fun j u hj => by rw [Lib.cell_of_heap h, Nat.zero_add]; simpa using hj⟩
theorem own_lies {W : World} {base e size n c : Nat} {ad : Option Addr} {xs : List Value} (h : W.ownsRow base e size (.slice ad n c) n xs) : n ≤ c ∧ ∀ W', (∀ b, base ≤ b → W'.heap[b]? = W.heap[b]?) → Lies W' ad xs := by
  rcases h.2 with ⟨h1, h2⟩ | ⟨g, cap, cur, hv, hb, hh, hc, _, _, ht⟩
  · cases h1
    exact ⟨Nat.le_refl _, fun W' _ => Or.inl (List.eq_nil_of_length_eq_zero (by rw [h.1]; simp))⟩
  · cases hv
    refine ⟨hc, fun W' k => Or.inr ⟨g, 0, rfl, ?_, fun j u hj => ?_⟩⟩
    · exact (Array.getElem?_eq_some_iff.1 ((k g hb).trans hh)).1
    · rw [Lib.cell_of_heap ((k g hb).trans hh), Nat.zero_add]
      rw [← ht, List.getElem?_take] at hj
      split at hj
      · simpa using hj
      · cases hj
/-- The boxes where one list is a new one. -/
theorem FR.box0 (h : FR w W a1 a2 a3 c1 c2 c3 p q0 q1) (v : Value) : (W.setCell ⟨w.heap.size, 0, none⟩ v).heap[w.heap.size]? = some (.cells #[v, .slice a2 p.ss.length c2, .slice a3 p.ls.length c3] 26 (0, 0)) ∧ ∃ r1 r2 r3, (W.setCell ⟨w.heap.size, 0, none⟩ v).heap[w.heap.size + 1]? = some (.cells #[r1, r2, r3] 26 (0, 0)) := by
  obtain ⟨r1, r2, r3, hr⟩ := h.rs
  exact ⟨Lib.heap_setCell_same h.pb v, r1, r2, r3, (heap_off W _ (by omega)).trans hr⟩
theorem FR.box1 (h : FR w W a1 a2 a3 c1 c2 c3 p q0 q1) (v : Value) : (W.setCell ⟨w.heap.size, 1, none⟩ v).heap[w.heap.size]? = some (.cells #[.slice a1 p.ds.length c1, v, .slice a3 p.ls.length c3] 26 (0, 0)) ∧ ∃ r1 r2 r3, (W.setCell ⟨w.heap.size, 1, none⟩ v).heap[w.heap.size + 1]? = some (.cells #[r1, r2, r3] 26 (0, 0)) := by
  obtain ⟨r1, r2, r3, hr⟩ := h.rs
  exact ⟨Lib.heap_setCell_same h.pb v, r1, r2, r3, (heap_off W _ (by omega)).trans hr⟩
theorem FR.box2 (h : FR w W a1 a2 a3 c1 c2 c3 p q0 q1) (v : Value) : (W.setCell ⟨w.heap.size, 2, none⟩ v).heap[w.heap.size]? = some (.cells #[.slice a1 p.ds.length c1, .slice a2 p.ss.length c2, v] 26 (0, 0)) ∧ ∃ r1 r2 r3, (W.setCell ⟨w.heap.size, 2, none⟩ v).heap[w.heap.size + 1]? = some (.cells #[r1, r2, r3] 26 (0, 0)) := by
  obtain ⟨r1, r2, r3, hr⟩ := h.rs
  exact ⟨Lib.heap_setCell_same h.pb v, r1, r2, r3, (heap_off W _ (by omega)).trans hr⟩
/-- Behind the last stores, all into the boxes, what lies above them is as it was. -/
theorem far3 {W : World} {m i : Nat} {v x y z : Value} : ∀ b, m + 3 ≤ b → ((((W.setCell ⟨m, i, none⟩ v).setCell ⟨m + 1, 0, none⟩ x).setCell ⟨m + 1, 1, none⟩ y).setCell ⟨m + 1, 2, none⟩ z).heap[b]? = W.heap[b]? := fun b hb =>
  (heap_off _ _ (by omega)).trans ((heap_off _ _ (by omega)).trans ((heap_off _ _ (by omega)).trans (heap_off _ _ (by omega))))
theorem new_lit (wr : World) {base e size : Nat} (hb : base ≤ wr.heap.size) : (wr.alloc (.cells #[] e)).ownsRow base e size (.slice (some ⟨wr.heap.size, 0, none⟩) 0 0) 0 [] := World.ownsRow_lit wr #[] 0 hb (by unfold maxLen; omega) (by simp)
theorem new_lit3 (wr : World) (o : Obj) {base e size : Nat} (hb : base ≤ wr.heap.size) : ((wr.alloc o).alloc (.cells #[] e)).drew.ownsRow base e size (.slice (some ⟨wr.heap.size + 1, 0, none⟩) 0 0) 0 [] := by
  have h := (new_lit (wr.alloc o) (base := base) (e := e) (size := size) (by simp; omega)).drew
  have e : (wr.alloc o).heap.size = wr.heap.size + 1 := by simp
  rw [e] at h
  exact h
theorem lit_at2 (wr : World) (o o2 : Obj) : ((wr.alloc o).alloc o2).drew.heap[wr.heap.size + 1]? = some o2 := by
  have h := alloc_at (wr.alloc o) o2
  have e : (wr.alloc o).heap.size = wr.heap.size + 1 := by simp
  rw [e] at h
  exact h
theorem lit_at3 (wr : World) (o o2 : Obj) : ((wr.alloc o).alloc o2).drew.heap[wr.heap.size]? = some o :=
  (Lib.alloc_old (wr.alloc o) o2 _ (by simp)).trans (alloc_at wr o)
/-- The answer where nothing was added. -/
theorem osaid_same {R : Nat × Pol} {e : Nat} (hh : Held w a1 a2 a3 c1 c2 c3 p) (hR : R = (e, p)) (hb : Below w.heap.size w W') : OSaid w R (.returned (.tuple #[.agg #[.slice a1 p.ds.length c1, .slice a2 p.ss.length c2, .slice a3 p.ls.length c3], .int .i64 (e : Nat)])) W' := by
  subst hR
  exact ⟨_, _, _, _, _, _, rfl, hh.below hb, hb⟩

end Go.Proofs.YtmhjoomkeidcaaaDoor

/-
  Boxes of a domain's line.
-/
namespace Go.Proofs.YtmhjoomkeidcaaaDoor
open Go.RowKit L2
variable {w W W' : World} {a1 a2 a3 : Option Addr} {c1 c2 c3 : Nat} {p : Pol} {q0 q1 : Int}
theorem keep_more {w6 wS : World} {o : Obj} {v : Value} {n base : Nat} {xs : List Value} (h : base ≤ W.heap.size ∧ ∀ j, j < base → W.heap[j]? = wS.heap[j]?) (ho : W.ownsRow base 3 1 v n xs) (hg : (W.alloc o).grownBy w6 v.ownBlock) : base ≤ w6.heap.size ∧ ∀ j, j < base → w6.heap[j]? = wS.heap[j]? :=
  ⟨by have := hg.size; simp at this; have := h.1; omega, keep_grown h.2 ho h.1 hg⟩
theorem FR.far (h : FR w W a1 a2 a3 c1 c2 c3 p q0 q1) {b i : Nat} (hb : w.heap.size + 3 ≤ b) (v : Value) : FR w (W.setCell ⟨b, i, none⟩ v) a1 a2 a3 c1 c2 c3 p q0 q1 := by
  obtain ⟨r1, r2, r3, hr⟩ := h.rs
  exact ⟨(heap_off W _ (by omega)).trans h.pb, ⟨r1, r2, r3, (heap_off W _ (by omega)).trans hr⟩, (heap_off W _ (by omega)).trans h.wh, h.b.setCell (by simp; omega) _⟩
theorem off3 {W : World} {rb bl bd i j1 j2 j3 : Nat} {v x y z : Value} (h1 : rb ≠ bd) (h2 : bl ≠ bd) (h : W.cell? ⟨rb, j1, none⟩ = some x ∧ W.cell? ⟨bl, j2, none⟩ = some y ∧ W.cell? ⟨bl, j3, none⟩ = some z) :
    (W.setCell ⟨bd, i, none⟩ v).cell? ⟨rb, j1, none⟩ = some x ∧ (W.setCell ⟨bd, i, none⟩ v).cell? ⟨bl, j2, none⟩ = some y ∧ (W.setCell ⟨bd, i, none⟩ v).cell? ⟨bl, j3, none⟩ = some z :=
  ⟨(cell_off W v h1).trans h.1, (cell_off W v h2).trans h.2.1, (cell_off W v h2).trans h.2.2⟩
theorem dom_three {W : World} {b : Nat} {x y z u v t x' y' z' : Value} {T : TypeId} (h : W.heap[b]? = some (.cells #[x, y, z, u, v, t] T (0, 0))) : (((W.setCell ⟨b, 0, none⟩ x').setCell ⟨b, 1, none⟩ y').setCell ⟨b, 2, none⟩ z').heap[b]? = some (.cells #[x', y', z', u, v, t] T (0, 0)) :=
  Lib.heap_setCell_same (Lib.heap_setCell_same (Lib.heap_setCell_same h x') y') z'
theorem dom_rest {W : World} {b : Nat} {x y z u v t u' v' t' : Value} {T : TypeId} (h : W.heap[b]? = some (.cells #[x, y, z, u, v, t] T (0, 0))) : (((W.setCell ⟨b, 3, none⟩ u').setCell ⟨b, 4, none⟩ v').setCell ⟨b, 5, none⟩ t').heap[b]? = some (.cells #[x, y, z, u', v', t'] T (0, 0)) :=
  Lib.heap_setCell_same (Lib.heap_setCell_same (Lib.heap_setCell_same h u') v') t'
end Go.Proofs.YtmhjoomkeidcaaaDoor

/-
  What the document's own answer for reading a text comes to: the same label, or none.
-/
namespace Go.Proofs.YtmhjoomkeidcaaaDoor.L2
open Go.RowKit

theorem refRead_not (s : ByteArray) (h : refOK s = false) : refRead s = none := by unfold refRead; rw [h]; rfl

set_option maxHeartbeats 2000000 in
theorem refRead_bad (s : ByteArray) (hs : s.size ≤ 9223372036854775807) (h : refOK s = false) (w : World) :
    Calls Tryd.prog 62 #[.string s] w fun e w' => e = .returned (.tuple #[.agg #[.int .i64 0, .int .i64 0], .int .i64 3]) ∧ Below w.heap.size w w' := by
  have h' := of_decide_eq_false h
  clear h
  by_cases h3 : s.size < 3
  · clear h'
    go_enter Tryd.func62, Tryd.ntmps62
    go_wp2
    exact bodyPost_ret (v := .tuple #[.agg #[.int .i64 0, .int .i64 0], .int .i64 3]) (by simp [results, Tryd.results62, go_sem]) rfl ⟨rfl, below1 _ _⟩
  by_cases h35 : 35 < s.size
  · clear h'
    go_enter Tryd.func62, Tryd.ntmps62
    go_wp2
    exact bodyPost_ret (v := .tuple #[.agg #[.int .i64 0, .int .i64 0], .int .i64 3]) (by simp [results, Tryd.results62, go_sem]) rfl ⟨rfl, below1 _ _⟩
  have hk0 : 0 < s.size := by omega
  have hk1 : 1 < s.size := by omega
  have hkl : s.size - 1 < s.size := by omega
  obtain ⟨a, ha⟩ : ∃ a : Nat, a = (s.get! 0).toNat := ⟨_, rfl⟩
  obtain ⟨b, hb⟩ : ∃ b : Nat, b = (s.get! 1).toNat := ⟨_, rfl⟩
  obtain ⟨z, hz⟩ : ∃ z : Nat, z = (s.get! (s.size - 1)).toNat := ⟨_, rfl⟩
  have ea : (s[0]'hk0).toNat = a := by rw [get_bang, ha]
  have eb : (s[1]'hk1).toNat = b := by rw [get_bang, hb]
  have ez : (s[s.size - 1]'hkl).toNat = z := by rw [get_bang, hz]
  rw [← ha, ← hb, ← hz] at h'
  clear ha hb hz
  have hcase : a < 48 ∨ (48 ≤ a ∧ 55 < a) ∨ (48 ≤ a ∧ a ≤ 55 ∧ ¬ (b : Int) = 123) ∨ (48 ≤ a ∧ a ≤ 55 ∧ (b : Int) = 123 ∧ ¬ (z : Int) = 125) ∨ (48 ≤ a ∧ a ≤ 55 ∧ (b : Int) = 123 ∧ (z : Int) = 125 ∧ ((s.size : Int) % 2 == 0) = true) := by
    simp only [beq_iff_eq]; omega
  clear h'
  rcases hcase with h | ⟨h, h1⟩ | ⟨h, h1, h2⟩ | ⟨h, h1, h2, h4⟩ | ⟨h, h1, h2, h4, h5⟩
  · go_enter Tryd.func62, Tryd.ntmps62
    go_wp2
    exact bodyPost_ret (v := .tuple #[.agg #[.int .i64 0, .int .i64 0], .int .i64 3]) (by simp [results, Tryd.results62, go_sem]) rfl ⟨rfl, below1 _ _⟩
  · go_enter Tryd.func62, Tryd.ntmps62
    go_wp2
    exact bodyPost_ret (v := .tuple #[.agg #[.int .i64 0, .int .i64 0], .int .i64 3]) (by simp [results, Tryd.results62, go_sem]) rfl ⟨rfl, below1 _ _⟩
  · go_enter Tryd.func62, Tryd.ntmps62
    go_wp2
    exact bodyPost_ret (v := .tuple #[.agg #[.int .i64 0, .int .i64 0], .int .i64 3]) (by simp [results, Tryd.results62, go_sem]) rfl ⟨rfl, below1 _ _⟩
  · go_enter Tryd.func62, Tryd.ntmps62
    go_wp2
    exact bodyPost_ret (v := .tuple #[.agg #[.int .i64 0, .int .i64 0], .int .i64 3]) (by simp [results, Tryd.results62, go_sem]) rfl ⟨rfl, below1 _ _⟩
  · go_enter Tryd.func62, Tryd.ntmps62
    go_wp2
    exact bodyPost_ret (v := .tuple #[.agg #[.int .i64 0, .int .i64 0], .int .i64 3]) (by simp [results, Tryd.results62, go_sem]) rfl ⟨rfl, below1 _ _⟩

end Go.Proofs.YtmhjoomkeidcaaaDoor.L2

/-
  What the document's own answer for reading a text comes to, where the text's ends are a label's.
-/
namespace Go.Proofs.YtmhjoomkeidcaaaDoor.L2
open Go.RowKit

/-- Where the reading stands: its answer's place, the label so far. -/
def ReadAt (w : World) (lv cats : Int) (wr : World) : Prop :=
  wr.heap[w.heap.size]? = some (.cells #[.int .i64 0, .int .i64 0] 35 (0, 0)) ∧ wr.heap[w.heap.size + 1]? = some (.cells #[.int .i64 lv, .int .i64 cats] 35 (0, 0)) ∧ Below w.heap.size w wr

theorem ReadAt.set1 {w wr : World} {lv cats : Int} (h : ReadAt w lv cats wr) (v : Int) : ReadAt w lv v (wr.setCell ⟨w.heap.size + 1, 1, none⟩ (.int .i64 v)) := by
  obtain ⟨h0, h1, hb⟩ := h
  refine ⟨(Below.heap_setCell _ _ _ _ (by simp only; omega)).trans h0, ?_, hb.setCell (by simp only; omega) _⟩
  rw [Lib.heap_setCell_same h1]
  rfl
theorem ReadAt.drewN {w wr : World} {lv cats : Int} (h : ReadAt w lv cats wr) (n : Nat) : ReadAt w lv cats (wr.drewN n) :=
  ⟨h.1, h.2.1, drewN_below h.2.2 n⟩

theorem wrap_nat2 (t : Nat) (h : t < 131072) : wrap64 (t : Int) = t := by unfold wrap64; omega
theorem sum_lt16 (c p : Nat) (hc : c < 65536) (hp : p < 65536) : c + p < 131072 := by omega
theorem wrap_sum (c n : Nat) (hc : c < 65536) (hn : 2 ^ n < 65536) : wrap64 ((c : Int) + 2 ^ n) = ((c + 2 ^ n : Nat) : Int) := by
  have e : ((c : Int) + 2 ^ n) = ((c + 2 ^ n : Nat) : Int) := by simp
  rw [e, wrap_nat2 _ (sum_lt16 _ _ hc hn)]
theorem sum_pow (c p : Nat) (h : c < p) : c + p < p * 2 := by omega

theorem pairs_step (a b : UInt8) (r : List UInt8) (m cats n : Nat) (hg : greekB a.toNat b.toNat = n) (h1 : m ≤ n) (h2 : n ≤ 15) : pairs (a :: b :: r) m cats = pairs r (n + 1) (cats + 2 ^ n) := by
  simp only [pairs, hg, Int.toNat_natCast]
  rw [if_neg (by omega)]
theorem pairs_stop (a b : UInt8) (r : List UInt8) (m cats : Nat) (h : greekB a.toNat b.toNat < m ∨ 15 < greekB a.toNat b.toNat) : pairs (a :: b :: r) m cats = none := by
  simp only [pairs]
  rw [if_pos h]
theorem pairs_end (s : ByteArray) (k m cats : Nat) (h : ¬ k + 1 < s.size) : pairs (s.data.toList.drop k) m cats = some cats := by
  by_cases hk : k < s.size
  · rw [drop_cons hk, List.drop_of_length_le (by rw [Array.length_toList]; exact Nat.not_lt.1 h)]
    rfl
  · rw [List.drop_of_length_le (by rw [Array.length_toList]; exact Nat.not_lt.1 hk)]
    rfl

set_option maxHeartbeats 2000000 in
theorem refRead_good (s : ByteArray) (h : refOK s = true) (w : World) :
    Calls Tryd.prog 62 #[.string s] w fun e w' => e = .returned (.tuple #[.agg #[.int .i64 (labL (refRead s)), .int .i64 (labC (refRead s))], .int .i64 (labE (refRead s))]) ∧ Below w.heap.size w w' := by
  obtain ⟨h3, h35, h48, h55, h123, h125, hodd⟩ := of_decide_eq_true h
  have hR : refRead s = (pairs (s.data.toList.drop 2) 0 0).map fun c => ((s.get! 0).toNat - 48, c) := by unfold refRead; rw [h]; rfl
  have hk0 : 0 < s.size := by omega
  have hk1 : 1 < s.size := by omega
  have hkl : s.size - 1 < s.size := by omega
  obtain ⟨a, ha⟩ : ∃ a : Nat, a = (s.get! 0).toNat - 48 := ⟨_, rfl⟩
  have ea : (s[0]'hk0).toNat = a + 48 := by rw [get_bang, ha]; omega
  have ha7 : a ≤ 7 := by omega
  have eb : (s[1]'hk1).toNat = 123 := by rw [get_bang]; exact h123
  have ez : (s[s.size - 1]'hkl).toNat = 125 := by rw [get_bang]; exact h125
  have ho : ((s.size : Int) % 2 == 0) = false := by simp; omega
  have d1 : decide ((s.size : Int) < 3) = false := decide_eq_false (by omega)
  have d2 : decide (35 < (s.size : Int)) = false := decide_eq_false (by omega)
  have d3 : decide ((a : Int) + 48 < 48) = false := decide_eq_false (by omega)
  have d4 : decide (55 < (a : Int) + 48) = false := decide_eq_false (by omega)
  rw [← ha] at hR
  have HR : Hid (refRead s = (pairs (s.data.toList.drop 2) 0 0).map fun c => (a, c)) := hR
  clear hR ha h h48 h55 h123 h125 hodd
  go_enter Tryd.func62, Tryd.ntmps62
  go_wp2
  go_loopw [5, 6] (fun v i wr => ∃ (m k cats : Nat), m ≤ 16 ∧ cats < 2 ^ m ∧ 2 ≤ k ∧ k ≤ s.size ∧ v = .int .i64 ((m : Int) - 1) ∧ i = .int .i64 k ∧ ReadAt w a cats wr ∧ pairs (s.data.toList.drop k) m cats = pairs (s.data.toList.drop 2) 0 0) (fun _ i _ => s.size - (intOf i).toNat)
  case atStart =>
    refine ⟨0, 2, 0, by omega, by omega, by omega, by omega, rfl, rfl, ⟨?_, ?_, below2 _ _ _⟩, rfl⟩
    · exact (Lib.alloc_old _ _ _ (by simp)).trans (alloc_at _ _)
    · have := alloc_at (w.alloc (.cells #[.int .i64 0, .int .i64 0] 35)) (.cells #[.int .i64 a, .int .i64 0] 35)
      simpa using this
  case round =>
    obtain ⟨m, k, cats, hm, hcm, hk2, hks, rfl, rfl, hA, hp⟩ := hrel
    obtain ⟨c0, c1, f0, f1⟩ := two_cells hA.2.1
    clear d1 d2 d3 d4 ea eb ez ho hk0 hk1 hkl h3
    by_cases hk : k + 1 < s.size
    · have hk0 : k < s.size := by omega
      obtain ⟨x, hx⟩ : ∃ x : Nat, x = (s.get! k).toNat := ⟨_, rfl⟩
      obtain ⟨y, hy⟩ : ∃ y : Nat, y = (s.get! (k + 1)).toNat := ⟨_, rfl⟩
      have ex : (s[k]'hk0).toNat = x := by rw [get_bang, hx]
      have ey : (s[k + 1]'hk).toNat = y := by rw [get_bang, hy]
      have hy8 : y < 256 := by rw [hy]; exact (s.get! (k + 1)).toNat_lt
      have hw1 : IntKind.i64.wrap ((k : Int) + 1) = k + 1 := by rw [IntKind.wrap_i64]; omega
      rw [drop_cons hk0, drop_cons hk] at hp
      by_cases hin : (m : Int) ≤ greekB x y ∧ greekB x y ≤ 15
      · obtain ⟨n, hn⟩ : ∃ n : Nat, greekB x y = n := ⟨(greekB x y).toNat, by omega⟩
        rw [hn] at hin
        have hmn : m ≤ n := by omega
        have hn15 : n ≤ 15 := by omega
        have hG : ∀ w, Calls Tryd.prog 52 #[.int .u8 x, .int .u8 y] w fun e w' => e = .returned (.int .i64 n) ∧ w' = w := fun w => by rw [← hn]; exact greek_any x y hy8 w
        rw [pairs_step _ _ _ m cats n (by rw [← hx, ← hy]; exact hn) hmn hn15] at hp
        have HP : Hid (pairs (s.data.toList.drop (k + 2)) (n + 1) (cats + 2 ^ n) = pairs (s.data.toList.drop 2) 0 0) := hp
        have hpw : 2 ^ n < 65536 := Nat.pow_lt_pow_right (a := 2) (m := n) (n := 16) (by omega) (by omega)
        have hcn : cats < 2 ^ n := Nat.lt_of_lt_of_le hcm (Nat.pow_le_pow_right (by omega) hmn)
        have HS : Hid (cats + 2 ^ n < 2 ^ (n + 1) ∧ wrap64 ((cats : Int) + 2 ^ n) = ((cats + 2 ^ n : Nat) : Int)) := ⟨by rw [Nat.pow_succ]; exact sum_pow _ _ hcn, wrap_sum cats n (Nat.lt_trans hcn hpw) hpw⟩
        have hwp := wrap_pow n (Nat.lt_succ_of_le hn15)
        have g1 : decide ((n : Int) ≤ (m : Int) - 1) = false := decide_eq_false (by omega)
        have g2 : decide (15 < (n : Int)) = false := decide_eq_false (by omega)
        clear hp hx hy hn hin hcm hpw hcn
        go_wp2_with fail
        go_quiet ((go_at_call 52; exact Calls.quiet_of_same (hG _)))
        go_wp2_with fail
        go_roundw
        case rel =>
          refine ⟨n + 1, k + 2, cats + 2 ^ n, Nat.succ_le_succ hn15, HS.out.1, Nat.le_trans hk2 (Nat.le_add_right _ _), hk, by go_num, by go_num, ?_, HP.out⟩
          rw [HS.out.2]
          exact (hA.drewN _).set1 _
        case measure => simp [intOf]; omega
      · have hst : greekB x y < m ∨ 15 < greekB x y := by omega
        obtain ⟨g, hg⟩ : ∃ g : Int, g = greekB x y := ⟨_, rfl⟩
        have hG : ∀ w, Calls Tryd.prog 52 #[.int .u8 x, .int .u8 y] w fun e w' => e = .returned (.int .i64 g) ∧ w' = w := fun w => by rw [hg]; exact greek_any x y hy8 w
        rw [pairs_stop _ _ _ m cats (by rw [← hx, ← hy]; exact hst)] at hp
        have hnone : refRead s = none := by rw [HR.out, ← hp]; rfl
        have hcase : decide (g ≤ (m : Int) - 1) = true ∨ (decide (g ≤ (m : Int) - 1) = false ∧ decide (15 < g) = true) := by simp; omega
        have hL : labL (refRead s) = 0 := by rw [hnone]; rfl
        have hC : labC (refRead s) = 0 := by rw [hnone]; rfl
        have hE : labE (refRead s) = 3 := by rw [hnone]; rfl
        obtain ⟨e0, e1, i0, i1⟩ := two_cells hA.1
        have q0 := fun n => (two_set (hA.drewN n).1 (.int .i64 0) (.int .i64 0)).1
        have q1 := fun n => (two_set (hA.drewN n).1 (.int .i64 0) (.int .i64 0)).2
        have hbw := hA.2.2
        clear hp hx hy hst hg hin hnone hA c0 c1 f0 f1
        rcases hcase with g1 | ⟨g1, g2⟩
        all_goals
          go_wp2_with fail
          go_quiet ((go_at_call 52; exact Calls.quiet_of_same (hG _)))
          go_wp2
          exact bodyPost_ret (v := .tuple #[.agg #[.int .i64 0, .int .i64 0], .int .i64 3]) (by simp [results, Tryd.results62, go_sem, q0, q1]) rfl ⟨by rw [hL, hC, hE], ((drewN_below hbw _).setCell (by simp) _).setCell (by simp) _⟩
    · have hsome : refRead s = some (a, cats) := by rw [HR.out, ← hp, pairs_end s k m cats hk]; rfl
      have hL : labL (refRead s) = a := by rw [hsome]; rfl
      have hC : labC (refRead s) = cats := by rw [hsome]; rfl
      have hE : labE (refRead s) = 0 := by rw [hsome]; rfl
      obtain ⟨e0, e1, i0, i1⟩ := two_cells hA.1
      obtain ⟨q0, q1⟩ := two_set hA.1 (.int .i64 a) (.int .i64 cats)
      have hbw := hA.2.2
      clear hp hsome hA
      go_wp2
      exact bodyPost_ret (v := .tuple #[.agg #[.int .i64 a, .int .i64 cats], .int .i64 0]) (by simp [results, Tryd.results62, go_sem, q0, q1]) rfl ⟨by rw [hL, hC, hE], (hbw.setCell (by simp) _).setCell (by simp) _⟩

end Go.Proofs.YtmhjoomkeidcaaaDoor.L2
