/-
  What the document's own answer for the words of a text comes to.
-/
import Derived.Test.YtmhjoomkeidcaaaDoorL3One
namespace Go.Proofs.YtmhjoomkeidcaaaDoor.L3
open Go.RowKit

theorem step_len (st : St) (c : List UInt8) : (step st c).all.length ≤ st.all.length + 1 := by
  unfold step
  split
  · simp [St.all]
  · simp [St.all]
theorem run_len : ∀ (cs : List (List UInt8)) (st : St), (run st cs).all.length ≤ st.all.length + cs.length
  | [], _ => Nat.le_refl _
  | c :: cs, st => by
    rw [run_cons]
    have h1 := run_len cs (step st c)
    have h2 := step_len st c
    simp only [List.length_cons]
    omega
theorem chop_len : ∀ (n : Nat) (l : List UInt8), l.length ≤ n → (chop l).length ≤ l.length := by
  intro n
  induction n with
  | zero =>
    intro l hl
    have : l = [] := List.length_eq_zero_iff.1 (by omega)
    subst this; rw [chop_nil]; exact Nat.le_refl _
  | succ n ih =>
    intro l hl
    cases l with
    | nil => rw [chop_nil]; exact Nat.le_refl _
    | cons a t =>
      have hf1 := far_pos (a :: t)
      rw [chop_cons _ (by simp), List.length_cons]
      have := ih ((a :: t).drop (far (a :: t))) (by simp at hl ⊢; omega)
      simp only [List.length_drop, List.length_cons] at this ⊢
      omega
theorem cut_len (x : UInt8) (l : List UInt8) : (cut x l).length ≤ l.length := (List.takeWhile_prefix _).length_le
theorem one_len (l : List UInt8) (line : Nat) : (oneOf l line).length ≤ l.length := by
  have h1 := run_len (chop (cut 35 l)) ⟨[], none, line, 1, false⟩
  have h2 := chop_len _ (cut 35 l) (Nat.le_refl _)
  have h3 := cut_len 35 l
  unfold oneOf
  have h4 : (St.all ⟨[], none, line, 1, false⟩).length = 0 := rfl
  omega
theorem words_len (l : List UInt8) : (wordsOf l).length ≤ l.length := by
  have h1 := run_len (chop l) start
  have h2 := chop_len _ l (Nat.le_refl _)
  unfold wordsOf
  have h4 : (St.all start).length = 0 := rfl
  omega

theorem cellsW_ones (ws : List Wd) : ∀ u ∈ cellsW ws, u.oneCell' = true := by
  intro u hu
  unfold cellsW at hu
  obtain ⟨x, _, hx⟩ := List.mem_flatMap.1 hu
  exact ones3 _ _ _ u hx

/-- Where the walk of a text's lines stands. -/
structure LinesAt (s : ByteArray) (G : List Wd) (w : World) (k frm line : Nat) (D : List Wd) (v : Value) (wr : World) : Prop where
  own : Own wr w.heap.size v D
  below : Below w.heap.size w wr
  fk : frm ≤ k
  kz : k ≤ s.size + 1
  ends : k = s.size + 1 → D = G
  goes : k ≤ s.size → (run ⟨D, none, line, 1, false⟩ (chop (s.data.toList.drop frm))).all = G ∧ okAll (chop (s.data.toList.drop frm)) ∧ (10 : UInt8) ∉ (s.data.toList.drop frm).take (k - frm)
  len : D.length ≤ frm
  linez : line ≤ frm + 1

theorem take_more (l : List UInt8) (f k : Nat) (b : UInt8) (hf : f ≤ k) (hd : l.drop k = b :: l.drop (k + 1)) : (l.drop f).take (k + 1 - f) = (l.drop f).take (k - f) ++ [b] ∧ l.drop f = (l.drop f).take (k - f) ++ b :: l.drop (k + 1) := by
  have e : (l.drop f).drop (k - f) = b :: l.drop (k + 1) := by rw [List.drop_drop, show f + (k - f) = k by omega, hd]
  constructor
  · rw [show k + 1 - f = (k - f) + 1 by omega, List.take_add, e]; rfl
  · rw [← e, List.take_append_drop]

/-- A list that a call got from another one, laid behind its own. -/
theorem own_more {w3 : World} {B : Nat} {v : Value} {D E : List Wd} (h : w3.ownsRow B 70 3 v (D.length + E.length) (cellsW D ++ cellsW E)) : Own w3 B v (D ++ E) := by
  unfold Own
  rw [cellsW_append, List.length_append]
  exact h

set_option maxHeartbeats 2000000 in
theorem lines_walk (s : ByteArray) (h : ¬ (s.size : Int) > 4096) (hok : okAll (chop s.data.toList)) (w : World) : Calls Tryd.prog 35 #[.string s] w (Said w ⟨wordsOf s.data.toList, 0, 0, 0⟩) := by
  obtain ⟨i0, hi, hz0, hz1, hz2⟩ := info_parts info70
  have H := fun w => refBad_any s (by omega) w
  rw [bad_ok _ _ _ hok] at H
  obtain ⟨G, hG⟩ : ∃ G, wordsOf s.data.toList = G := ⟨_, rfl⟩
  rw [hG]
  have HH : Hid (okAll (chop s.data.toList) ∧ wordsOf s.data.toList = G) := ⟨hok, hG⟩
  clear hok hG
  go_enter Tryd.func35, Tryd.ntmps35
  go_wp2_with fail
  refine (H _).mono ?_
  rintro e w1 ⟨rfl, rfl⟩
  go_wp2
  go_loopw [6, 9, 10, 11] (fun v lv fv iv wr => ∃ (k frm line : Nat) (D : List Wd), lv = .int .i64 line ∧ fv = .int .i64 frm ∧ iv = .int .i64 k ∧ LinesAt s G w k frm line D v wr) (fun _ _ _ i _ => s.size + 1 - (intOf i).toNat)
  case atStart =>
    refine ⟨0, 0, 1, [], rfl, rfl, rfl, World.ownsRow_made w #[] 0 (Nat.le_refl _) (Nat.zero_le _) rfl, below1 _ _, by omega, by omega, fun e => by omega, fun _ => ⟨?_, ?_, by simp⟩, Nat.le_refl _, by omega⟩
    · rw [List.drop_zero]; exact HH.out.2
    · rw [List.drop_zero]; exact HH.out.1
  case round =>
    obtain ⟨k, frm, line, D, rfl, rfl, rfl, hS⟩ := hrel
    have hO := hS.own
    have hB := hS.below
    have hfk := hS.fk
    have hkz := hS.kz
    have hlen := hS.len
    have hlz := hS.linez
    have hsz := hB.size
    by_cases hk : (k : Int) ≤ s.size
    · obtain ⟨hgo, hkk, hno⟩ := hS.goes (by omega)
      clear hS
      obtain ⟨ln, hln⟩ : ∃ ln, ln = (s.data.toList.drop frm).take (k - frm) := ⟨_, rfl⟩
      rw [← hln] at hno
      have hsl := size_list s
      by_cases hend : ((k : Int) = s.size ∨ ∃ hks : k < s.size, (s[k]'hks).toNat = 10)
      · have HN : Hid (okAll (chop ln) ∧ (k + 1 = s.size + 1 → D ++ oneOf ln line = G) ∧ (k + 1 ≤ s.size → (run ⟨D ++ oneOf ln line, none, line + 1, 1, false⟩ (chop (s.data.toList.drop (k + 1)))).all = G ∧ okAll (chop (s.data.toList.drop (k + 1))))) := by
          by_cases hke : k = s.size
          · have e : ln = s.data.toList.drop frm := by rw [hln, List.take_of_length_le]; rw [List.length_drop, hsl]; omega
            rw [← e] at hgo hkk
            rw [run_one ln hno] at hgo
            exact ⟨hkk, fun _ => hgo, fun hh => by omega⟩
          · have hks : k < s.size := by omega
            have hb10 : (s[k]'hks).toNat = 10 := by
              rcases hend with hh | ⟨_, hh⟩
              · omega
              · exact hh
            obtain ⟨b, hd, hb⟩ := byte_at hks
            have hbe : b = 10 := UInt8.toNat_inj.1 (by rw [← hb, hb10]; rfl)
            subst hbe
            have e := (take_more _ frm k 10 hfk hd).2
            rw [← hln] at e
            rw [e] at hgo hkk
            rw [run_more ln _ hno] at hgo
            rw [chop_at 10 (by decide), okAll_append, okAll_cons] at hkk
            exact ⟨hkk.1, fun hh => by omega, fun _ => ⟨hgo, hkk.2.2⟩⟩
        obtain ⟨U, hU⟩ : ∃ U, s.extract frm k = U := ⟨_, rfl⟩
        have hUl : U.data.toList = ln := by rw [← hU, extract_list, hln]
        have hUz : U.size ≤ k - frm := by rw [← size_list, hUl, hln, List.length_take]; omega
        have H1 := one_any U line (by omega) (by rw [hUl]; exact HN.out.1) (by rw [hUl]; exact hno)
        have hol := one_len U.data.toList line
        rw [size_list] at hol
        rw [← hUl] at HN
        generalize oneOf U.data.toList line = E at H1 HN hol
        clear hgo hkk hno hln hUl hsl
        have hcases : (((k : Int) == s.size) = true) ∨ (((k : Int) == s.size) = false ∧ ∃ hks : k < s.size, (s[k]'hks).toNat = 10) := by
          by_cases hke : (k : Int) = s.size
          · left; rw [beq_iff_eq]; exact hke
          · right
            refine ⟨by rw [beq_eq_false_iff_ne]; exact hke, ?_⟩
            rcases hend with hh | hh
            · exact (hke hh).elim
            · exact hh
        clear hend
        rcases hcases with hke | ⟨hke, hks, hb10⟩
        all_goals
          go_wp2_with fail
          refine (H1 _).mono ?_
          rintro e w2 ⟨g, cap, rfl, hE, hB2⟩
          have hO2 := hO.below hB2
          have hsz2 := hB2.size
          have hEc := World.ownsRow.cells hE (g := g) rfl
          go_wp2_with (at_builtin; refine wpList_append_own _ rfl _ _ 61 rfl w.heap.size 70 i0 _ 3 32 Tryd.underlying61 hi hz0 hz1 hz2 rfl (by decide) _ _ _ rfl hO2 ⟨g, 0, none⟩ E.length cap (cellsW E) rfl (cellsW_length E) hEc (cellsW_ones E) ?c3 ?c4 ?c5 ?_)
          case c3 => unfold maxLen; omega
          case c4 => omega
          case c5 => omega
          intro v' w3 hown' hgrow _
          have hO3 := own_more hown'
          have hB3 : Below w.heap.size w w3 := (hB.trans (hB2.mono hsz)).grown hgrow (by omega) (fun j hj => (hO2.lt j hj).1)
          clear hown' hgrow hE hEc
          go_wp2_with fail
          go_roundw
          case rel => exact ⟨k + 1, k + 1, line + 1, D ++ E, by go_num, by go_num, by go_num, hO3, hB3, Nat.le_refl _, by omega, HN.out.2.1, fun hh => ⟨(HN.out.2.2 hh).1, (HN.out.2.2 hh).2, by simp⟩, by simp; omega, by omega⟩
          case measure => simp [intOf]; omega
      · have hke : ((k : Int) == s.size) = false := by rw [beq_eq_false_iff_ne]; exact fun e => hend (Or.inl e)
        have hks : k < s.size := by
          have : (k : Int) ≠ s.size := fun e => hend (Or.inl e)
          omega
        obtain ⟨b, hd, hb⟩ := byte_at hks
        have hbn : b ≠ 10 := fun e => hend (Or.inr ⟨hks, by rw [hb, e]; rfl⟩)
        have hno2 : (10 : UInt8) ∉ (s.data.toList.drop frm).take (k + 1 - frm) := by
          rw [(take_more _ frm k b hfk hd).1, ← hln]
          intro hm
          rcases List.mem_append.1 hm with hm | hm
          · exact hno hm
          · exact hbn (List.mem_singleton.1 hm).symm
        obtain ⟨x, hx⟩ : ∃ x, b.toNat = x := ⟨_, rfl⟩
        rw [hx] at hb
        have hxb : ((x : Int) == 10) = false := by
          rw [beq_eq_false_iff_ne]
          intro e
          exact hbn (UInt8.toNat_inj.1 (by rw [hx]; show x = 10; omega))
        have HN : Hid ((run ⟨D, none, line, 1, false⟩ (chop (s.data.toList.drop frm))).all = G ∧ okAll (chop (s.data.toList.drop frm)) ∧ (10 : UInt8) ∉ (s.data.toList.drop frm).take (k + 1 - frm)) := ⟨hgo, hkk, hno2⟩
        clear hend hbn hx hd hno hno2 hgo hkk hln
        go_wp2_with fail
        go_roundw
        case rel => exact ⟨k + 1, frm, line, D, rfl, rfl, by go_num, hO, hB, by omega, by omega, fun e => by omega, fun _ => HN.out, by omega, by omega⟩
        case measure => simp [intOf]; omega
    · have hD := hS.ends (by omega)
      subst hD
      clear hS
      go_wp2
      exact bodyPost_ret (v := .tuple #[_, .int .i64 0, .int .i64 0, .int .i64 0]) (by simp [results, Tryd.results35, go_sem]) rfl ⟨_, rfl, hO, hB⟩

set_option maxHeartbeats 1000000 in
theorem ref_over (s : ByteArray) (h : (s.size : Int) > 4096) (w : World) : Calls Tryd.prog 35 #[.string s] w (Said w ⟨[], 13, 0, 0⟩) := by
  go_enter Tryd.func35, Tryd.ntmps35
  go_wp2
  exact bodyPost_ret (v := .tuple #[.slice (some ⟨w.heap.size, 0, none⟩) 0 0, .int .i64 13, .int .i64 0, .int .i64 0]) (by simp [results, Tryd.results35, go_sem]) rfl ⟨_, rfl, World.ownsRow_made w #[] 0 (Nat.le_refl _) (Nat.zero_le _) rfl, below1 _ _⟩

set_option maxHeartbeats 1000000 in
theorem ref_bad (s : ByteArray) (h : ¬ (s.size : Int) > 4096) (p q : Nat) (hb : bad (chop s.data.toList) 1 1 = (p, q)) (hp : (p : Int) > 0) (w : World) : Calls Tryd.prog 35 #[.string s] w (Said w ⟨[], 2, p, q⟩) := by
  have H := fun w => refBad_any s (by omega) w
  rw [hb] at H
  go_enter Tryd.func35, Tryd.ntmps35
  go_wp2_with fail
  refine (H _).mono ?_
  rintro e w1 ⟨rfl, rfl⟩
  go_wp2
  exact bodyPost_ret (v := .tuple #[.slice (some ⟨w.heap.size, 0, none⟩) 0 0, .int .i64 2, .int .i64 p, .int .i64 q]) (by simp [results, Tryd.results35, go_sem]) rfl ⟨_, rfl, World.ownsRow_made w #[] 0 (Nat.le_refl _) (Nat.zero_le _) rfl, below1 _ _⟩

theorem ref_any (s : ByteArray) (w : World) : Calls Tryd.prog 35 #[.string s] w (Said w (ansOf s.data.toList)) := by
  by_cases h : (s.size : Int) > 4096
  · rw [ans_over (by rw [size_list]; omega)]; exact ref_over s h w
  · have hl : s.data.toList.length ≤ 4096 := by rw [size_list]; omega
    by_cases hk : okAll (chop s.data.toList)
    · rw [ans_ok hl hk]; exact lines_walk s h hk w
    · rw [ans_bad hl hk]
      have := bad_not (chop s.data.toList) 1 1 (by omega) (by omega) hk
      exact ref_bad s h _ _ rfl (by omega) w

end Go.Proofs.YtmhjoomkeidcaaaDoor.L3
