/-
  What the document's own answer for the words of one line comes to.
-/
import Derived.Test.YtmhjoomkeidcaaaDoorL3Bad
namespace Go.Proofs.YtmhjoomkeidcaaaDoor.L3
open Go.RowKit

theorem ba_eta (T : ByteArray) : (⟨T.data.toList.toArray⟩ : ByteArray) = T := by simp
theorem ba_append (a b : ByteArray) : (a ++ b).data.toList = a.data.toList ++ b.data.toList := by simp
theorem ba_ne {T : ByteArray} (h : T.data.toList ≠ []) : T.toList.isEmpty = false := by
  rw [ByteArray.toList_eq]
  cases h' : T.data.toList with
  | nil => exact (h h').elim
  | cons a t => rfl
theorem ba_nil {T : ByteArray} (h : T.data.toList = []) : T = ⟨#[]⟩ := ByteArray.ext (Array.toList_inj.1 h)

/-- A text up to a byte, of which a part was looked at. -/
def CutAt (x : UInt8) (s u : ByteArray) (k : Nat) : Prop := (u = s ∧ k ≤ s.size ∧ x ∉ s.data.toList.take k) ∨ (u.data.toList = cut x s.data.toList ∧ k = u.size + 1 ∧ u.size < s.size)

theorem CutAt.done {x : UInt8} {s u : ByteArray} {k : Nat} (h : CutAt x s u k) (hk : ¬ k < u.size) : u.data.toList = cut x s.data.toList ∧ u.size ≤ s.size := by
  rcases h with ⟨rfl, h1, h2⟩ | ⟨h, _, h3⟩
  · rw [List.take_of_length_le (by rw [size_list]; omega)] at h2
    exact ⟨(cut_all x _ h2).symm, Nat.le_refl _⟩
  · exact ⟨h, by omega⟩
theorem CutAt.at {x : UInt8} {s u : ByteArray} {k : Nat} (h : CutAt x s u k) (hk : k < u.size) : u = s ∧ x ∉ s.data.toList.take k := by
  rcases h with ⟨rfl, h1, h2⟩ | ⟨h, h1, _⟩
  · exact ⟨rfl, h2⟩
  · omega
theorem CutAt.next {x b : UInt8} {s : ByteArray} {k : Nat} (hk : k < s.size) (h : x ∉ s.data.toList.take k) (hd : s.data.toList.drop k = b :: s.data.toList.drop (k + 1)) (hb : b ≠ x) : CutAt x s s (k + 1) := by
  refine Or.inl ⟨rfl, by omega, ?_⟩
  rw [List.take_add, hd]
  simp only [List.take_succ_cons, List.take_zero, List.mem_append, List.mem_singleton]
  rintro (e | e)
  · exact h e
  · exact hb e.symm
theorem CutAt.found {x b : UInt8} {s : ByteArray} {k : Nat} (hk : k < s.size) (h : x ∉ s.data.toList.take k) (hd : s.data.toList.drop k = b :: s.data.toList.drop (k + 1)) (hb : b = x) : CutAt x s (s.extract 0 k) (k + 1) := by
  have e : s.data.toList = s.data.toList.take k ++ x :: s.data.toList.drop (k + 1) := by
    rw [← hb, ← hd, List.take_append_drop]
  have e2 : (s.extract 0 k).data.toList = s.data.toList.take k := by rw [extract_list]; simp
  have e3 : (s.extract 0 k).size = k := by rw [← size_list, e2, List.length_take, size_list]; omega
  refine Or.inr ⟨?_, by rw [e3], by rw [e3]; exact hk⟩
  rw [e2]
  conv => rhs; rw [e]
  rw [cut_at x _ _ h]

/-- The word that goes on, if one does. -/
def curOf (t : List UInt8) (line p : Nat) : Option Wd := if t = [] then none else some ⟨t, line, p⟩
theorem curOf_nil (line p : Nat) : curOf [] line p = none := rfl
theorem curOf_some {t : List UInt8} (h : t ≠ []) (line p : Nat) : curOf t line p = some ⟨t, line, p⟩ := if_neg h

/-- Where the walk of a line stands. -/
structure OneAt (u : ByteArray) (F : St) (w : World) (line pos col : Nat) (D : List Wd) (T : ByteArray) (p : Nat) (v : Value) (wr : World) : Prop where
  own : Own wr w.heap.size v D
  form : ∃ g cap, v = .slice (some ⟨g, 0, none⟩) D.length cap
  below : Below w.heap.size w wr
  goes : run ⟨D, curOf T.data.toList line p, line, col + 1, false⟩ (chop (u.data.toList.drop pos)) = F
  ok : okAll (chop (u.data.toList.drop pos))
  len : D.length ≤ pos
  colz : col ≤ pos
  posz : pos ≤ u.size
  textz : T.size ≤ pos

theorem run_blank (D : List Wd) (cur : Option Wd) (line col : Nat) (cs : List (List UInt8)) : run ⟨D, cur, line, col, false⟩ ([32] :: cs) = run ⟨D ++ cur.toList, none, line, col + 1, false⟩ cs := by
  rw [run_cons]
  rfl
theorem run_sign (D : List Wd) (cur : Option Wd) (line col : Nat) (c : List UInt8) (cs : List (List UInt8)) (h1 : c ≠ [35]) (h2 : c ≠ [10]) (h3 : c ≠ [32]) : run ⟨D, cur, line, col, false⟩ (c :: cs) = run ⟨D, some (more cur c line col), line, col + 1, false⟩ cs := by
  rw [run_cons]
  have hr : remN false c = false := by simp [remN, h1]
  have hi : inN false c = true := by simp [inN, h2, h3]
  unfold step
  simp only [hr, hi, if_true]
  rw [show nextL line c = line by unfold nextL; rw [if_neg h2], show nextC col c = col + 1 by unfold nextC; rw [if_neg h2]]

theorem own_word {w3 : World} {B g cap line p : Nat} {D : List Wd} {T : ByteArray} (h : w3.ownsRow B 70 3 (.slice (some ⟨g, 0, none⟩) (D.length + 1) cap) (D.length + 1) (cellsW D ++ [.string T, .int .i64 line, .int .i64 p])) :
    Own w3 B (.slice (some ⟨g, 0, none⟩) (D.length + 1) cap) (D ++ [⟨T.data.toList, line, p⟩]) := by
  unfold Own
  rw [cellsW_append, List.length_append, cellsW_one]
  simp only [ba_eta]
  exact h

set_option maxHeartbeats 2000000 in
theorem one_any (s : ByteArray) (line : Nat) (hz : s.size ≤ 4096) (hok : okAll (chop s.data.toList)) (h10 : (10 : UInt8) ∉ s.data.toList) (w : World) :
    Calls Tryd.prog 61 #[.string s, .int .i64 line] w fun e w' => ∃ g cap, e = .returned (.slice (some ⟨g, 0, none⟩) (oneOf s.data.toList line).length cap) ∧ Own w' w.heap.size (.slice (some ⟨g, 0, none⟩) (oneOf s.data.toList line).length cap) (oneOf s.data.toList line) ∧ Below w.heap.size w w' := by
  obtain ⟨i0, hi, hz0, hz1, hz2⟩ := info_parts info70
  have HOK : Hid (okAll (chop s.data.toList) ∧ (10 : UInt8) ∉ s.data.toList) := ⟨hok, h10⟩
  clear hok h10
  obtain ⟨F, hF⟩ : ∃ F, run ⟨[], none, line, 1, false⟩ (chop (cut 35 s.data.toList)) = F := ⟨_, rfl⟩
  rw [show oneOf s.data.toList line = F.all by rw [← hF]; rfl]
  have HF : Hid (run ⟨[], none, line, 1, false⟩ (chop (cut 35 s.data.toList)) = F) := hF
  clear hF
  go_enter Tryd.func61, Tryd.ntmps61
  go_wp2
  go_loop [0, 6] (fun sv iv => ∃ (u : ByteArray) (k : Nat), sv = .string u ∧ iv = .int .i64 k ∧ CutAt 35 s u k ∧ k ≤ s.size + 1) (fun _ i => s.size + 2 - (intOf i).toNat)
  case atStart => exact ⟨s, 0, rfl, rfl, Or.inl ⟨rfl, by omega, by simp⟩, by omega⟩
  case round =>
    obtain ⟨u, k, rfl, rfl, hcut, hkz⟩ := hrel
    by_cases hk : (k : Int) < u.size
    · obtain ⟨rfl, hno⟩ := hcut.at (by omega)
      have hks : k < u.size := by omega
      obtain ⟨b, hd, hb⟩ := byte_at hks
      by_cases hb35 : b = 35
      · have hC := CutAt.found hks hno hd hb35
        have hb2 : (u[k]'hks).toNat = 35 := by rw [hb, hb35]; rfl
        clear hb hcut hno hd hb35
        go_wp2
        go_round
        case rel => exact ⟨_, k + 1, rfl, by go_num, hC, by omega⟩
        case measure => simp [intOf]; omega
      · have hC := CutAt.next hks hno hd hb35
        obtain ⟨x, hx⟩ : ∃ x, b.toNat = x := ⟨_, rfl⟩
        rw [hx] at hb
        have hxb : ((x : Int) == 35) = false := by
          rw [beq_eq_false_iff_ne]
          intro e
          exact hb35 (UInt8.toNat_inj.1 (by rw [hx]; show x = 35; omega))
        clear hcut hno hd hb35 hx
        go_wp2
        go_round
        case rel => exact ⟨_, k + 1, rfl, by go_num, hC, by omega⟩
        case measure => simp [intOf]; omega
    · obtain ⟨hul, hus⟩ := hcut.done (by omega)
      have HF2 : Hid (run ⟨[], none, line, 1, false⟩ (chop u.data.toList) = F) := by rw [hul]; exact HF.out
      have HU : Hid (okAll (chop u.data.toList) ∧ (10 : UInt8) ∉ u.data.toList ∧ (35 : UInt8) ∉ u.data.toList) := by
        rw [hul]
        refine ⟨?_, fun e => HOK.out.2 ((List.takeWhile_prefix _).subset e), cut_not _ _⟩
        by_cases h35 : (35 : UInt8) ∈ s.data.toList
        · obtain ⟨r, hr⟩ := cut_part 35 _ h35
          have := HOK.out.1
          rw [hr, chop_at 35 (by decide), okAll_append] at this
          exact this.1
        · rw [cut_all 35 _ h35]; exact HOK.out.1
      clear hcut hkz HF hul
      go_wp2
      go_loopw [5, 7, 8, 9, 10] (fun v cv tv av iv wr => ∃ (pos col : Nat) (D : List Wd) (T : ByteArray) (p : Nat), cv = .int .i64 col ∧ tv = .string T ∧ av = .int .i64 p ∧ iv = .int .i64 pos ∧ OneAt u F w line pos col D T p v wr) (fun _ _ _ _ i _ => u.size - (intOf i).toNat)
      case atStart =>
        refine ⟨0, 0, [], ⟨#[]⟩, 0, rfl, rfl, rfl, rfl, World.ownsRow_made w #[] 0 (Nat.le_refl _) (Nat.zero_le _) rfl, ⟨_, _, rfl⟩, below1 _ _, ?_, ?_, Nat.le_refl _, Nat.le_refl _, Nat.zero_le _, Nat.le_refl _⟩
        · rw [List.drop_zero]; exact HF2.out
        · rw [List.drop_zero]; exact HU.out.1
      case round =>
        obtain ⟨pos, col, D, T, p, rfl, rfl, rfl, rfl, hS⟩ := hrel
        have hsz := hS.below.size
        have hlen := hS.len
        have hcol := hS.colz
        have htx := hS.textz
        by_cases hp : (pos : Int) < u.size
        · have hps : pos < u.size := by omega
          obtain ⟨b, hd, hb⟩ := byte_at hps
          obtain ⟨t, ht⟩ : ∃ t, u.data.toList.drop (pos + 1) = t := ⟨_, rfl⟩
          rw [ht] at hd
          have hW := wide_any (u.extract pos u.size)
          rw [extract_rest, hd] at hW
          have hgo := hS.goes
          have hkk := hS.ok
          rw [hd, chop_cons _ (by simp)] at hgo hkk
          rw [okAll_cons] at hkk
          have hwd : wide (b :: t) ≠ 0 := by rw [← take_wide _ (by simp)]; exact okC_wide hkk.1
          have hf : far (b :: t) = wide (b :: t) := by unfold far; omega
          have hwl := wide_length (b :: t)
          have hlen2 : (b :: t).length = u.size - pos := by rw [← hd, List.length_drop, size_list]
          have hm : ∀ x ∈ b :: t, x ∈ u.data.toList := fun x hx => by rw [← hd] at hx; exact List.mem_of_mem_drop hx
          have hc1 : (b :: t).take (far (b :: t)) ≠ [35] := fun e => HU.out.2.2 (hm _ (by rw [(take_is b t 35 (by decide)).1 e]; simp))
          have hc2 : (b :: t).take (far (b :: t)) ≠ [10] := fun e => HU.out.2.1 (hm _ (by rw [(take_is b t 10 (by decide)).1 e]; simp))
          have hc3 : (b :: t).take (far (b :: t)) = [32] ↔ b = 32 := take_is b t 32 (by decide)
          rw [hf] at hgo hkk hc1 hc2 hc3
          obtain ⟨n, hn⟩ : ∃ n, wide (b :: t) = n := ⟨_, rfl⟩
          rw [hn] at hgo hkk hc1 hc2 hc3 hwl hW hwd
          rw [hlen2] at hwl
          have hdn : (b :: t).drop n = u.data.toList.drop (pos + n) := by rw [← hd, List.drop_drop]
          obtain ⟨c, hc⟩ : ∃ c, c = (b :: t).take n := ⟨_, rfl⟩
          have hcx : (u.extract pos (pos + n)).data.toList = c := by rw [extract_list, hd, Nat.add_sub_cancel_left, hc]
          have hcl : c.length = n := by rw [hc, List.length_take, hlen2]; omega
          rw [← hc, hdn] at hgo
          rw [hdn] at hkk
          rw [← hc] at hc1 hc2 hc3
          have hO := hS.own
          have hfm := hS.form
          have hB := hS.below
          have HK : Hid (okAll (chop (u.data.toList.drop (pos + n)))) := hkk.2
          clear hS hd ht hkk hn hf hm hlen2 hdn hc
          by_cases hb32 : b = 32
          · rw [hc3.2 hb32, run_blank] at hgo
            have hb2 : (u[pos]'hps).toNat = 32 := by rw [hb, hb32]; rfl
            clear hb hc1 hc2 hc3
            by_cases hT : T.data.toList = []
            · rw [hT, curOf_nil] at hgo
              simp only [Option.toList_none, List.append_nil] at hgo
              have HG : Hid (run ⟨D, none, line, col + 1 + 1, false⟩ (chop (u.data.toList.drop (pos + n))) = F) := hgo
              clear hgo
              obtain rfl := ba_nil hT
              go_wp2_with fail
              refine (hW _).mono ?_
              rintro e w1 ⟨rfl, rfl⟩
              go_wp2_with fail
              go_roundw
              case rel => exact ⟨pos + n, col + 1, D, ⟨#[]⟩, p, by go_num, rfl, rfl, by go_num, hO, hfm, hB, HG.out, HK.out, by omega, by omega, by omega, Nat.zero_le _⟩
              case measure => simp [intOf]; omega
            · rw [curOf_some hT] at hgo
              have HG : Hid (run ⟨D ++ [⟨T.data.toList, line, p⟩], none, line, col + 1 + 1, false⟩ (chop (u.data.toList.drop (pos + n))) = F) := hgo
              have hne := ba_ne hT
              clear hgo hT
              go_wp2_with fail
              refine (hW _).mono ?_
              rintro e w1 ⟨rfl, rfl⟩
              go_wp2_with (at_builtin; refine wpList_append_lies _ rfl _ _ 61 rfl w.heap.size 70 i0 _ 3 32 Tryd.underlying61 hi hz0 hz1 hz2 rfl (by decide) _ _ _ rfl (hO.alloc _) ⟨w1.heap.size, 0, none⟩ 1 1 [.string T, .int .i64 line, .int .i64 p] rfl rfl ?c1 ?c2 (by decide) ?c3 ?c4 ?c5 _ rfl ?_)
              case c1 => exact news3 _ _ rfl _ _ _
              case c2 => exact ones3 _ _ _
              case c3 => unfold maxLen; omega
              case c4 => omega
              case c5 => simp; omega
              intro g cap w3 hown' hgrow hwhere hglt
              have hO3 := own_word hown'
              have hB3 : Below w.heap.size w w3 := (hB.alloc hsz _).grown hgrow (by simp; omega) (fun j hj => (hO.lt j hj).1)
              clear hown' hgrow hwhere
              go_wp2_with fail
              go_roundw
              case rel => exact ⟨pos + n, col + 1, D ++ [⟨T.data.toList, line, p⟩], ⟨#[]⟩, p, by go_num, rfl, rfl, by go_num, hO3, ⟨g, cap, by rw [List.length_append]; rfl⟩, hB3, HG.out, HK.out, by simp; omega, by omega, by omega, Nat.zero_le _⟩
              case measure => simp [intOf]; omega
          · rw [run_sign _ _ _ _ _ _ hc1 hc2 (fun e => hb32 (hc3.1 e))] at hgo
            obtain ⟨x, hx⟩ : ∃ x, b.toNat = x := ⟨_, rfl⟩
            rw [hx] at hb
            have hxb : ((x : Int) == 32) = false := by
              rw [beq_eq_false_iff_ne]
              intro e
              exact hb32 (UInt8.toNat_inj.1 (by rw [hx]; show x = 32; omega))
            clear hc1 hc2 hc3 hb32 hx
            have hcn : c ≠ [] := fun e => by rw [e] at hcl; simp at hcl; omega
            obtain ⟨U, hU⟩ : ∃ U, U = u.extract pos (pos + n) := ⟨_, rfl⟩
            rw [← hU] at hcx
            have hUz : U.size = n := by rw [← size_list, hcx, hcl]
            have HUX : Hid (u.extract pos (pos + n) = U) := hU.symm
            clear hU
            by_cases hT : T.data.toList = []
            · rw [hT, curOf_nil] at hgo
              have HG : Hid (run ⟨D, curOf c line (col + 1), line, col + 1 + 1, false⟩ (chop (u.data.toList.drop (pos + n))) = F) := by rw [curOf_some hcn]; exact hgo
              clear hgo
              obtain rfl := ba_nil hT
              have HCX : Hid (U.data.toList = c) := hcx
              clear hcx
              go_wp2_with fail
              refine (hW _).mono ?_
              rintro e w1 ⟨rfl, rfl⟩
              go_wp2_with fail
              have hTz : ((⟨#[]⟩ : ByteArray) ++ u.extract pos (pos + n)).size ≤ pos + n := by
                rw [← size_list, ba_append, HUX.out, List.length_append, size_list, size_list, hUz]; show 0 + n ≤ pos + n; omega
              have hTl : ((⟨#[]⟩ : ByteArray) ++ u.extract pos (pos + n)).data.toList = c := by rw [ba_append, HUX.out, HCX.out]; rfl
              go_roundw
              case rel => exact ⟨pos + n, col + 1, D, _, col + 1, by go_num, rfl, by go_num, by go_num, hO, hfm, hB, by rw [hTl]; exact HG.out, HK.out, by omega, by omega, by omega, hTz⟩
              case measure => simp [intOf]; omega
            · rw [curOf_some hT] at hgo
              have hne := ba_ne hT
              have HG : Hid (run ⟨D, curOf (T.data.toList ++ c) line p, line, col + 1 + 1, false⟩ (chop (u.data.toList.drop (pos + n))) = F) := by rw [curOf_some (by simp [hcn])]; exact hgo
              have HCX : Hid (U.data.toList = c) := hcx
              clear hcx hgo hT
              go_wp2_with fail
              refine (hW _).mono ?_
              rintro e w1 ⟨rfl, rfl⟩
              go_wp2_with fail
              have hTz : (T ++ u.extract pos (pos + n)).size ≤ pos + n := by
                rw [← size_list, ba_append, HUX.out, List.length_append, size_list, size_list, hUz]; omega
              have hTl : (T ++ u.extract pos (pos + n)).data.toList = T.data.toList ++ c := by rw [ba_append, HUX.out, HCX.out]
              go_roundw
              case rel => exact ⟨pos + n, col + 1, D, _, p, by go_num, rfl, rfl, by go_num, hO, hfm, hB, by rw [hTl]; exact HG.out, HK.out, by omega, by omega, by omega, hTz⟩
              case measure => simp [intOf]; omega
        · have hFe : F = ⟨D, curOf T.data.toList line p, line, col + 1, false⟩ := by
            rw [← hS.goes, List.drop_of_length_le (by rw [size_list]; omega), chop_nil]; rfl
          have hO := hS.own
          have hfm := hS.form
          have hB := hS.below
          have hpz := hS.posz
          clear hS
          by_cases hT : T.data.toList = []
          · have hFa : F.all = D := by rw [hFe, hT, curOf_nil]; simp [St.all]
            clear hFe
            obtain rfl := ba_nil hT
            have HFA : Hid (F.all = D) := hFa
            clear hFa
            obtain ⟨g, cap, rfl⟩ := hfm
            go_wp2
            go_ret
            rw [HFA.out]
            exact ⟨g, cap, rfl, hO, hB⟩
          · have hFa : F.all = D ++ [⟨T.data.toList, line, p⟩] := by rw [hFe, curOf_some hT]; simp [St.all]
            have hne := ba_ne hT
            have HFA : Hid (F.all = D ++ [⟨T.data.toList, line, p⟩]) := hFa
            clear hFe hFa hT
            go_wp2_with (at_builtin; refine wpList_append_lies _ rfl _ _ 61 rfl w.heap.size 70 i0 _ 3 32 Tryd.underlying61 hi hz0 hz1 hz2 rfl (by decide) _ _ _ rfl (hO.alloc _) ⟨wr.heap.size, 0, none⟩ 1 1 [.string T, .int .i64 line, .int .i64 p] rfl rfl ?c1 ?c2 (by decide) ?c3 ?c4 ?c5 _ rfl ?_)
            case c2 => exact ⟨rfl, rfl, rfl⟩
            case c3 => unfold maxLen; omega
            case c4 => omega
            case c5 => omega
            intro g cap w3 hown' hgrow hwhere hglt
            have hO3 := own_word hown'
            have hB3 : Below w.heap.size w w3 := (hB.alloc hsz _).grown hgrow (by simp; omega) (fun j hj => (hO.lt j hj).1)
            clear hown' hgrow hwhere
            go_wp2
            go_ret
            rw [HFA.out]
            refine ⟨g, cap, ?_, ?_, hB3⟩
            · rw [List.length_append]; rfl
            · rw [List.length_append]; exact hO3

end Go.Proofs.YtmhjoomkeidcaaaDoor.L3
