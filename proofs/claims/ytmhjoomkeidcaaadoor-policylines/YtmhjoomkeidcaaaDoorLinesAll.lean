/-
  The texts BLines, BPol, BFold, LMath, Same, Back, Lines and LinesProof as one: called with any policy and any byte, the law PolicyLines returns true and leaves its arguments as they were; the library's listed tables hold what the program's text lays when the call begins.
-/
import Derived.Test.YtmhjoomkeidcaaaDoorPSpec
import Derived.Test.YtmhjoomkeidcaaaDoorPText
import Derived.Test.YtmhjoomkeidcaaaDoorPrint
import Derived.Test.YtmhjoomkeidcaaaDoorRefSmall
import Derived.BigQuiet
import Derived.Test.YtmhjoomkeidcaaaDoorAwake
import Derived.Deep.DeepCutAuto
import Derived.Deep.RegionWith
import Derived.Deep.DrawnRows
import Derived.Test.YtmhjoomkeidcaaaDoorOpen
namespace Go.Proofs.YtmhjoomkeidcaaaDoor
open Go.RowKit L2
open L3 (Wd ansOf chop okAll okC wide run step St oneOf wordsOf)

/-- Runes that may be, none of them a blank, a line's end or a remark's sign. -/
def Runes (l : List UInt8) : Prop := ∃ cs : List (List UInt8), l = cs.flatten ∧ ∀ c ∈ cs, okC c = true ∧ wide c = c.length ∧ c ≠ [] ∧ (32 : UInt8) ∉ c ∧ (35 : UInt8) ∉ c ∧ (10 : UInt8) ∉ c

theorem Runes.nil : Runes [] := ⟨[], rfl, fun _ h => by cases h⟩
theorem Runes.append {a b : List UInt8} (h : Runes a) (k : Runes b) : Runes (a ++ b) := by
  obtain ⟨cs, rfl, h1⟩ := h
  obtain ⟨ds, rfl, h2⟩ := k
  refine ⟨cs ++ ds, by simp, fun c hc => ?_⟩
  rcases List.mem_append.1 hc with hc | hc
  · exact h1 c hc
  · exact h2 c hc
theorem Runes.one {c : List UInt8} (h : okC c = true ∧ wide c = c.length ∧ c ≠ [] ∧ (32 : UInt8) ∉ c ∧ (35 : UInt8) ∉ c ∧ (10 : UInt8) ∉ c) : Runes c := ⟨[c], by simp, fun d hd => by simp at hd; subst hd; exact h⟩
theorem ne8 {x y : UInt8} (h : x.toNat ≠ y.toNat) : x ≠ y := fun e => h (by rw [e])
theorem runes_low (x : UInt8) (h : 36 ≤ x.toNat) (h' : x.toNat ≤ 126) : Runes [x] := by
  refine Runes.one ⟨?_, L3.wide_low (by omega), by simp, ?_, ?_, ?_⟩
  · simp only [okC, L3.wide_low (show x.toNat < 128 by omega)]
    rw [decide_eq_false (show ¬ x.toNat < 32 by omega), decide_eq_false (show ¬ x.toNat = 127 by omega)]
    rfl
  all_goals
    simp only [List.mem_singleton]
    exact ne8 (by simp; omega)
theorem runes_two (a b : UInt8) (h : 194 ≤ a.toNat) (h' : a.toNat ≤ 223) (h1 : 128 ≤ b.toNat) (h1' : b.toNat ≤ 191) : Runes [a, b] := by
  have hw := L3.wide_two a b [] h h' h1 h1'
  refine Runes.one ⟨?_, hw, by simp, ?_, ?_, ?_⟩
  · simp only [okC, hw]
    rw [decide_eq_false (show ¬ a.toNat < 32 by omega), decide_eq_false (show ¬ a.toNat = 127 by omega)]
    rfl
  all_goals
    simp only [List.mem_cons, List.not_mem_nil, or_false, not_or]
    exact ⟨ne8 (by simp; omega), ne8 (by simp; omega)⟩

theorem Runes.chop {l : List UInt8} (h : Runes l) : okAll (chop l) ∧ (∀ c ∈ chop l, c ≠ [32] ∧ c ≠ [35] ∧ c ≠ [10]) ∧ (32 : UInt8) ∉ l ∧ (35 : UInt8) ∉ l ∧ (10 : UInt8) ∉ l := by
  obtain ⟨cs, rfl, hc⟩ := h
  rw [L3.chop_back cs (fun c h => ⟨(hc c h).2.1, (hc c h).2.2.1⟩)]
  have no : ∀ x : UInt8, (∀ c ∈ cs, x ∉ c) → x ∉ cs.flatten := fun x hx hm => by
    obtain ⟨c, h1, h2⟩ := List.mem_flatten.1 hm
    exact hx c h1 h2
  refine ⟨fun c h => (hc c h).1, fun c h => ⟨?_, ?_, ?_⟩, no 32 fun c h => (hc c h).2.2.2.1, no 35 fun c h => (hc c h).2.2.2.2.1, no 10 fun c h => (hc c h).2.2.2.2.2⟩
  · intro e; exact (hc c h).2.2.2.1 (by rw [e]; simp)
  · intro e; exact (hc c h).2.2.2.2.1 (by rw [e]; simp)
  · intro e; exact (hc c h).2.2.2.2.2 (by rw [e]; simp)

/-- A word that stands in a text as it is. -/
def GoodW (u : List UInt8) : Prop := u ≠ [] ∧ Runes u

theorem run_chunks (line : Nat) : ∀ (cs : List (List UInt8)) (D : List Wd) (x : Wd) (col : Nat), (∀ c ∈ cs, c ≠ [32] ∧ c ≠ [35] ∧ c ≠ [10]) →
    ∃ col', run ⟨D, some x, line, col, false⟩ cs = ⟨D, some ⟨x.text ++ cs.flatten, x.line, x.col⟩, line, col', false⟩
  | [], D, x, col, _ => ⟨col, by simp [L3.run_nil]⟩
  | c :: cs, D, x, col, h => by
    obtain ⟨h1, h2, h3⟩ := h c (by simp)
    obtain ⟨col', e⟩ := run_chunks line cs D ⟨x.text ++ c, x.line, x.col⟩ (col + 1) (fun d hd => h d (by simp [hd]))
    refine ⟨col', ?_⟩
    rw [L3.run_sign D (some x) line col c cs h2 h3 h1]
    simp only [L3.more]
    rw [e]
    simp
theorem run_word {u : List UInt8} (h : GoodW u) (D : List Wd) (line col : Nat) : ∃ col', run ⟨D, none, line, col, false⟩ (chop u) = ⟨D, some ⟨u, line, col⟩, line, col', false⟩ := by
  have hc := h.2.chop
  have hj := L3.chop_join _ u (Nat.le_refl _)
  cases hcs : chop u with
  | nil => rw [hcs] at hj; exact (h.1 hj.symm).elim
  | cons c cs =>
    rw [hcs] at hc hj
    obtain ⟨h1, h2, h3⟩ := hc.2.1 c (by simp)
    obtain ⟨col', e⟩ := run_chunks line cs D ⟨c, line, col⟩ (col + 1) (fun d hd => hc.2.1 d (by simp [hd]))
    refine ⟨col', ?_⟩
    rw [L3.run_sign D none line col c cs h2 h3 h1]
    simp only [L3.more]
    rw [e]
    simp at hj ⊢
    exact hj

theorem join_two (u v : List UInt8) (r : List (List UInt8)) : Lib.join (u :: v :: r) [32] = u ++ 32 :: Lib.join (v :: r) [32] := by
  rw [Lib.join_cons, Lib.join_cons]
  simp [Lib.joinTail]

/-- The words of a line are those that were laid together. -/
theorem run_join (line : Nat) : ∀ (ws : List (List UInt8)) (D : List Wd) (col : Nat), ws ≠ [] → (∀ u ∈ ws, GoodW u) →
    ∃ L : List Wd, (run ⟨D, none, line, col, false⟩ (chop (Lib.join ws [32]))).all = D ++ L ∧ L.map (·.text) = ws ∧ ∀ x ∈ L, x.line = line
  | [], _, _, h, _ => (h rfl).elim
  | [u], D, col, _, h => by
    obtain ⟨c', e⟩ := run_word (h u (by simp)) D line col
    refine ⟨[⟨u, line, col⟩], ?_, rfl, fun x hx => by simp at hx; subst hx; rfl⟩
    rw [Lib.join_one, e]
    simp [St.all]
  | u :: v :: r, D, col, _, h => by
    obtain ⟨c', e⟩ := run_word (h u (by simp)) D line col
    obtain ⟨L, e2, e3, e4⟩ := run_join line (v :: r) (D ++ [⟨u, line, col⟩]) (c' + 1) (by simp) (fun x hx => h x (by simp [hx]))
    refine ⟨⟨u, line, col⟩ :: L, ?_, by simp [e3], fun x hx => ?_⟩
    · rw [join_two, L3.chop_at 32 (by decide), L3.run_append, e, L3.run_blank]
      simp only [Option.toList_some]
      rw [e2]; simp
    · rcases List.mem_cons.1 hx with rfl | hx
      · rfl
      · exact e4 x hx
theorem join_no (x : UInt8) (hx : x ≠ 32) : ∀ (ws : List (List UInt8)), (∀ u ∈ ws, x ∉ u) → x ∉ Lib.join ws [32]
  | [], _ => by simp [Lib.join_nil]
  | [u], h => by rw [Lib.join_one]; exact h u (by simp)
  | u :: v :: r, h => by
    rw [join_two]
    simp only [List.mem_append, List.mem_cons, not_or]
    exact ⟨h u (by simp), hx, join_no x hx (v :: r) (fun y hy => h y (by simp [hy]))⟩
theorem okAll_join : ∀ (ws : List (List UInt8)), (∀ u ∈ ws, GoodW u) → okAll (chop (Lib.join ws [32]))
  | [], _ => by rw [Lib.join_nil, L3.chop_nil]; intro c hc; cases hc
  | [u], h => by rw [Lib.join_one]; exact (h u (by simp)).2.chop.1
  | u :: v :: r, h => by
    rw [join_two, L3.chop_at 32 (by decide), L3.okAll_append, L3.okAll_cons]
    exact ⟨(h u (by simp)).2.chop.1, by decide, okAll_join (v :: r) (fun y hy => h y (by simp [hy]))⟩

/-- A text of lines of words. -/
def linesText (rows : List (List (List UInt8))) : List UInt8 := rows.flatMap rowText
/-- Lines that have words, each of which stands as it is. -/
def GoodR (rows : List (List (List UInt8))) : Prop := ∀ r ∈ rows, r ≠ [] ∧ ∀ u ∈ r, GoodW u

/-- Words by lines, from a line on. -/
def Grp : Nat → List (List (List UInt8)) → List Wd → Prop
  | _, [], G => G = []
  | line, r :: rs, G => ∃ L G', G = L ++ G' ∧ L.map (·.text) = r ∧ (∀ x ∈ L, x.line = line) ∧ Grp (line + 1) rs G'

theorem lines_words : ∀ (rows : List (List (List UInt8))) (D : List Wd) (line : Nat), GoodR rows → ∃ G, (run ⟨D, none, line, 1, false⟩ (chop (linesText rows))).all = D ++ G ∧ Grp line rows G
  | [], D, line, _ => ⟨[], by simp [linesText, L3.chop_nil, L3.run_nil, St.all], rfl⟩
  | r :: rs, D, line, h => by
    obtain ⟨h1, h2⟩ := h r (by simp)
    have hno : (10 : UInt8) ∉ Lib.join r [32] := join_no 10 (by decide) r (fun u hu => (h2 u hu).2.chop.2.2.2.2)
    obtain ⟨L, e1, e2, e3⟩ := run_join line r [] 1 h1 h2
    have hone : oneOf (Lib.join r [32]) line = L := by
      have := L3.run_one (Lib.join r [32]) hno [] line
      rw [e1] at this
      simpa using this.symm
    obtain ⟨G, e4, e5⟩ := lines_words rs (D ++ L) (line + 1) (fun x hx => h x (by simp [hx]))
    refine ⟨L ++ G, ?_, L, G, rfl, e2, e3, e5⟩
    have e : linesText (r :: rs) = Lib.join r [32] ++ 10 :: linesText rs := by simp [linesText, rowText]
    rw [e, L3.run_more _ _ hno, hone, e4, List.append_assoc]
theorem okAll_lines : ∀ (rows : List (List (List UInt8))), GoodR rows → okAll (chop (linesText rows))
  | [], _ => by simp only [linesText, List.flatMap_nil, L3.chop_nil]; intro c hc; cases hc
  | r :: rs, h => by
    have e : linesText (r :: rs) = Lib.join r [32] ++ 10 :: linesText rs := by simp [linesText, rowText]
    rw [e, L3.chop_at 10 (by decide), L3.okAll_append, L3.okAll_cons]
    exact ⟨okAll_join r (h r (by simp)).2, by decide, okAll_lines rs (fun x hx => h x (by simp [hx]))⟩

theorem grp_lines : ∀ (rows : List (List (List UInt8))) (line : Nat) (G : List Wd), Grp line rows G → ∀ x ∈ G, line ≤ x.line
  | [], _, G, h, x, hx => by rw [show G = [] from h] at hx; cases hx
  | r :: rs, line, G, ⟨L, G', e, _, h3, h4⟩, x, hx => by
    subst e
    rcases List.mem_append.1 hx with hx | hx
    · rw [h3 x hx]; exact Nat.le_refl _
    · have := grp_lines rs (line + 1) G' h4 x hx; omega

theorem runLen_all (K : Nat) : ∀ (L G : List Wd), (∀ x ∈ L, x.line = K) → (∀ x ∈ G, x.line ≠ K) → runLen K (L ++ G) = L.length
  | [], [], _, _ => rfl
  | [], y :: G, _, h => by simp only [List.nil_append, runLen, List.length_nil]; rw [if_neg (h y (by simp))]
  | x :: L, G, h, h' => by
    simp only [List.cons_append, runLen, List.length_cons]
    rw [if_pos (h x (by simp)), runLen_all K L G (fun y hy => h y (by simp [hy])) h']
    omega

/-- Line by line, without the words' places. -/
def foldRows : Pol → Nat → List (List ByteArray) → Nat × Nat × Pol
  | p, _, [] => (0, 0, p)
  | p, line, r :: rs => if (lineOf p r).1 ≠ 0 then ((lineOf p r).1, line, pol0) else foldRows (lineOf p r).2 (line + 1) rs

/-- Words as texts of their own. -/
def mkB (r : List (List UInt8)) : List ByteArray := r.map fun u => ⟨u.toArray⟩
theorem txt_mk (L : List Wd) : txt L = mkB (L.map (·.text)) := by simp [txt, mkB]

theorem rows_fold : ∀ (rows : List (List (List UInt8))) (line : Nat) (G : List Wd) (n : Nat) (p : Pol), (∀ r ∈ rows, r ≠ []) → Grp line rows G → G.length ≤ n → rowsN n p G = foldRows p line (rows.map mkB)
  | [], line, G, n, p, _, h, _ => by
    rw [show G = [] from h, rowsN_nil]; rfl
  | r :: rs, line, G, n, p, hr, ⟨L, G', e, h2, h3, h4⟩, hn => by
    subst e
    have hL : L ≠ [] := fun e => hr r (by simp) (by rw [← h2, e]; rfl)
    obtain ⟨x, L', rfl⟩ : ∃ x L', L = x :: L' := by
      cases L with
      | nil => exact (hL rfl).elim
      | cons x L' => exact ⟨x, L', rfl⟩
    have hx : x.line = line := h3 x (by simp)
    have hlen : rowLen (x :: L' ++ G') = (x :: L').length := by
      simp only [List.cons_append, rowLen, List.length_cons]
      rw [runLen_all x.line L' G' (fun y hy => by rw [h3 y (by simp [hy]), hx]) (fun y hy => by have := grp_lines rs _ G' h4 y hy; omega)]
      omega
    have htake : (x :: L' ++ G').take (rowLen (x :: L' ++ G')) = x :: L' := by rw [hlen, List.take_left']; rfl
    have hdrop : (x :: L' ++ G').drop (rowLen (x :: L' ++ G')) = G' := by rw [hlen, List.drop_left']; rfl
    have htx : txt (x :: L') = mkB r := by rw [txt_mk, h2]
    simp only [List.map_cons, foldRows]
    by_cases he : (lineOf p (mkB r)).1 = 0
    · rw [rowsN_next (by simp) hn (by rw [htake, htx]; exact he), htake, hdrop, htx, if_neg (fun hh => hh he)]
      exact rows_fold rs (line + 1) G' (n - 1) _ (fun q hq => hr q (by simp [hq])) h4 (by simp at hn; omega)
    · rw [rowsN_bad (by simp) hn (by rw [htake, htx]; exact he), htake, htx, if_pos he]
      simp [wd, hx]

theorem parse_lines {rows : List (List (List UInt8))} (h : GoodR rows) (hl : (linesText rows).length ≤ 4096) : parseOf (linesText rows) = finish (foldRows pol0 1 (rows.map mkB)) := by
  have hk := okAll_lines rows h
  have ha := L3.ans_ok hl hk
  obtain ⟨G, e1, e2⟩ := lines_words rows [] 1 h
  have e3 : wordsOf (linesText rows) = G := by
    unfold wordsOf L3.start
    rw [e1]; rfl
  unfold parseOf
  rw [ha]
  simp only [ne_eq, not_true_eq_false, if_false]
  rw [e3, rows_fold rows 1 G G.length pol0 (fun r hr => (h r hr).1) e2 (Nat.le_refl _)]

theorem fold_append : ∀ (a b : List (List ByteArray)) (p : Pol) (line : Nat), (foldRows p line a).1 = 0 → foldRows p line (a ++ b) = foldRows (foldRows p line a).2.2 (line + a.length) b
  | [], b, p, line, _ => by simp [foldRows]
  | r :: a, b, p, line, h => by
    simp only [foldRows, List.cons_append] at h ⊢
    by_cases he : (lineOf p r).1 = 0
    · rw [if_neg (fun hh => hh he)] at h ⊢
      rw [if_neg (fun hh => hh he), fold_append a b _ _ h, List.length_cons, show line + (a.length + 1) = line + 1 + a.length by omega]
    · rw [if_pos he] at h; exact (he h).elim
theorem fold_prefix : ∀ (a b : List (List ByteArray)) (p : Pol) (line : Nat), (foldRows p line (a ++ b)).1 = 0 → (foldRows p line a).1 = 0
  | [], _, _, _, _ => rfl
  | r :: a, b, p, line, h => by
    simp only [foldRows, List.cons_append] at h ⊢
    by_cases he : (lineOf p r).1 = 0
    · rw [if_neg (fun hh => hh he)] at h ⊢
      exact fold_prefix a b _ _ h
    · rw [if_pos he] at h; exact (he h).elim

end Go.Proofs.YtmhjoomkeidcaaaDoor

namespace Go.Proofs.YtmhjoomkeidcaaaDoor
open Go.RowKit L2

/-- The lines of a policy, as words. -/
def rowsOf (p : Pol) : List (List (List UInt8)) := p.ds.map domWords ++ (p.ss.map (slotWords p.ds) ++ p.ls.map (linkWords p.ds))
theorem polText_rows (p : Pol) : polText p = linesText (rowsOf p) := by
  simp only [polText, linesText, rowsOf, List.flatMap_append, List.flatMap_map]
  rfl

theorem runes_letters : ∀ (l : List UInt8) (k : Nat), letters l = some k → Runes l
  | [], _, _ => Runes.nil
  | [a], k, h => by
    simp only [letters] at h
    split at h
    · exact runes_low a (by omega) (by omega)
    · cases h
  | a :: b :: r, k, h => by
    by_cases h1 : 97 ≤ a.toNat ∧ a.toNat ≤ 122
    · rw [letters_latin a _ h1] at h
      cases h2 : letters (b :: r) with
      | none => rw [h2] at h; cases h
      | some j => exact Runes.append (a := [a]) (runes_low a (by omega) (by omega)) (runes_letters (b :: r) j h2)
    · by_cases hg : 0 ≤ greekB a.toNat b.toNat ∧ greekB a.toNat b.toNat ≤ 24
      · rw [letters_greek a b r h1 hg] at h
        cases h2 : letters r with
        | none => rw [h2] at h; cases h
        | some j =>
          refine Runes.append (a := [a, b]) ?_ (runes_letters r j h2)
          unfold greekB at hg
          split at hg
          · exact runes_two a b (by omega) (by omega) (by omega) (by omega)
          · split at hg
            · exact runes_two a b (by omega) (by omega) (by omega) (by omega)
            · omega
      · rw [letters_other a b r h1 hg] at h; cases h
theorem good_name {s : ByteArray} (h : nameB s = true) : GoodW s.data.toList := by
  unfold nameB at h
  cases hl : letters s.data.toList with
  | none => rw [hl] at h; cases h
  | some k =>
    refine ⟨fun e => ?_, runes_letters _ k hl⟩
    rw [e] at hl
    simp only [letters, Option.some.injEq] at hl
    subst hl
    rw [e] at h
    exact absurd h (by decide)
theorem runes_signs (c : Nat) : ∀ (k n : Nat), n + k ≤ 16 → Runes (signsFrom c k n)
  | 0, _, _ => Runes.nil
  | k + 1, n, h => by
    rw [signsFrom]
    refine Runes.append ?_ (runes_signs c k (n + 1) (by omega))
    split
    · unfold signOf
      refine runes_two _ _ ?_ ?_ ?_ ?_
      all_goals rw [toUInt8_toNat _ (by omega)]
      all_goals omega
    · exact Runes.nil
theorem good_text {l : Nat} (c : Nat) (hl : l ≤ 7) : GoodW (textOf l c) := by
  refine ⟨by simp [textOf], ?_⟩
  have e : textOf l c = [(48 + l).toUInt8] ++ ([123] ++ (signsFrom c 16 0 ++ [125])) := rfl
  rw [e]
  refine Runes.append (runes_low _ ?_ ?_) (Runes.append (runes_low _ (by decide) (by decide)) (Runes.append (runes_signs c 16 0 (by omega)) (runes_low _ (by decide) (by decide))))
  all_goals rw [toUInt8_toNat _ (by omega)]
  all_goals omega
theorem dec_form {n : Nat} (h : n < 100) : (n < 10 ∧ Lib.decDigits n = [UInt8.ofNat (48 + n)]) ∨ (10 ≤ n ∧ Lib.decDigits n = [UInt8.ofNat (48 + n / 10), UInt8.ofNat (48 + n % 10)]) := by
  by_cases h1 : n < 10
  · left; rw [Lib.decDigits, dif_pos h1]; exact ⟨h1, rfl⟩
  · right; rw [Lib.decDigits, dif_neg h1, Lib.decDigits, dif_pos (by omega)]; exact ⟨by omega, rfl⟩
theorem ofNat_toNat {n : Nat} (h : n < 256) : (UInt8.ofNat n).toNat = n := by simp; omega
theorem good_dec {n : Nat} (h : n < 100) : GoodW (Lib.decDigits n) := by
  rcases dec_form h with ⟨h1, e⟩ | ⟨h1, e⟩
  · rw [e]; exact ⟨by simp, runes_low _ (by rw [ofNat_toNat (by omega)]; omega) (by rw [ofNat_toNat (by omega)]; omega)⟩
  · rw [e]
    refine ⟨by simp, Runes.append (a := [_]) (runes_low _ ?_ ?_) (runes_low _ ?_ ?_)⟩
    all_goals rw [ofNat_toNat (by omega)]
    all_goals omega
theorem num_dec {n : Nat} (h : n < 100) : numOf ⟨(Lib.decDigits n).toArray⟩ = some n := by
  unfold numOf
  rcases dec_form h with ⟨h1, e⟩ | ⟨h1, e⟩
  · rw [e]
    have hf : formB [UInt8.ofNat (48 + n)] = true := by simp [formB]
    simp only [hf, if_true, digs, ofNat_toNat (show 48 + n < 256 by omega)]
    rw [if_pos (by omega)]
    congr 1; omega
  · rw [e]
    have hf : formB [UInt8.ofNat (48 + n / 10), UInt8.ofNat (48 + n % 10)] = true := by
      simp only [formB, List.length_cons, List.length_nil, List.head?_cons, Option.some.injEq]
      refine decide_eq_true ⟨by omega, by omega, fun hh => ?_⟩
      have := congrArg UInt8.toNat hh.2
      rw [ofNat_toNat (by omega)] at this
      simp at this; omega
    simp only [hf, if_true, digs, ofNat_toNat (show 48 + n / 10 < 256 by omega), ofNat_toNat (show 48 + n % 10 < 256 by omega)]
    rw [if_pos (by omega), if_pos (by omega)]
    congr 1; omega
theorem good_low (l : List UInt8) (h : l ≠ []) (h' : ∀ x ∈ l, 36 ≤ x.toNat ∧ x.toNat ≤ 126) : GoodW l := by
  refine ⟨h, ?_⟩
  clear h
  induction l with
  | nil => exact Runes.nil
  | cons x l ih => exact Runes.append (a := [x]) (runes_low x (h' x (by simp)).1 (h' x (by simp)).2) (ih (fun y hy => h' y (by simp [hy])))
theorem good_kw : GoodW kwDomain.data.toList ∧ GoodW kwSlot.data.toList ∧ GoodW kwCell.data.toList ∧ GoodW kwPump.data.toList :=
  ⟨good_low _ (by decide) (by decide), good_low _ (by decide) (by decide), good_low _ (by decide) (by decide), good_low _ (by decide) (by decide)⟩

/-- What is asked of a policy's parts, place by place. -/
theorem parts_ok {p : Pol} (h : checkOf p = 0) : (∀ i, i < p.ds.length → OkD (dm p.ds i)) ∧ (∀ i, i < p.ss.length → slotB p.ds.length (sl p.ss i) = true) ∧ (∀ i, i < p.ls.length → endsB p.ds.length (lk p.ls i) = true ∧ sizeB (lk p.ls i) = true) := by
  obtain ⟨_, h1, h2, _, h4⟩ := check_zero h
  exact ⟨fun i hi => okD_of (h1 i hi), fun i hi => slot_zero (h2 i hi), fun i hi => ⟨(link_zero (h4 i hi)).1, (link_zero (h4 i hi)).2.1⟩⟩

theorem good_rows {p : Pol} (h : checkOf p = 0) : GoodR (rowsOf p) := by
  obtain ⟨h1, h2, h3⟩ := parts_ok h
  obtain ⟨k1, k2, k3, k4⟩ := good_kw
  intro r hr
  simp only [rowsOf, List.mem_append, List.mem_map] at hr
  rcases hr with ⟨d, hd, rfl⟩ | ⟨s, hs, rfl⟩ | ⟨l, hl, rfl⟩
  · obtain ⟨i, hi, e⟩ := List.mem_iff_getElem.1 hd
    have ok := h1 i hi
    rw [show dm p.ds i = d by simp [dm, hi, e]] at ok
    obtain ⟨l, c, e1, e2, e3, _⟩ := ok.lab
    obtain ⟨a, b, c', e4, e5, e6, e7, e8, e9⟩ := ok.quo
    refine ⟨by simp [domWords], fun u hu => ?_⟩
    simp only [domWords, List.map_cons, List.map_nil, List.cons_append, List.nil_append, List.mem_cons, List.not_mem_nil, or_false] at hu
    rcases hu with rfl | rfl | rfl | rfl | rfl | rfl
    · exact k1
    · exact good_name ok.name
    · exact good_text _ (by omega)
    · exact good_dec (by omega)
    · exact good_dec (by omega)
    · exact good_dec (by omega)
  · obtain ⟨i, hi, e⟩ := List.mem_iff_getElem.1 hs
    have ok := of_decide_eq_true (h2 i hi)
    rw [show sl p.ss i = s by simp [sl, hi, e]] at ok
    have od := h1 s.dom.toNat (by omega)
    refine ⟨by simp [slotWords], fun u hu => ?_⟩
    simp only [slotWords, List.map_cons, List.map_nil, List.cons_append, List.nil_append, List.mem_cons, List.not_mem_nil, or_false] at hu
    rcases hu with rfl | rfl | rfl
    · exact k2
    · exact good_name od.name
    · exact good_dec (by omega)
  · obtain ⟨i, hi, e⟩ := List.mem_iff_getElem.1 hl
    have ok := of_decide_eq_true (h3 i hi).1
    have ok2 := of_decide_eq_true (h3 i hi).2
    rw [show lk p.ls i = l by simp [lk, hi, e]] at ok ok2
    have od := h1 l.src.toNat (by omega)
    have od2 := h1 l.dst.toNat (by omega)
    refine ⟨by simp [linkWords], fun u hu => ?_⟩
    simp only [linkWords, List.map_cons, List.map_nil, List.cons_append, List.nil_append, List.mem_cons, List.not_mem_nil, or_false] at hu
    rcases hu with rfl | rfl | rfl | rfl
    · unfold kwOf; split
      · exact k3
      · exact k4
    · exact good_name od.name
    · exact good_name od2.name
    · exact good_dec (by omega)

end Go.Proofs.YtmhjoomkeidcaaaDoor

namespace Go.Proofs.YtmhjoomkeidcaaaDoor
open Go.RowKit L2

theorem place_le (nm : ByteArray) : ∀ (ds : List Dm) (i k : Nat) (d : Dm), ds[k]? = some d → d.name = nm → placeFrom nm ds i ≤ ((i + k : Nat) : Int)
  | [], _, _, _, h, _ => by simp at h
  | x :: ds, i, 0, d, h, hn => by
    simp at h
    subst h
    simp only [placeFrom]
    rw [if_pos hn]; simp
  | x :: ds, i, k + 1, d, h, hn => by
    simp at h
    simp only [placeFrom]
    split
    · omega
    · have := place_le nm ds (i + 1) k d h hn
      omega
theorem place_is {ds : List Dm} {k : Nat} (hk : k < ds.length) (h : nameBad ds k = false) : placeOf ds (dm ds k).name = (k : Int) := by
  have h1 := place_le (dm ds k).name ds 0 k _ (dm_at hk) rfl
  rw [nameBad_ref hk] at h
  have h2 : decide (placeOf ds (dm ds k).name < (k : Int)) = false := by
    cases hd : decide (placeOf ds (dm ds k).name < (k : Int))
    · rfl
    · rw [hd] at h; simp at h
  have h3 := of_decide_eq_false h2
  unfold placeOf at h3 ⊢
  rw [Nat.zero_add] at h1
  omega

theorem ba_back (s : ByteArray) : (⟨s.data.toList.toArray⟩ : ByteArray) = s := by simp

theorem nums_of_one {n : Nat} (h : n < 100) : numsOf [⟨(Lib.decDigits n).toArray⟩] 1 = some [n] := by
  simp [numsOf, num_dec h]
theorem nums_of_three {a b c : Nat} (ha : a < 100) (hb : b < 100) (hc : c < 100) : numsOf [⟨(Lib.decDigits a).toArray⟩, ⟨(Lib.decDigits b).toArray⟩, ⟨(Lib.decDigits c).toArray⟩] 3 = some [a, b, c] := by
  simp [numsOf, num_dec ha, num_dec hb, num_dec hc]

theorem dom_line {ds : List Dm} {k : Nat} (ss : List Sl) (ls : List Lk) (hk : k < ds.length) (h : domE ds k = 0) : lineOf ⟨ds.take k, ss, ls⟩ (mkB (domWords (dm ds k))) = (0, ⟨ds.take (k + 1), ss, ls⟩) := by
  have ok := okD_of h
  obtain ⟨hn, _, _⟩ := dom_zero h
  obtain ⟨l, c, e1, e2, e3, e3'⟩ := ok.lab
  obtain ⟨a, b, c', e4, e5, e6, e7, e8, e9⟩ := ok.quo
  have hnext : ds.take (k + 1) = ds.take k ++ [dm ds k] := by rw [List.take_add_one, dm_at hk]; rfl
  rw [hnext]
  generalize hd : dm ds k = d at *
  have hnm : (!nameB d.name || decide (0 ≤ placeOf (ds.take k) d.name)) = false := by
    have := hn
    unfold nameBad at this
    rw [hd] at this
    exact this
  obtain ⟨nm, lev, cat, tk, ob, rg⟩ := d
  simp only at e1 e2 e4 e5 e6 hnm ok
  subst e1 e2 e4 e5 e6
  simp only [domWords, mkB, List.map_cons, List.map_nil, List.cons_append, List.nil_append, lineOf, ba_back, if_true, domLine]
  rw [hnm]
  simp only [Bool.false_eq_true, if_false, Int.toNat_natCast]
  rw [show (⟨(textOf l c).toArray⟩ : ByteArray) = textB l c from rfl, refRead_of l c e3 e3', nums_of_three e7 e8 e9]
theorem slot_line {ds : List Dm} {s : Sl} (ss : List Sl) (ls : List Lk) (h : slotB ds.length s = true) (hd : ∀ i, i < ds.length → domE ds i = 0) : lineOf ⟨ds, ss, ls⟩ (mkB (slotWords ds s)) = (0, ⟨ds, ss ++ [s], ls⟩) := by
  have ok := of_decide_eq_true h
  have hp := place_is (ds := ds) (k := s.dom.toNat) (by omega) (dom_zero (hd _ (by omega))).1
  obtain ⟨dom, len⟩ := s
  simp only at ok hp
  have hp' : placeOf ds (dm ds dom.toNat).name = dom := by rw [hp]; omega
  simp only [slotWords, mkB, List.map_cons, List.map_nil, List.cons_append, List.nil_append, lineOf, ba_back, if_true, slotLine]
  rw [hp', if_neg (by omega), nums_of_one (by omega)]
  simp only [Prod.mk.injEq, true_and, Pol.mk.injEq, List.append_cancel_left_eq, List.cons.injEq, Sl.mk.injEq, and_true]
  omega
theorem link_line {ds : List Dm} {l : Lk} (ss : List Sl) (ls : List Lk) (h : endsB ds.length l = true) (h2 : sizeB l = true) (hd : ∀ i, i < ds.length → domE ds i = 0) : lineOf ⟨ds, ss, ls⟩ (mkB (linkWords ds l)) = (0, ⟨ds, ss, ls ++ [l]⟩) := by
  have ok := of_decide_eq_true h
  have ok2 := of_decide_eq_true h2
  have hp := place_is (ds := ds) (k := l.src.toNat) (by omega) (dom_zero (hd _ (by omega))).1
  have hq := place_is (ds := ds) (k := l.dst.toNat) (by omega) (dom_zero (hd _ (by omega))).1
  obtain ⟨kind, src, dst, size⟩ := l
  simp only at ok ok2 hp hq
  have hp' : placeOf ds (dm ds src.toNat).name = src := by rw [hp]; omega
  have hq' : placeOf ds (dm ds dst.toNat).name = dst := by rw [hq]; omega
  rcases ok2 with ⟨e, s1, s2⟩ | ⟨e, s1, s2⟩
  · subst e
    simp only [linkWords, kwOf, if_true, mkB, List.map_cons, List.map_nil, List.cons_append, List.nil_append, lineOf, ba_back, linkLine]
    rw [hp', hq', if_neg (by omega), nums_of_one (by omega)]
    simp only [Prod.mk.injEq, true_and, Pol.mk.injEq, List.append_cancel_left_eq, List.cons.injEq, Lk.mk.injEq, and_true]
    omega
  · subst e
    have hk : kwOf ⟨2, src, dst, size⟩ = kwPump := rfl
    simp only [linkWords, hk, mkB, List.map_cons, List.map_nil, List.cons_append, List.nil_append, lineOf, ba_back, linkLine]
    rw [if_neg (show ¬ kwPump = kwCell by decide), if_pos trivial, hp', hq', if_neg (by omega), nums_of_one (by omega)]
    simp only [Prod.mk.injEq, true_and, Pol.mk.injEq, List.append_cancel_left_eq, List.cons.injEq, Lk.mk.injEq, and_true]
    omega

/-- Lines each of which adds its thing. -/
theorem fold_build : ∀ (rows : List (List ByteArray)) (f : Nat → Pol) (line : Nat), (∀ k r, rows[k]? = some r → lineOf (f k) r = (0, f (k + 1))) → foldRows (f 0) line rows = (0, 0, f rows.length)
  | [], f, line, _ => rfl
  | r :: rs, f, line, h => by
    have h0 := h 0 r rfl
    simp only [foldRows, h0, List.length_cons]
    rw [if_neg (fun hh => hh rfl)]
    exact fold_build rs (fun k => f (k + 1)) (line + 1) (fun k r' hk => h (k + 1) r' (by simpa using hk))

theorem fold_pol {p : Pol} (h : checkOf p = 0) : foldRows pol0 1 ((rowsOf p).map mkB) = (0, 0, p) := by
  obtain ⟨_, hd, hs, _, hl⟩ := check_zero h
  obtain ⟨_, hs2, hl2⟩ := parts_ok h
  obtain ⟨ds, ss, ls⟩ := p
  simp only at hd hs hl hs2 hl2
  have A := fold_build (ds.map fun d => mkB (domWords d)) (fun k => ⟨ds.take k, [], []⟩) 1 (fun k r hr => by
    rw [List.getElem?_map] at hr
    cases hk : ds[k]? with
    | none => rw [hk] at hr; cases hr
    | some d =>
      rw [hk] at hr
      simp only [Option.map_some, Option.some.injEq] at hr
      have hlt := (List.getElem?_eq_some_iff.1 hk).1
      have e : dm ds k = d := by simp [dm, hk]
      rw [← hr, ← e]
      exact dom_line [] [] hlt (hd k hlt))
  have B := fold_build (ss.map fun s => mkB (slotWords ds s)) (fun k => ⟨ds, ss.take k, []⟩) (1 + (ds.map fun d => mkB (domWords d)).length) (fun k r hr => by
    rw [List.getElem?_map] at hr
    cases hk : ss[k]? with
    | none => rw [hk] at hr; cases hr
    | some s =>
      rw [hk] at hr
      simp only [Option.map_some, Option.some.injEq] at hr
      have hlt := (List.getElem?_eq_some_iff.1 hk).1
      have e : sl ss k = s := by simp [sl, hk]
      rw [← hr, List.take_add_one, hk, ← e]
      exact slot_line _ [] (hs2 k hlt) hd)
  have C := fold_build (ls.map fun l => mkB (linkWords ds l)) (fun k => ⟨ds, ss, ls.take k⟩) (1 + (ds.map fun d => mkB (domWords d)).length + (ss.map fun s => mkB (slotWords ds s)).length) (fun k r hr => by
    rw [List.getElem?_map] at hr
    cases hk : ls[k]? with
    | none => rw [hk] at hr; cases hr
    | some l =>
      rw [hk] at hr
      simp only [Option.map_some, Option.some.injEq] at hr
      have hlt := (List.getElem?_eq_some_iff.1 hk).1
      have e : lk ls k = l := by simp [lk, hk]
      rw [← hr, List.take_add_one, hk, ← e]
      exact link_line ss _ (hl2 k hlt).1 (hl2 k hlt).2 hd)
  simp only [List.length_map, List.take_length, List.take_zero] at A B C
  have e : (rowsOf ⟨ds, ss, ls⟩).map mkB = (ds.map fun d => mkB (domWords d)) ++ ((ss.map fun s => mkB (slotWords ds s)) ++ (ls.map fun l => mkB (linkWords ds l))) := by simp only [rowsOf, List.map_append, List.map_map]; rfl
  have A' : foldRows pol0 1 (ds.map fun d => mkB (domWords d)) = (0, 0, ⟨ds, [], []⟩) := A
  rw [e, fold_append _ _ _ _ (by rw [A']), A', List.length_map, fold_append _ _ _ _ (by rw [B]), B, List.length_map, C]

/-- No line of a policy is long. -/
theorem rows_short {p : Pol} (h : checkOf p = 0) : ∀ r ∈ rowsOf p, (Lib.join r [32]).length ≤ 90 := by
  obtain ⟨h1, h2, h3⟩ := parts_ok h
  intro r hr
  simp only [rowsOf, List.mem_append, List.mem_map] at hr
  rcases hr with ⟨d, hd, rfl⟩ | ⟨s, hs, rfl⟩ | ⟨l, hl, rfl⟩
  · obtain ⟨i, hi, e⟩ := List.mem_iff_getElem.1 hd
    have ok := h1 i hi
    rw [show dm p.ds i = d by simp [dm, hi, e]] at ok
    exact domWords_len ok
  · obtain ⟨i, hi, e⟩ := List.mem_iff_getElem.1 hs
    have ok := of_decide_eq_true (h2 i hi)
    rw [show sl p.ss i = s by simp [sl, hi, e]] at ok
    exact slotWords_len (h1 s.dom.toNat (by omega)) (by omega)
  · obtain ⟨i, hi, e⟩ := List.mem_iff_getElem.1 hl
    have ok := of_decide_eq_true (h3 i hi).1
    have ok2 := of_decide_eq_true (h3 i hi).2
    rw [show lk p.ls i = l by simp [lk, hi, e]] at ok ok2
    exact linkWords_len (h1 l.src.toNat (by omega)) (h1 l.dst.toNat (by omega)) (by omega)
theorem lines_short : ∀ (rows : List (List (List UInt8))), (∀ r ∈ rows, (Lib.join r [32]).length ≤ 90) → (linesText rows).length ≤ 91 * rows.length
  | [], _ => by simp [linesText]
  | r :: rs, h => by
    have h1 := h r (by simp)
    have h2 := lines_short rs (fun x hx => h x (by simp [hx]))
    have e : linesText (r :: rs) = Lib.join r [32] ++ 10 :: linesText rs := by simp [linesText, rowText]
    rw [e]
    simp only [List.length_append, List.length_cons]
    omega
theorem rows_few {p : Pol} (h : checkOf p = 0) : (rowsOf p).length ≤ 32 := by
  have hc := of_decide_eq_true (check_zero h).1
  simp only [rowsOf, List.length_append, List.length_map]
  omega

/-- A policy comes back of its text. -/
theorem parse_back {p : Pol} (h : checkOf p = 0) : parseOf (polText p) = (0, 0, p) := by
  have hl := lines_short (rowsOf p) (rows_short h)
  have hf := rows_few h
  rw [polText_rows, parse_lines (good_rows h) (by omega), fold_pol h]
  simp [finish, h]

/-- What was parsed may be. -/
theorem parse_checked {l : List UInt8} (h : (parseOf l).1 = 0) : checkOf (parseOf l).2.2 = 0 := by
  unfold parseOf at h ⊢
  split
  · rename_i he
    rw [if_pos he] at h
    exact (he h).elim
  · rename_i he
    rw [if_neg he] at h
    unfold finish at h ⊢
    split
    · rename_i h1
      rw [if_pos h1] at h
      exact (h1 h).elim
    · rename_i h1
      rw [if_neg h1] at h
      split
      · rename_i h2
        rw [if_pos h2] at h
        exact (h2 h).elim
      · rename_i h2
        exact Classical.byContradiction h2
/-- What was not parsed is nothing. -/
theorem parse_nothing {l : List UInt8} (h : (parseOf l).1 ≠ 0) : (parseOf l).2.2 = pol0 := by
  unfold parseOf at h ⊢
  split
  · rfl
  · rename_i he
    rw [if_neg he] at h
    unfold finish at h ⊢
    split
    · rfl
    · rename_i h1
      rw [if_neg h1] at h
      split
      · rfl
      · rename_i h2
        rw [if_neg h2] at h
        exact (h rfl).elim

/-- The line that is none. -/
def badRow : List (List UInt8) := [kwDomain.data.toList, [97]]
theorem bad_good : badRow ≠ [] ∧ ∀ u ∈ badRow, GoodW u := by
  refine ⟨by simp [badRow], fun u hu => ?_⟩
  simp only [badRow, List.mem_cons, List.not_mem_nil, or_false] at hu
  rcases hu with rfl | rfl
  · exact good_kw.1
  · exact good_low _ (by decide) (by decide)
/-- A line that is none, behind the first lines of a policy's text, is told by its number. -/
theorem parse_line {p : Pol} (h : checkOf p = 0) (a b : List (List (List UInt8))) (hr : rowsOf p = a ++ b) : parseOf (linesText (a ++ badRow :: b)) = (2, a.length + 1, pol0) := by
  have hg := good_rows h
  have hs := rows_short h
  have hf := rows_few h
  have hp := fold_pol h
  rw [hr] at hg hs hf hp
  have hg' : GoodR (a ++ badRow :: b) := fun r hrr => by
    rcases List.mem_append.1 hrr with h1 | h1
    · exact hg r (by simp [h1])
    · rcases List.mem_cons.1 h1 with rfl | h1
      · exact bad_good
      · exact hg r (by simp [h1])
  have hl := lines_short (a ++ badRow :: b) (fun r hrr => by
    rcases List.mem_append.1 hrr with h1 | h1
    · exact hs r (by simp [h1])
    · rcases List.mem_cons.1 h1 with rfl | h1
      · decide
      · exact hs r (by simp [h1]))
  rw [parse_lines hg' (by simp only [List.length_append, List.length_cons] at hl hf ⊢; omega), List.map_append, List.map_cons]
  have h1 : (foldRows pol0 1 (a.map mkB)).1 = 0 := fold_prefix (a.map mkB) (b.map mkB) pol0 1 (by rw [← List.map_append, hp])
  rw [fold_append _ _ _ _ h1]
  have h2 : ∀ q : Pol, lineOf q (mkB badRow) = (2, q) := fun q => rfl
  simp only [foldRows, h2, List.length_map]
  rw [if_pos (by decide)]
  simp only [finish]
  rw [if_pos (by decide)]
  congr 2; omega

end Go.Proofs.YtmhjoomkeidcaaaDoor

namespace Go.Proofs.YtmhjoomkeidcaaaDoor
open Go.RowKit L2

theorem lines_cons (r : List (List UInt8)) (rows : List (List (List UInt8))) : linesText (r :: rows) = (Lib.join r [32] ++ [10]) ++ linesText rows := rfl
theorem row_no {r : List (List UInt8)} (h : ∀ u ∈ r, GoodW u) : (10 : UInt8) ∉ Lib.join r [32] := join_no 10 (by decide) r fun u hu => (h u hu).2.chop.2.2.2.2

/-- A place behind a line's end, or at the beginning. -/
def AtEnd (l : List UInt8) (n : Nat) : Prop := n = 0 ∨ l[n - 1]? = some 10

theorem cut_at : ∀ (rows : List (List (List UInt8))), GoodR rows → ∀ n, n ≤ (linesText rows).length → AtEnd (linesText rows) n →
    ∃ k, ((linesText rows).take n).count 10 = k ∧ k ≤ rows.length ∧ (linesText rows).take n = linesText (rows.take k) ∧ (linesText rows).drop n = linesText (rows.drop k)
  | [], _, n, hn, _ => by
    have : n = 0 := by simpa [linesText] using hn
    subst this
    exact ⟨0, rfl, Nat.le_refl _, rfl, rfl⟩
  | r :: rows, hg, n, hn, he => by
    by_cases h0 : n = 0
    · subst h0
      exact ⟨0, rfl, Nat.zero_le _, rfl, rfl⟩
    · have hr := hg r (by simp)
      have hno := row_no hr.2
      rw [lines_cons] at hn he ⊢
      generalize hb : Lib.join r [32] = b at *
      have hlen : (b ++ [10]).length = b.length + 1 := by simp
      rcases he with he | he
      · exact absurd he h0
      · have hge : b.length + 1 ≤ n := by
          rcases Nat.lt_or_ge n (b.length + 1) with hlt | hge
          · exfalso
            rw [List.getElem?_append_left (by rw [hlen]; omega), List.getElem?_append_left (by omega)] at he
            exact hno (List.mem_of_getElem? he)
          · exact hge
        obtain ⟨m, rfl⟩ : ∃ m, n = (b ++ [10]).length + m := ⟨n - (b.length + 1), by rw [hlen]; omega⟩
        have hm : m ≤ (linesText rows).length := by simp only [List.length_append] at hn; omega
        have he' : AtEnd (linesText rows) m := by
          by_cases hm0 : m = 0
          · exact Or.inl hm0
          · right
            rw [List.getElem?_append_right (by omega)] at he
            rw [← he]
            congr 1
            omega
        obtain ⟨k, h1, h2, h3, h4⟩ := cut_at rows (fun x hx => hg x (by simp [hx])) m hm he'
        refine ⟨k + 1, ?_, by simp; omega, ?_, ?_⟩
        · rw [List.take_length_add_append, List.count_append, h1, List.count_append, List.count_eq_zero_of_not_mem hno]
          simp
          omega
        · rw [List.take_length_add_append, h3, List.take_succ_cons, lines_cons, hb]
        · rw [List.drop_length_add_append, h4, List.drop_succ_cons]

/-- One byte more. -/
theorem count_step (l : List UInt8) (n : Nat) (x : UInt8) (h : l[n]? = some x) : (l.take (n + 1)).count 10 = (l.take n).count 10 + if x = 10 then 1 else 0 := by
  rw [List.take_add_one, h, List.count_append]
  simp only [Option.toList_some, List.count_singleton]
  congr 1
  by_cases e : x = 10
  · subst e; rfl
  · have : (x == 10) = false := by simpa using e
    simp [this, e]
theorem last_line : ∀ (rows : List (List (List UInt8))), AtEnd (linesText rows) (linesText rows).length
  | [] => Or.inl rfl
  | r :: rows => by
    rw [lines_cons]
    rcases last_line rows with h | h
    · right
      have e : linesText rows = [] := List.length_eq_zero_iff.1 h
      rw [e, List.append_nil]
      simp
    · right
      have hne : 0 < (linesText rows).length := by
        rcases Nat.eq_zero_or_pos (linesText rows).length with h0 | h0
        · rw [List.length_eq_zero_iff.1 h0] at h; simp at h
        · exact h0
      rw [List.length_append, List.getElem?_append_right (by omega), ← h]
      congr 1
      omega

/-- What is parsed where a line that is none stands behind the first lines. -/
theorem lines_bad {p : Pol} (hp : checkOf p = 0) {n : Nat} (hn : n ≤ (polText p).length) (he : AtEnd (polText p) n) :
    parseOf ((polText p).take n ++ [100, 111, 109, 97, 105, 110, 32, 97, 10] ++ (polText p).drop n) = (2, ((polText p).take n).count 10 + 1, pol0) := by
  rw [polText_rows] at hn he ⊢
  obtain ⟨k, h1, h2, h3, h4⟩ := cut_at (rowsOf p) (good_rows hp) n hn he
  rw [h1, h3, h4]
  have hl := parse_line hp ((rowsOf p).take k) ((rowsOf p).drop k) (List.take_append_drop k _).symm
  rw [List.length_take, Nat.min_eq_left h2] at hl
  rw [← hl]
  congr 1
  simp only [linesText, List.flatMap_append, List.flatMap_cons]
  rw [List.append_assoc]
  congr 2

end Go.Proofs.YtmhjoomkeidcaaaDoor

namespace Go.Proofs.YtmhjoomkeidcaaaDoor
open Go.RowKit L2

theorem box6 {w wr : World} {x0 x1 x2 y0 y1 y2 : Value} (h : Below (w.heap.size + 2) ((w.alloc (.cells #[x0, x1, x2] 26)).alloc (.cells #[y0, y1, y2] 26)) wr) :
    wr.cell? ⟨w.heap.size, 0, none⟩ = some x0 ∧ wr.cell? ⟨w.heap.size, 1, none⟩ = some x1 ∧ wr.cell? ⟨w.heap.size, 2, none⟩ = some x2 ∧ wr.cell? ⟨w.heap.size + 1, 0, none⟩ = some y0 ∧ wr.cell? ⟨w.heap.size + 1, 1, none⟩ = some y1 ∧ wr.cell? ⟨w.heap.size + 1, 2, none⟩ = some y2 := by
  refine ⟨?_, ?_, ?_, ?_, ?_, ?_⟩
  all_goals
    rw [h.cell (by simp only; omega)]
    simp [go_sem]

set_option maxHeartbeats 4000000 in
set_option maxRecDepth 100000 in
theorem same_any (a1 a2 a3 b1 b2 b3 : Option Addr) (n1 n2 n3 c1 c2 c3 d1 d2 d3 : Nat) (p : Pol) (w : World) (e1 : p.ds.length = n1) (e2 : p.ss.length = n2) (e3 : p.ls.length = n3) (l1 : n1 ≤ 5000) (l2 : n2 ≤ 5000) (l3 : n3 ≤ 5000) (hA : Held w a1 a2 a3 c1 c2 c3 p) (hB : Held w b1 b2 b3 d1 d2 d3 p) :
    Calls Tryd.prog 17 #[.agg #[.slice a1 n1 c1, .slice a2 n2 c2, .slice a3 n3 c3], .agg #[.slice b1 n1 d1, .slice b2 n2 d2, .slice b3 n3 d3]] w fun e w' => e = .returned (.bool true) ∧ Below w.heap.size w w' := by
  have HA : Hid (Held w a1 a2 a3 c1 c2 c3 p) := hA
  have HB : Hid (Held w b1 b2 b3 d1 d2 d3 p) := hB
  clear hA hB
  have q1 : ((n1 : Int) != (n1 : Int)) = false := by simp
  have q2 : ((n2 : Int) != (n2 : Int)) = false := by simp
  have q3 : ((n3 : Int) != (n3 : Int)) = false := by simp
  have hBel : Below w.heap.size w ((w.alloc (.cells #[.slice a1 n1 c1, .slice a2 n2 c2, .slice a3 n3 c3] 26)).alloc (.cells #[.slice b1 n1 d1, .slice b2 n2 d2, .slice b3 n3 d3] 26)) := ((Below.refl _ _).alloc (Nat.le_refl _) _).alloc (by simp) _
  go_enter Tryd.func17, Tryd.ntmps17
  go_wp2
  go_loopw [5] (fun i wr => ∃ k : Nat, k ≤ n1 ∧ i = .int .i64 k ∧ Below (w.heap.size + 2) ((w.alloc (.cells #[.slice a1 n1 c1, .slice a2 n2 c2, .slice a3 n3 c3] 26)).alloc (.cells #[.slice b1 n1 d1, .slice b2 n2 d2, .slice b3 n3 d3] 26)) wr) (fun i _ => n1 - (intOf i).toNat)
  case atStart => exact ⟨0, Nat.zero_le _, rfl, Below.refl _ _⟩
  case round =>
    obtain ⟨k, hk, rfl, hnx⟩ := hrel
    obtain ⟨x0, x1, x2, y0, y1, y2⟩ := box6 hnx
    have hW : Below w.heap.size w wr := hBel.trans (hnx.mono (by omega))
    by_cases hlt : k < n1
    · obtain ⟨b, o, rfl, _, f0, f1, f2, f3, f4, f5⟩ := (HA.out.d.below hW).dom (dm_at (show k < p.ds.length by omega))
      obtain ⟨b', o', rfl, _, g0, g1, g2, g3, g4, g5⟩ := (HB.out.d.below hW).dom (dm_at (show k < p.ds.length by omega))
      have k1 : (k : Int) < (n1 : Int) := by omega
      have k0 : (0 : Int) ≤ (k : Int) := by omega
      generalize dm p.ds k = dd at *
      obtain ⟨nm, lv, ct, tk, ob, rg⟩ := dd
      dsimp only at f0 f1 f2 f3 f4 f5 g0 g1 g2 g3 g4 g5
      go_wp2_with fail
      go_quiet (fail)
      go_wp2
      go_roundw
      case rel => exact ⟨k + 1, by omega, by go_num, hnx.trans ⟨rfl, rfl, rfl, Nat.le_refl _, fun _ _ => rfl⟩⟩
      case measure => simp [intOf]; omega
    · clear x0 x1 x2 y0 y1 y2
      have HN : Hid (Below (w.heap.size + 2) ((w.alloc (.cells #[.slice a1 n1 c1, .slice a2 n2 c2, .slice a3 n3 c3] 26)).alloc (.cells #[.slice b1 n1 d1, .slice b2 n2 d2, .slice b3 n3 d3] 26)) wr) := hnx
      obtain ⟨x0, x1, x2, y0, y1, y2⟩ := box6 hnx
      clear hnx hW
      go_wp2_with fail
      go_loopw [6] (fun i wq => ∃ k : Nat, k ≤ n2 ∧ i = .int .i64 k ∧ Below (w.heap.size + 2) ((w.alloc (.cells #[.slice a1 n1 c1, .slice a2 n2 c2, .slice a3 n3 c3] 26)).alloc (.cells #[.slice b1 n1 d1, .slice b2 n2 d2, .slice b3 n3 d3] 26)) wq) (fun i _ => n2 - (intOf i).toNat)
      case atStart => exact ⟨0, Nat.zero_le _, rfl, HN.out⟩
      case round =>
        clear HN x0 x1 x2 y0 y1 y2
        obtain ⟨k, hk, rfl, hnx⟩ := hrel
        obtain ⟨x0, x1, x2, y0, y1, y2⟩ := box6 hnx
        have hW : Below w.heap.size w wr := hBel.trans (hnx.mono (by omega))
        by_cases hlt : k < n2
        · obtain ⟨b, o, rfl, _, f0, f1⟩ := (HA.out.s.below hW).slot (sl_at (show k < p.ss.length by omega))
          obtain ⟨b', o', rfl, _, g0, g1⟩ := (HB.out.s.below hW).slot (sl_at (show k < p.ss.length by omega))
          have k1 : (k : Int) < (n2 : Int) := by omega
          have k0 : (0 : Int) ≤ (k : Int) := by omega
          generalize sl p.ss k = dd at *
          obtain ⟨dd1, dd2⟩ := dd
          dsimp only at f0 f1 g0 g1
          go_wp2_with fail
          go_quiet (fail)
          go_wp2
          go_roundw
          case rel => exact ⟨k + 1, by omega, by go_num, hnx.trans ⟨rfl, rfl, rfl, Nat.le_refl _, fun _ _ => rfl⟩⟩
          case measure => simp [intOf]; omega
        · have HN : Hid (Below (w.heap.size + 2) ((w.alloc (.cells #[.slice a1 n1 c1, .slice a2 n2 c2, .slice a3 n3 c3] 26)).alloc (.cells #[.slice b1 n1 d1, .slice b2 n2 d2, .slice b3 n3 d3] 26)) wr) := hnx
          clear hnx hW
          go_wp2_with fail
          go_loopw [7] (fun i wq => ∃ k : Nat, k ≤ n3 ∧ i = .int .i64 k ∧ Below (w.heap.size + 2) ((w.alloc (.cells #[.slice a1 n1 c1, .slice a2 n2 c2, .slice a3 n3 c3] 26)).alloc (.cells #[.slice b1 n1 d1, .slice b2 n2 d2, .slice b3 n3 d3] 26)) wq) (fun i _ => n3 - (intOf i).toNat)
          case atStart => exact ⟨0, Nat.zero_le _, rfl, HN.out⟩
          case round =>
            clear HN x0 x1 x2 y0 y1 y2
            obtain ⟨k, hk, rfl, hnx⟩ := hrel
            obtain ⟨x0, x1, x2, y0, y1, y2⟩ := box6 hnx
            have hW : Below w.heap.size w wr := hBel.trans (hnx.mono (by omega))
            by_cases hlt : k < n3
            · obtain ⟨b, o, rfl, _, f0, f1, f2, f3⟩ := (HA.out.l.below hW).link (lk_at (show k < p.ls.length by omega))
              obtain ⟨b', o', rfl, _, g0, g1, g2, g3⟩ := (HB.out.l.below hW).link (lk_at (show k < p.ls.length by omega))
              have k1 : (k : Int) < (n3 : Int) := by omega
              have k0 : (0 : Int) ≤ (k : Int) := by omega
              generalize lk p.ls k = dd at *
              obtain ⟨dd1, dd2, dd3, dd4⟩ := dd
              dsimp only at f0 f1 f2 f3 g0 g1 g2 g3
              go_wp2_with fail
              go_quiet (fail)
              go_wp2
              go_roundw
              case rel => exact ⟨k + 1, by omega, by go_num, hnx.trans ⟨rfl, rfl, rfl, Nat.le_refl _, fun _ _ => rfl⟩⟩
              case measure => simp [intOf]; omega
            · go_wp2
              go_ret
              exact ⟨rfl, hW⟩

end Go.Proofs.YtmhjoomkeidcaaaDoor

namespace Go.Proofs.YtmhjoomkeidcaaaDoor
open Go.RowKit L2

theorem small_of {p : Pol} (h : checkOf p = 0) : p.ds.length ≤ 5000 ∧ p.ss.length ≤ 5000 ∧ p.ls.length ≤ 5000 := by
  unfold checkOf at h
  split at h
  · rename_i hc
    unfold countsB at hc
    simp at hc
    omega
  · cases h
theorem hideB {p : Prop} (h : p) : Hid p := h
theorem box_kept {W w1 : World} {x y z : Value} (h : Below (W.alloc (.cells #[x, y, z] 26)).heap.size (W.alloc (.cells #[x, y, z] 26)) w1) : Below W.heap.size W w1 := (below1 _ _).trans (h.mono (by simp))
/-- Three lists that were laid before. -/
theorem pol_far {W w' : World} {b : Nat} {x y z : Value} (hb : b < W.heap.size) (h : W.cell? ⟨b, 0, none⟩ = some x ∧ W.cell? ⟨b, 1, none⟩ = some y ∧ W.cell? ⟨b, 2, none⟩ = some z) (k : Below W.heap.size W w') :
    w'.cell? ⟨b, 0, none⟩ = some x ∧ w'.cell? ⟨b, 1, none⟩ = some y ∧ w'.cell? ⟨b, 2, none⟩ = some z :=
  ⟨(k.cell (p := ⟨b, 0, none⟩) hb).trans h.1, (k.cell (p := ⟨b, 1, none⟩) hb).trans h.2.1, (k.cell (p := ⟨b, 2, none⟩) hb).trans h.2.2⟩

set_option maxHeartbeats 4000000 in
set_option maxRecDepth 100000 in
theorem back_walk (a1 a2 a3 : Option Addr) (c1 c2 c3 : Nat) (p : Pol) (s : ByteArray) (w : World) (hh : Held w a1 a2 a3 c1 c2 c3 p) :
    Calls Tryd.prog 7 #[.agg #[.slice a1 p.ds.length c1, .slice a2 p.ss.length c2, .slice a3 p.ls.length c3], .string s] w fun e w' => e = .returned (.bool true) ∧ Below w.heap.size w w' := by
  have hC := fun W hW => policyPrint_any a1 a2 a3 _ _ _ c1 c2 c3 p W rfl rfl rfl hW
  have HH : Hid (Held w a1 a2 a3 c1 c2 c3 p) := hh
  clear hh
  obtain ⟨T, hT⟩ : ∃ T : ByteArray, T = ⟨(printOf p).1.toArray⟩ := ⟨_, rfl⟩
  obtain ⟨E, hE⟩ : ∃ E : Nat, E = (printOf p).2 := ⟨_, rfl⟩
  rw [← hT, ← hE] at hC
  have HTE : Hid (E = 0 → checkOf p = 0 ∧ parseOf T.data.toList = (0, 0, p)) := fun h0 => by
    have hck : checkOf p = 0 := by
      rw [hE] at h0
      unfold printOf at h0
      split at h0
      · assumption
      · exact h0
    refine ⟨hck, ?_⟩
    rw [hT]
    have : (printOf p).1 = polText p := by unfold printOf; rw [if_pos hck]
    simp only [this]
    exact parse_back hck
  have HP := hideB hC
  clear hC hT hE
  go_enter Tryd.func7, Tryd.ntmps7
  go_wp2_with fail
  refine (HP.out _ (HH.out.below (below1 _ _))).mono ?_
  rintro e w1 ⟨rfl, hB1⟩
  obtain ⟨hz1, x0, x1, x2⟩ := pol_cells hB1
  have hb : Below w.heap.size w w1 := box_kept hB1
  clear hB1 HP
  go_upto_if 24 with fail
  go_cut [5] (fun _ wx => Below w.heap.size w wx)
  case first =>
    by_cases hE0 : E = 0
    · obtain ⟨hck, hpt⟩ := HTE.out hE0
      obtain ⟨l1, l2, l3⟩ := small_of hck
      have hPs := parse_any T
      rw [hpt] at hPs
      have HPs := hideB hPs
      have hE1 : ((E : Int) == 0) = true := by simp [hE0]
      clear hPs hck hpt hE0 HTE
      go_wp2_with fail
      refine (HPs.out _).mono ?_
      rintro e w2 ⟨b1, b2, b3, d1, d2, d3, rfl, hX, hB2⟩
      have hz2 : w.heap.size < w2.heap.size := Nat.lt_of_lt_of_le hz1 hB2.size
      have hXX : Held w2 b1 b2 b3 d1 d2 d3 p := hX
      obtain ⟨y0, y1, y2⟩ := pol_far hz1 ⟨x0, x1, x2⟩ hB2
      have hb2 : Below w.heap.size w w2 := below_next hb hB2
      have HX := hideB hXX
      clear hX hXX x0 x1 x2 hB2 hb HPs
      go_wp2_with fail
      refine (same_any b1 b2 b3 a1 a2 a3 _ _ _ d1 d2 d3 c1 c2 c3 p _ rfl rfl rfl l1 l2 l3 (HX.out.below (below1 _ _)) (HH.out.below (hb2.trans ((below1 _ _).mono hb2.size)))).mono ?_
      rintro e w3 ⟨rfl, hB3⟩
      have hb3 : Below w.heap.size w w3 := below_next hb2 (box_kept hB3)
      clear hB3 HX hb2
      go_wp2_with fail
      go_meet
      exact hb3
    · have hE1 : ((E : Int) == 0) = false := by simp [hE0]
      go_wp2_with fail
      go_meet
      exact hb
  case rest =>
    clear x0 x1 x2 hz1 hb HTE HH
    have hb : Below w.heap.size w wc := hcut
    clear hcut
    have hPs := parse_any s
    have hchk := @parse_checked s.data.toList
    have hno := @parse_nothing s.data.toList
    generalize parseOf s.data.toList = RR at *
    obtain ⟨G, LN, Q⟩ := RR
    have HPs := hideB hPs
    have HC : Hid (G = 0 → checkOf Q = 0) := hchk
    have HN : Hid (G ≠ 0 → Q = pol0) := hno
    clear hPs hchk hno
    go_wp2_with fail
    refine (HPs.out _).mono ?_
    rintro e w3 ⟨b1, b2, b3, d1, d2, d3, rfl, hY, hB3⟩
    have HY : Hid (Held w3 b1 b2 b3 d1 d2 d3 Q) := hY
    replace hb := below_next hb hB3
    clear hY hB3 HPs
    dsimp only
    generalize hn1 : Q.ds.length = n1
    generalize hn2 : Q.ss.length = n2
    generalize hn3 : Q.ls.length = n3
    have HL : Hid (Q.ds.length = n1 ∧ Q.ss.length = n2 ∧ Q.ls.length = n3) := ⟨hn1, hn2, hn3⟩
    clear hn1 hn2 hn3
    by_cases hG : G = 0
    · have hq := HC.out hG
      have hG1 : ((G : Int) != 0) = false := by simp [hG]
      obtain ⟨l1, l2, l3⟩ := small_of hq
      rw [HL.out.1] at l1
      rw [HL.out.2.1] at l2
      rw [HL.out.2.2] at l3
      have hPr := fun W hW => policyPrint_any b1 b2 b3 n1 n2 n3 d1 d2 d3 Q W HL.out.1 HL.out.2.1 HL.out.2.2 hW
      have hCk := fun W hW => check_any b1 b2 b3 n1 n2 n3 d1 d2 d3 Q W HL.out.1 HL.out.2.1 HL.out.2.2 hW
      rw [show printOf Q = (polText Q, 0) by unfold printOf; rw [if_pos hq]] at hPr
      rw [hq] at hCk
      obtain ⟨U, hU⟩ : ∃ U : ByteArray, U = ⟨(polText Q).toArray⟩ := ⟨_, rfl⟩
      have hPb := parse_any U
      rw [show parseOf U.data.toList = (0, 0, Q) by rw [hU]; exact parse_back hq] at hPb
      dsimp only at hPr
      rw [← hU] at hPr
      have HPr := hideB hPr
      have HCk := hideB hCk
      have HPb := hideB hPb
      clear hPr hCk hPb hU hq hG HC HN
      go_wp2_with fail
      refine (HPr.out _ (HY.out.below (below1 _ _))).mono ?_
      rintro e w4 ⟨rfl, hB4⟩
      obtain ⟨hz4, x0, x1, x2⟩ := pol_cells hB4
      have HY4 := hideB (HY.out.below (box_kept hB4))
      replace hb := below_next hb (box_kept hB4)
      clear hB4 HPr HY
      go_wp2_with fail
      refine (HPb.out _).mono ?_
      rintro e w5 ⟨e1, e2, e3, f1, f2, f3, rfl, hZ, hB5⟩
      dsimp only
      rw [HL.out.1, HL.out.2.1, HL.out.2.2]
      have HZ : Hid (Held w5 e1 e2 e3 f1 f2 f3 Q) := hZ
      obtain ⟨y0, y1, y2⟩ := pol_far hz4 ⟨x0, x1, x2⟩ hB5
      have hz5 : w3.heap.size < w5.heap.size := Nat.lt_of_lt_of_le hz4 hB5.size
      have HY5 := hideB (HY4.out.below hB5)
      replace hb := below_next hb hB5
      clear x0 x1 x2 hB5 hZ HPb HY4 hz4
      go_wp2_with fail
      refine (awake_any _).mono ?_
      rintro e w6 ⟨rfl, hB6⟩
      obtain ⟨hz6, q0, q1, q2⟩ := pol_cells hB6
      have hbk := box_kept hB6
      obtain ⟨r0, r1, r2⟩ := pol_far hz5 ⟨y0, y1, y2⟩ hbk
      have HY6 := hideB (HY5.out.below hbk)
      have HZ6 := hideB (HZ.out.below hbk)
      have hz6' : w3.heap.size < w6.heap.size := Nat.lt_of_lt_of_le hz5 hbk.size
      replace hb := below_next hb hbk
      clear y0 y1 y2 hB6 hbk HY5 HZ hz5
      go_wp2_with fail
      refine (HCk.out _ HY6.out).mono ?_
      rintro e w7 ⟨rfl, hB7⟩
      obtain ⟨y0, y1, y2⟩ := pol_far hz6' ⟨r0, r1, r2⟩ hB7
      obtain ⟨p0, p1, p2⟩ := pol_far hz6 ⟨q0, q1, q2⟩ hB7
      have HY7 := hideB (HY6.out.below hB7)
      have HZ7 := hideB (HZ6.out.below hB7)
      replace hb := below_next hb hB7
      clear r0 r1 r2 q0 q1 q2 hB7 HY6 HZ6 HCk
      go_wp2_with fail
      refine (same_any b1 b2 b3 e1 e2 e3 n1 n2 n3 d1 d2 d3 f1 f2 f3 Q _ HL.out.1 HL.out.2.1 HL.out.2.2 l1 l2 l3 HY7.out HZ7.out).mono ?_
      rintro e w8 ⟨rfl, hB8⟩
      replace hb := below_next hb hB8
      clear hB8
      go_wp2
      go_ret
      exact ⟨rfl, hb⟩
    · have hq := HN.out hG
      have hG1 : ((G : Int) != 0) = true := by simp [hG]
      subst hq
      obtain ⟨m1, m2, m3⟩ := HL.out
      have m1' : n1 = 0 := m1.symm
      have m2' : n2 = 0 := m2.symm
      have m3' : n3 = 0 := m3.symm
      subst m1' m2' m3'
      clear m1 m2 m3 HL HC HN hG
      go_wp2_with fail
      refine (awake_any _).mono ?_
      rintro e w6 ⟨rfl, hB6⟩
      obtain ⟨hz6, q0, q1, q2⟩ := pol_cells hB6
      have hbk := box_kept hB6
      have HY6 := hideB (HY.out.below hbk)
      replace hb := below_next hb hbk
      clear hB6 hbk HY
      go_wp2_with fail
      refine (same_any b1 b2 b3 none none none 0 0 0 d1 d2 d3 0 0 0 pol0 _ rfl rfl rfl (by omega) (by omega) (by omega) HY6.out (held_none _)).mono ?_
      rintro e w8 ⟨rfl, hB8⟩
      replace hb := below_next hb hB8
      clear hB8
      go_wp2
      go_ret
      exact ⟨rfl, hb⟩

end Go.Proofs.YtmhjoomkeidcaaaDoor

namespace Go.Proofs.YtmhjoomkeidcaaaDoor
open Go.RowKit L2
attribute [local go_sem ↓] Go.wp_at_zero Go.wp_at_succ

theorem byte_list (T : ByteArray) {k : Nat} (hk : k < T.size) : T.data.toList[k]? = some (T[k]'hk) := by
  have : k < T.data.toList.length := by rw [Array.length_toList]; exact hk
  rw [List.getElem?_eq_getElem this]
  rfl

/-- The text with a line that is none put in. -/
def badText (T : ByteArray) (n : Nat) : ByteArray := (T.extract 0 n ++ ⟨#[100, 111, 109, 97, 105, 110, 32, 97, 10]⟩) ++ T.extract n T.size
theorem bad_list (T : ByteArray) (n : Nat) : (badText T n).data.toList = T.data.toList.take n ++ [100, 111, 109, 97, 105, 110, 32, 97, 10] ++ T.data.toList.drop n := by
  unfold badText
  rw [L3.ba_append, L3.ba_append, L3.extract_list, L3.extract_rest]
  simp

/-- Three empty lists laid into a new box, ahead of a call or behind it. -/
def Laid3 (w : World) (bd : Nat) (wx : World) : Prop := ∃ (b1 b2 b3 : Option Addr) (d1 d2 d3 : Nat), bd < wx.heap.size ∧ wx.cell? ⟨bd, 0, none⟩ = some (.slice b1 0 d1) ∧ wx.cell? ⟨bd, 1, none⟩ = some (.slice b2 0 d2) ∧ wx.cell? ⟨bd, 2, none⟩ = some (.slice b3 0 d3) ∧ Below w.heap.size w wx
theorem laid_behind {w w1 w2 : World} (b1 b2 b3 : Option Addr) (d1 d2 d3 : Nat) (hb : Below w.heap.size w w1) (hB0 : Below w1.drew.heap.size w1.drew w2) :
    Laid3 w w2.heap.size (w2.alloc (.cells #[.slice b1 0 d1, .slice b2 0 d2, .slice b3 0 d3] 26)) := by
  have hB : Below w1.heap.size w1 w2 := ⟨hB0.os, hB0.tape, hB0.output, hB0.size, hB0.block⟩
  have h2 := below_next hb hB
  refine ⟨b1, b2, b3, d1, d2, d3, by simp, ?_, ?_, ?_, h2.alloc h2.size _⟩
  all_goals simp [go_sem]
theorem laid_ahead {w w1 w2 : World} {x y z : Value} (b1 b2 b3 : Option Addr) (d1 d2 d3 : Nat) (hb : Below w.heap.size w w1) (hB0 : Below (w1.alloc (.cells #[x, y, z] 26)).drew.heap.size (w1.alloc (.cells #[x, y, z] 26)).drew w2) :
    Laid3 w w1.heap.size (((w2.setCell ⟨w1.heap.size, 0, none⟩ (.slice b1 0 d1)).setCell ⟨w1.heap.size, 1, none⟩ (.slice b2 0 d2)).setCell ⟨w1.heap.size, 2, none⟩ (.slice b3 0 d3)) := by
  have hB : Below (w1.alloc (.cells #[x, y, z] 26)).heap.size (w1.alloc (.cells #[x, y, z] 26)) w2 := ⟨hB0.os, hB0.tape, hB0.output, hB0.size, hB0.block⟩
  have hs := hb.size
  have hblk : w2.heap[w1.heap.size]? = some (.cells #[x, y, z] 26 (0, 0)) := (hB.block _ (by simp)).trans (heap_alloc_new _ _)
  have h3 := Lib.heap_setCell_same (Lib.heap_setCell_same (Lib.heap_setCell_same (i := 0) hblk (.slice b1 0 d1)) (i := 1) (.slice b2 0 d2)) (i := 2) (.slice b3 0 d3)
  refine ⟨b1, b2, b3, d1, d2, d3, (Array.getElem?_eq_some_iff.1 h3).1, Lib.cell_of_heap h3 0, Lib.cell_of_heap h3 1, Lib.cell_of_heap h3 2, ?_⟩
  have h2 := below_next hb (box_kept hB)
  exact Below.setCell (p := ⟨w1.heap.size, 2, none⟩) (Below.setCell (p := ⟨w1.heap.size, 1, none⟩) (Below.setCell (p := ⟨w1.heap.size, 0, none⟩) h2 hs _) hs _) hs _

set_option maxHeartbeats 4000000 in
set_option maxRecDepth 100000 in
theorem lines_walk (a1 a2 a3 : Option Addr) (c1 c2 c3 : Nat) (p : Pol) (x : Int) (hx : 0 ≤ x ∧ x ≤ 255) (w : World) (hh : Held w a1 a2 a3 c1 c2 c3 p) :
    Calls Tryd.prog 8 #[.agg #[.slice a1 p.ds.length c1, .slice a2 p.ss.length c2, .slice a3 p.ls.length c3], .int .u8 x] w fun e w' => e = .returned (.bool true) ∧ Below w.heap.size w w' := by
  have hC := fun W hW => policyPrint_any a1 a2 a3 _ _ _ c1 c2 c3 p W rfl rfl rfl hW
  have HH : Hid (Held w a1 a2 a3 c1 c2 c3 p) := hh
  clear hh
  obtain ⟨N, hN⟩ : ∃ N : Nat, (N : Int) = x % 40 := ⟨(x % 40).toNat, by omega⟩
  have ht : x.tmod 40 = (N : Int) := by rw [Int.tmod_eq_emod_of_nonneg (by omega)]; exact hN.symm
  have hN40 : N < 40 := by omega
  have hw64 : wrap64 (N : Int) = (N : Int) := by unfold wrap64; omega
  clear hN hx
  by_cases hck : checkOf p = 0
  · have hpr : printOf p = (polText p, 0) := by unfold printOf; rw [if_pos hck]
    rw [hpr] at hC
    dsimp only at hC
    obtain ⟨T, hT⟩ : ∃ T : ByteArray, T = ⟨(polText p).toArray⟩ := ⟨_, rfl⟩
    rw [← hT] at hC
    have hTl : T.data.toList = polText p := by rw [hT]
    have hTs : T.size = (polText p).length := by rw [← hTl, Array.length_toList]; rfl
    have hTm : T.size ≤ 4096 := by
      rw [hTs, polText_rows]
      have := lines_short _ (rows_short hck)
      have := rows_few hck
      omega
    have HTL := hideB hTl
    have HTS := hideB hTs
    have HCK := hideB hck
    have HP := hideB hC
    clear hC hT hTl hTs hck hpr
    go_enter Tryd.func8, Tryd.ntmps8
    go_wp2_with fail
    refine (HP.out _ (HH.out.below (below1 _ _))).mono ?_
    rintro e w1 ⟨rfl, hB1⟩
    have hb : Below w.heap.size w w1 := box_kept hB1
    clear hB1 HP HH
    go_wp2
    go_loop [7, 8] (fun a b => ∃ n k : Nat, n ≤ T.size ∧ a = .int .i64 n ∧ b = .int .i64 k ∧ k = ((polText p).take n).count 10 ∧ k ≤ N ∧ (k = N → AtEnd (polText p) n)) (fun a _ => T.size - (intOf a).toNat)
    case atStart => exact ⟨0, 0, Nat.zero_le _, rfl, rfl, rfl, Nat.zero_le _, fun _ => Or.inl rfl⟩
    case round =>
      obtain ⟨n, k, hn, rfl, rfl, hk, hkN, hend⟩ := hrel
      have HK := hideB hk
      have HE := hideB hend
      clear hk hend
      by_cases hgo : k < N ∧ n < T.size
      · obtain ⟨hk1, hn1⟩ := hgo
        have hk1' : (k : Int) < (N : Int) := by omega
        have hn1' : (n : Int) < (T.size : Int) := by omega
        have hby := byte_list T hn1
        rw [HTL.out] at hby
        have hcs := count_step (polText p) n _ hby
        rw [← HK.out] at hcs
        obtain ⟨bb, hbb⟩ : ∃ bb : Nat, bb = (T[n]'hn1).toNat := ⟨_, rfl⟩
        have eb : (T[n]'hn1).toNat = bb := hbb.symm
        by_cases h10 : (T[n]'hn1) = 10
        · rw [if_pos h10] at hcs
          rw [h10] at hby
          have hb10 : ((bb : Int) == 10) = true := by rw [hbb, h10]; rfl
          have HCS := hideB hcs
          have HBY := hideB hby
          clear hcs hby h10 hbb
          go_wp2
          go_round
          case rel => exact ⟨n + 1, k + 1, by omega, by go_num, by go_num, HCS.out.symm, by omega, fun _ => Or.inr (by simpa using HBY.out)⟩
          case measure => simp [intOf]; omega
        · rw [if_neg h10] at hcs
          have hb10 : ((bb : Int) == 10) = false := beq_eq_false_iff_ne.2 (fun e => h10 (by
            apply UInt8.toNat_inj.1
            rw [← hbb]
            show bb = 10
            omega))
          have HCS := hideB hcs
          clear hcs hby h10 hbb
          go_wp2
          go_round
          case rel => exact ⟨n + 1, k, by omega, by go_num, rfl, HCS.out.symm, by omega, fun h => by omega⟩
          case measure => simp [intOf]; omega
      · have hE : AtEnd (polText p) n := by
          by_cases hkk : k = N
          · exact HE.out hkk
          · obtain rfl : n = T.size := by omega
            rw [HTS.out, polText_rows]
            exact last_line _
        have hbad := lines_bad HCK.out (n := n) (by rw [← HTS.out]; exact hn) hE
        rw [← HTL.out, ← bad_list, HTL.out, ← HK.out] at hbad
        have hPs := parse_any (badText T n)
        rw [hbad] at hPs
        have HPs := hideB hPs
        have HEN := hideB hE
        clear hPs hbad hE HE HK
        by_cases hk1 : k < N
        all_goals
          have hk1' := hk1
          go_wp2
          go_loop [7] (fun a => a = .int .i64 (n : Int)) (fun _ => 0)
          case atStart => rfl
          case round =>
            subst hrel
            obtain ⟨S1, hS1⟩ : ∃ S1 : ByteArray, S1 = T.extract 0 n ++ ⟨#[100, 111, 109, 97, 105, 110, 32, 97, 10]⟩ := ⟨_, rfl⟩
            obtain ⟨S2, hS2⟩ : ∃ S2 : ByteArray, S2 = badText T n := ⟨_, rfl⟩
            have hz1 : (T.extract 0 n).size ≤ 4096 := by rw [ByteArray.size_extract]; omega
            have hz2 : (T.extract n T.size).size ≤ 4096 := by rw [ByteArray.size_extract]; omega
            have hzS : S1.size ≤ 5000 := by rw [hS1, ByteArray.size_append]; show (T.extract 0 n).size + 9 ≤ 5000; omega
            have ha1 : ∀ W : World, (Op.stringOp .add (T.extract 0 n) ⟨#[100, 111, 109, 97, 105, 110, 32, 97, 10]⟩).run Tryd.prog W = .ok (.string S1) W := fun W => by
              rw [hS1]
              exact run_string_add_sum W _ _ (by show (T.extract 0 n).size + 9 ≤ _; omega)
            have ha2 : ∀ W : World, (Op.stringOp .add S1 (T.extract n T.size)).run Tryd.prog W = .ok (.string S2) W := fun W => by
              have := run_string_add_sum (P := Tryd.prog) W S1 (T.extract n T.size) (by omega)
              rw [hS2]
              unfold badText
              rw [← hS1]
              exact this
            rw [← hS2] at HPs
            clear hS1 hS2 hz1 hz2 hzS
            have hnT : (n : Int) ≤ (T.size : Int) := by omega
            have hn0 : (0 : Int) ≤ (n : Int) := by omega
            by_cases h0 : n = 0
            · have h0' : ¬ (0 : Int) < (n : Int) := by omega
              clear h0
              go_upto_region 11 with fail
              go_cut [9, 10, 11] (fun s9 s10 s11 wx => ∃ bd : Nat, s9 = .pointer (some ⟨bd, 0, none⟩) ∧ s10 = .int .i64 ((k : Int) + 1) ∧ s11 = .int .i64 2 ∧ Laid3 w bd wx)
              case first =>
                go_region_with (first | (go_at_call 15; refine (HPs.out _).mono ?_; rintro e w2 ⟨b1, b2, b3, d1, d2, d3, rfl, _, hB2⟩; dsimp only [pol0, List.length_nil]; obtain ⟨hc, hf⟩ := bcell hB2; have hz := hB2.size; (try simp at hz); (try (have _k : w1.heap.size < w2.heap.size := by omega)); (try (have _k : ¬ w1.heap.size = w2.heap.size := by omega)); (try (have _k : ¬ w2.heap.size = w1.heap.size := by omega))))
                all_goals
                  go_wp2_with fail
                  go_meet
                  first
                    | exact ⟨_, rfl, rfl, rfl, laid_behind b1 b2 b3 d1 d2 d3 hb hB2⟩
                    | exact ⟨_, rfl, rfl, rfl, laid_ahead b1 b2 b3 d1 d2 d3 hb hB2⟩
              case rest =>
                obtain ⟨bd, rfl, rfl, rfl, b1, b2, b3, d1, d2, d3, hbd, q0, q1, q2, hb2⟩ := hcut
                have hkk : ((k : Int) + 1 == (k : Int) + 1) = true := by simp
                clear hb ha1 ha2 HPs
                go_wp2_with fail
                refine (awake_any _).mono ?_
                rintro e w6 ⟨rfl, hB6⟩
                obtain ⟨y0, y1, y2⟩ := pol_far hbd ⟨q0, q1, q2⟩ hB6
                have hb3 := below_next hb2 hB6
                clear q0 q1 q2 hB6 hb2
                go_wp2_with fail
                refine (same_any b1 b2 b3 none none none 0 0 0 d1 d2 d3 0 0 0 pol0 _ rfl rfl rfl (by omega) (by omega) (by omega) ⟨Or.inl rfl, Or.inl rfl, Or.inl rfl, Nat.zero_le _, Nat.zero_le _, Nat.zero_le _⟩ (held_none _)).mono ?_
                rintro e w8 ⟨rfl, hB8⟩
                have hb4 := below_next hb3 hB8
                clear hB8
                go_wp2
                go_ret
                exact ⟨rfl, hb4⟩
            · obtain ⟨m, hm⟩ : ∃ m, n = m + 1 := ⟨n - 1, by omega⟩
              have hmT : m < T.size := by omega
              have hby := byte_list T hmT
              have hwm : IntKind.i64.wrap ((n : Int) - 1) = (m : Int) := by rw [IntKind.wrap_i64]; omega
              have hnm : (n : Int) - 1 = (m : Int) := by omega
              have h10 : (T[m]'hmT).toNat = 10 := by
                rcases HEN.out with e | e
                · exact absurd e h0
                · rw [← HTL.out, hm, Nat.add_sub_cancel, hby] at e
                  rw [Option.some.inj e]
                  rfl
              have h0' : (0 : Int) < (n : Int) := by omega
              have HM := hideB hm
              clear hby hm h0
              go_upto_region 11 with fail
              go_cut [9, 10, 11] (fun s9 s10 s11 wx => ∃ bd : Nat, s9 = .pointer (some ⟨bd, 0, none⟩) ∧ s10 = .int .i64 ((k : Int) + 1) ∧ s11 = .int .i64 2 ∧ Laid3 w bd wx)
              case first =>
                go_region_with (first | (go_at_call 15; refine (HPs.out _).mono ?_; rintro e w2 ⟨b1, b2, b3, d1, d2, d3, rfl, _, hB2⟩; dsimp only [pol0, List.length_nil]; obtain ⟨hc, hf⟩ := bcell hB2; have hz := hB2.size; (try simp at hz); (try (have _k : w1.heap.size < w2.heap.size := by omega)); (try (have _k : ¬ w1.heap.size = w2.heap.size := by omega)); (try (have _k : ¬ w2.heap.size = w1.heap.size := by omega))))
                all_goals
                  go_wp2_with fail
                  go_meet
                  first
                    | exact ⟨_, rfl, rfl, rfl, laid_behind b1 b2 b3 d1 d2 d3 hb hB2⟩
                    | exact ⟨_, rfl, rfl, rfl, laid_ahead b1 b2 b3 d1 d2 d3 hb hB2⟩
              case rest =>
                obtain ⟨bd, rfl, rfl, rfl, b1, b2, b3, d1, d2, d3, hbd, q0, q1, q2, hb2⟩ := hcut
                have hkk : ((k : Int) + 1 == (k : Int) + 1) = true := by simp
                clear hb ha1 ha2 HPs
                go_wp2_with fail
                refine (awake_any _).mono ?_
                rintro e w6 ⟨rfl, hB6⟩
                obtain ⟨y0, y1, y2⟩ := pol_far hbd ⟨q0, q1, q2⟩ hB6
                have hb3 := below_next hb2 hB6
                clear q0 q1 q2 hB6 hb2
                go_wp2_with fail
                refine (same_any b1 b2 b3 none none none 0 0 0 d1 d2 d3 0 0 0 pol0 _ rfl rfl rfl (by omega) (by omega) (by omega) ⟨Or.inl rfl, Or.inl rfl, Or.inl rfl, Nat.zero_le _, Nat.zero_le _, Nat.zero_le _⟩ (held_none _)).mono ?_
                rintro e w8 ⟨rfl, hB8⟩
                have hb4 := below_next hb3 hB8
                clear hB8
                go_wp2
                go_ret
                exact ⟨rfl, hb4⟩
  · have hE : (printOf p).2 ≠ 0 := by unfold printOf; rw [if_neg hck]; exact hck
    generalize (printOf p).2 = E at *
    generalize (⟨(printOf p).1.toArray⟩ : ByteArray) = T at *
    have hE1 : ((E : Int) != 0) = true := by simp; omega
    have HP := hideB hC
    clear hC hck
    go_enter Tryd.func8, Tryd.ntmps8
    go_wp2_with fail
    refine (HP.out _ (HH.out.below (below1 _ _))).mono ?_
    rintro e w1 ⟨rfl, hB1⟩
    have hb : Below w.heap.size w w1 := box_kept hB1
    clear hB1 HP HH
    go_wp2_with fail
    refine (awake_any _).mono ?_
    rintro e w6 ⟨rfl, hB6⟩
    replace hb := below_next hb hB6
    go_wp2
    go_ret
    exact ⟨rfl, hb⟩

end Go.Proofs.YtmhjoomkeidcaaaDoor

namespace Go.Proofs.YtmhjoomkeidcaaaDoor
open Go.ChangeShapes Go.WideShapes Go.ChangeAt Go.RowKit Go.Joins Go.Deep
open Go.ChangeMaps (open_string shut_string)

set_option maxRecDepth 100000 in
theorem lines_lifted (os : Os) (started : os.Started) (H : Type) (enc : TypeId × Value → H) :
    ReturnsInHanded {} Tryd.checked os 8 .any (fun w args => (Rows.policyLinesSpec.pre enc Tryd.prog Tryd.f8 [] false w args ∧ laidMetH Tryd.prog Rows.policyLinesRow.laid w) ∧ sizedMet enc Tryd.prog Tryd.f8 (OpenSpec.ofChange Rows.policyLinesSpec) false w args)
      (Rows.policyLinesSpec.post enc Tryd.prog Tryd.f8 false true false false) := by
  refine returnsInHanded_of_change_and (C := Tryd.checked) (X := fun w _ => laidMetH Tryd.prog Rows.policyLinesRow.laid w) (fun _ _ _ hh h => h.of_heap hh) own started (by kernel_rfl) Tryd.func8
    (ChangeSpec.witness_shaped (enc := enc) (C := Tryd.checked) (os := os) (X := fun w _ => laidMetH Tryd.prog Rows.policyLinesRow.laid w) false (World.doorLaid Tryd.prog 400 os) #[.agg #[.slice none 0 0, .slice none 0 0, .slice none 0 0], .int .u8 0] 8 rfl (World.shaped_of_RefB (by kernel_rfl) (by kernel_rfl)) (by kernel_rfl) (by kernel_rfl) (by kernel_rfl) (door_met os _)) ?_
  intro W base args ds gs before hval0 hW _ _ _ _
  have hval : ∀ (j : Nat) t v, Tryd.f8.params[j]? = some t → args[j]? = some v → Value.okWide Tryd.prog W .any base t v := hval0
  have hW' := hW
  obtain ⟨p, q, hA0, hV, rfl, hfz, hnd⟩ := hW
  have hA : DataW.TrodAll enc Tryd.prog W 0 (fun _ => true) true Tryd.f8.params.toList args.toList ds p := hA0
  rw [Tryd.params8] at hA hval
  obtain ⟨v0, v1, d0, d1, p0, p1, rfl, rfl, rfl, h0, h1⟩ := trodAll_two hA
  obtain ⟨rfl, rfl⟩ := trodVars_none hV
  have k0 := h0
  have lt0 : ∀ x ∈ p0, x.block < W.heap.size := by obtain ⟨m, hm⟩ := k0; exact DataW.trod_lt m _ _ _ hm
  obtain ⟨a1, a2, a3, c1, c2, c3, pol, rfl, hheld, hfit, hm1, hm2, hm3⟩ := open_pol (hval 0 26 v0 rfl rfl) h0
  obtain ⟨b1, rfl, rfl, rfl, wb1⟩ := open_int Tryd.underlying5 (hval 1 5 v1 rfl rfl) h1
  clear hA0 hval0
  simp only [List.append_nil] at hW'
  refine (lines_walk a1 a2 a3 c1 c2 c3 pol b1 (bounds_u8 wb1) W hheld).mono fun e W' ⟨he, hg⟩ => ?_
  subst he
  exact ⟨_, rfl, _, _, _, [], _, [], hW', trodAll_mk1 (shut_bool Tryd.underlying4 _), trodAll_mk2 (Below.trod laidOut (by kernel_rfl) (of_decide_eq_true (by kernel_rfl)) k0 hg lt0) (shut_int Tryd.underlying5 wb1), rfl, hg.frame _, fun h => by cases h⟩

theorem lines_over : Rows.policyLinesRow.holds Tryd.pinned (OpenSpec.ofChange Rows.policyLinesSpec) :=
  OpenClaim.holds_of_wide 8 Tryd.f8 rfl rfl rfl rfl rfl rfl rfl ⟨rfl, rfl, rfl, rfl, rfl⟩ rfl rfl rfl rfl rfl (by kernel_rfl) Tryd.func8 (by kernel_rfl)
    (of_decide_eq_true (by kernel_rfl)) (by unfold Func.isWrapper; first | (rw [if_pos (by decide +kernel)]; kernel_rfl) | (rw [if_neg (by decide +kernel)]; exact ⟨rfl, rfl⟩))
    (fun os started H enc _ => lines_lifted os started H enc)

theorem lines_proved : Rows.PolicyLinesCardSaid :=
  Claim7.holds_tied_plain_at .later [] [.data, .data, .data] true _ false
    lines_over (fun _ h => by cases h) (by kernel_rfl) (fun _ h => by cases h) policyLines_row_tie rfl ⟨rfl, rfl⟩ (by kernel_rfl) rfl
    (fun f fn hf hfn => by
      obtain rfl : f = 8 := Option.some.inj ((show Tryd.prog.funcNamed Rows.policyLinesRow.func = some 8 by kernel_rfl).symm.trans hf) |>.symm
      obtain rfl : fn = Tryd.f8 := (Option.some.inj (Tryd.func8.symm.trans hfn)).symm
      exact ⟨by kernel_rfl, fun j t ht => by
        rw [Tryd.params8] at ht
        have hm : t ∈ [26, 5] := by simpa using Array.mem_of_getElem? ht
        have hall : ([26, 5].all fun u => !Tryd.prog.wantsStandIn u) = true := by kernel_rfl
        exact (show Tryd.prog.wantsStandIn t = false by simpa using List.all_eq_true.1 hall t hm)⟩)
    (by kernel_rfl)
#print axioms lines_proved
end Go.Proofs.YtmhjoomkeidcaaaDoor
