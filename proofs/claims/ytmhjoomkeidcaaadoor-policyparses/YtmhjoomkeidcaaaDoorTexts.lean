/-
  What policy.texts and policy.opens come to: the texts of a line's words, and whether a line begins with a word and has so many.
-/
import Derived.Test.YtmhjoomkeidcaaaDoorRow
namespace Go.Proofs.YtmhjoomkeidcaaaDoor
open Go.RowKit
open L3 (Wd cellsW)

theorem info9 : (Tryd.prog.info? 9).map (fun i => (i.zero, i.size, i.bytes)) = some (some (.string ⟨#[]⟩), 1, 16) := by kernel_rfl

def cT (xs : List ByteArray) : List Value := xs.map Value.string
theorem cT_length (xs : List ByteArray) : (cT xs).length = xs.length := by simp [cT]
theorem cT_append (xs ys : List ByteArray) : cT (xs ++ ys) = cT xs ++ cT ys := by simp [cT]
/-- The texts of words. -/
def txt (ws : List Wd) : List ByteArray := ws.map fun x => ⟨x.text.toArray⟩
theorem txt_length (ws : List Wd) : (txt ws).length = ws.length := by simp [txt]
theorem txt_next {ws : List Wd} {k : Nat} (h : k < ws.length) : txt (ws.take (k + 1)) = txt (ws.take k) ++ [⟨(wd ws k).text.toArray⟩] := by
  rw [List.take_add_one, wd_at h]
  simp [txt]

/-- A list of texts that a call made for itself. -/
def OwnT (w : World) (base : Nat) (v : Value) (xs : List ByteArray) : Prop := w.ownsRow base 9 1 v xs.length (cT xs)

theorem ownT_snoc {w3 : World} {B : Nat} {v : Value} {xs : List ByteArray} {t : ByteArray} (h : w3.ownsRow B 9 1 v (xs.length + 1) (cT xs ++ [.string t])) : OwnT w3 B v (xs ++ [t]) := by
  unfold OwnT
  rw [cT_append, List.length_append]
  exact h

theorem ownT_lies {w : World} {B : Nat} {v : Value} {xs : List ByteArray} (h : OwnT w B v xs) : ∃ ad cap, v = .slice ad xs.length cap ∧ xs.length ≤ cap ∧ Lies w ad (cT xs) := by
  rcases h.2 with ⟨h1, h2⟩ | ⟨g, cap, cur, hv, hg, hh, hc, _⟩
  · refine ⟨none, 0, by rw [h1, h2], by omega, Or.inl ?_⟩
    have : xs = [] := List.length_eq_zero_iff.1 h2
    rw [this]; rfl
  · subst hv
    obtain ⟨h3, _, h5, _⟩ := L3.owns_cell h
    exact ⟨_, _, rfl, hc, Or.inr ⟨g, 0, rfl, h5, fun j u hj => by rw [Nat.zero_add]; exact h3 j u hj⟩⟩

theorem Lies.text {w : World} {ad : Option Addr} {xs : List ByteArray} (h : Lies w ad (cT xs)) {i : Nat} {x : ByteArray} (hx : xs[i]? = some x) :
    ∃ b off, ad = some ⟨b, off, none⟩ ∧ b < w.heap.size ∧ w.cell? ⟨b, off + i, none⟩ = some (.string x) := by
  have e : (cT xs)[i]? = some (.string x) := by simp [cT, hx]
  rcases h with h | ⟨b, off, h1, h2, h3⟩
  · rw [h] at e; simp at e
  · exact ⟨b, off, h1, h2, h3 _ _ e⟩

set_option maxHeartbeats 2000000 in
theorem texts_any (ad : Option Addr) (n cap : Nat) (ws : List Wd) (w : World) (hl : ws.length = n) (hn : n ≤ 5000) (hrow : Lies w ad (cellsW ws)) :
    Calls Tryd.prog 34 #[.slice ad n cap] w fun e w' => ∃ v, e = .returned v ∧ OwnT w' w.heap.size v (txt ws) ∧ Below w.heap.size w w' := by
  obtain ⟨i0, hi, hz0, hz1, hz2⟩ := info_parts info9
  have HR : Hid (Lies w ad (cellsW ws)) := hrow
  clear hrow
  go_enter Tryd.func34, Tryd.ntmps34
  go_wp2
  go_loopw [3, 5, 8] (fun v _ i wr => ∃ k : Nat, k ≤ n ∧ i = .int .i64 k ∧ OwnT wr w.heap.size v (txt (ws.take k)) ∧ Below w.heap.size w wr) (fun _ _ i _ => n - (intOf i).toNat)
  case atStart => exact ⟨0, Nat.zero_le _, rfl, World.ownsRow_nil _ _ _ _, Below.refl _ _⟩
  case round =>
    obtain ⟨k, hk, rfl, hown, hnx⟩ := hrel
    have hsz := hnx.size
    by_cases hlt : k < n
    · obtain ⟨b, off, rfl, hb, q0, q1, q2⟩ := (HR.out.below hnx).word (wd_at (i := k) (by omega))
      have HT : Hid (txt (ws.take (k + 1)) = txt (ws.take k) ++ [⟨(wd ws k).text.toArray⟩]) := txt_next (by omega)
      generalize wd ws k = x at *
      generalize hxt : (⟨x.text.toArray⟩ : ByteArray) = T at *
      clear hxt
      have hlen : (txt (ws.take k)).length ≤ 5000 := by rw [txt_length, List.length_take]; omega
      generalize txt (ws.take k) = D at *
      have hown2 : wr.ownsRow w.heap.size 9 1 u3 D.length (cT D) := hown
      clear hown
      go_wp2_with (at_builtin; refine wpList_append_own _ rfl _ _ 67 rfl w.heap.size 9 i0 (.string ⟨#[]⟩) 1 16 Tryd.underlying67 hi hz0 hz1 hz2 rfl (by decide) _ _ _ rfl ((hown2.alloc _).alloc _) ⟨wr.heap.size + 1, 0, none⟩ 1 1 [.string T] rfl rfl ?c1 ?c2 ?c3 ?c4 ?c5 ?_)
      case c1 =>
        intro j u hj
        match j, hj with
        | 0, hj => simp at hj; subst hj; simp [Addr.add]
      case c2 => intro u hu; simp at hu; subst hu; rfl
      case c3 => unfold maxLen; omega
      case c4 => omega
      case c5 => simp; omega
      intro v' w3 hown' hgrow _
      have HO : Hid (OwnT w3 w.heap.size v' (D ++ [T])) := ownT_snoc hown'
      have hB3 : Below w.heap.size w w3 := ((hnx.alloc hsz _).alloc (by simp; omega) _).grown hgrow (by simp; omega) (fun j hj => (hown2.lt j hj).1)
      clear hown' hgrow hown2
      go_wp2_with fail
      go_roundw
      case rel => exact ⟨k + 1, by omega, by go_num, by rw [HT.out]; exact HO.out, hB3⟩
      case measure => simp [intOf]; omega
    · rw [List.take_of_length_le (by omega)] at hown
      go_wp2
      go_ret
      exact ⟨_, rfl, hown, hnx⟩

set_option maxHeartbeats 400000 in
theorem opens_any (b off n cap : Nat) (x word : ByteArray) (len : Nat) (w : World) (hn : 1 ≤ n) (hc : w.cell? ⟨b, off, none⟩ = some (.string x)) :
    Calls Tryd.prog 56 #[.slice (some ⟨b, off, none⟩) n cap, .string word, .int .i64 len] w fun e w' => e = .returned (.bool (decide (x = word) && decide (n = len))) ∧ w' = w := by
  have h0 : (0 : Int) < (n : Int) := by omega
  by_cases hx : x = word
  · have hxb : (x.toList == word.toList) = true := by rw [list_eqb]; exact decide_eq_true hx
    rw [decide_eq_true hx, Bool.true_and]
    clear hx
    by_cases hl : n = len
    · have hlb : ((n : Int) == (len : Int)) = true := by simp; omega
      rw [decide_eq_true hl]
      clear hl
      go_enter Tryd.func56, Tryd.ntmps56
      go_wp2
      go_ret
      exact ⟨rfl, rfl⟩
    · have hlb : ((n : Int) == (len : Int)) = false := by simp; omega
      rw [decide_eq_false hl]
      clear hl
      go_enter Tryd.func56, Tryd.ntmps56
      go_wp2
      go_ret
      exact ⟨rfl, rfl⟩
  · have hxb : (x.toList == word.toList) = false := by rw [list_eqb]; exact decide_eq_false hx
    rw [decide_eq_false hx, Bool.false_and]
    clear hx
    go_enter Tryd.func56, Tryd.ntmps56
    go_wp2
    go_ret
    exact ⟨rfl, rfl⟩

end Go.Proofs.YtmhjoomkeidcaaaDoor
