/-
  Tasks that wait one behind the other, each for its own number of units, as plain data: who is served as units are given back one by one.
-/
import Derived.Test.YtgldhlcdnijecaaUp
import Derived.Test.YtgldhlcdnijecaaMem
namespace Go.Proofs.Ytgldhlcdnijecaa
open Go.RowKit

/-- r tasks, from the one behind p on. -/
def qd (u : Nat → Int) : Nat → Nat → List Wt
  | _, 0 => []
  | p, r + 1 => ⟨1 + (p : Int), u p⟩ :: qd u (p + 1) r
/-- How many units c of them want. -/
def sumU (u : Nat → Int) : Nat → Nat → Int
  | _, 0 => 0
  | p, c + 1 => u p + sumU u (p + 1) c
theorem qd_len (u : Nat → Int) : ∀ (r p : Nat), (qd u p r).length = r
  | 0, _ => rfl
  | r + 1, p => by simp [qd, qd_len u r]
theorem qd_ts (u : Nat → Int) : ∀ (r p : Nat), ts (qd u p r) = upZ (1 + (p : Int)) r
  | 0, _ => rfl
  | r + 1, p => by
    show (1 + (p : Int)) :: ts (qd u (p + 1) r) = (1 + (p : Int)) :: upZ (1 + (p : Int) + 1) r
    rw [qd_ts u r (p + 1), show (1 + ((p + 1 : Nat) : Int)) = 1 + (p : Int) + 1 by omega]
theorem qd_snoc (u : Nat → Int) : ∀ (r p : Nat), qd u p (r + 1) = qd u p r ++ [⟨1 + ((p + r : Nat) : Int), u (p + r)⟩]
  | 0, p => by simp [qd]
  | r + 1, p => by
    show _ :: qd u (p + 1) (r + 1) = _ :: (qd u (p + 1) r ++ _)
    rw [qd_snoc u r (p + 1), show p + 1 + r = p + (r + 1) by omega]
theorem qd_mem (u : Nat → Int) : ∀ (r p : Nat) (x : Wt), x ∈ qd u p r → ∃ i, p ≤ i ∧ i < p + r ∧ x.u = u i
  | 0, _, _, h => by simp [qd] at h
  | r + 1, p, x, h => by
    rcases List.mem_cons.1 h with e | e
    · exact ⟨p, by omega, by omega, by rw [e]⟩
    · obtain ⟨i, h1, h2, h3⟩ := qd_mem u r (p + 1) x e
      exact ⟨i, by omega, by omega, h3⟩
theorem sum_add (u : Nat → Int) : ∀ (c d p : Nat), sumU u p (c + d) = sumU u p c + sumU u (p + c) d
  | 0, d, p => by simp [sumU]
  | c + 1, d, p => by
    rw [show c + 1 + d = (c + d) + 1 by omega]
    show u p + sumU u (p + 1) (c + d) = u p + sumU u (p + 1) c + _
    rw [sum_add u c d (p + 1), show p + 1 + c = p + (c + 1) by omega]
    omega
theorem sum_one (u : Nat → Int) (p c : Nat) : sumU u p (c + 1) = sumU u p c + u (p + c) := by
  rw [sum_add u c 1 p]
  show _ + (u (p + c) + 0) = _
  omega
theorem sum_range (u : Nat → Int) {K : Nat} (hu : ∀ i, i < K → 1 ≤ u i ∧ u i ≤ 16) : ∀ (c p : Nat), p + c ≤ K → 0 ≤ sumU u p c ∧ sumU u p c ≤ 16 * (c : Int)
  | 0, _, _ => ⟨Int.le_refl _, by show (0 : Int) ≤ _; omega⟩
  | c + 1, p, h => by
    have h1 := sum_range u hu c (p + 1) (by omega)
    have h2 := hu p (by omega)
    show 0 ≤ u p + sumU u (p + 1) c ∧ u p + sumU u (p + 1) c ≤ _
    omega
theorem serve_qd (u : Nat → Int) (N : Int) : ∀ (r p : Nat) (g : Int), 0 ≤ g → ∃ c f2, c ≤ r ∧ serveO ⟨N, g, qd u p r⟩ = upZ (1 + (p : Int)) c ∧ serveS ⟨N, g, qd u p r⟩ = ⟨N, f2, qd u (p + c) (r - c)⟩ ∧ f2 + sumU u p c = g ∧ 0 ≤ f2 ∧ (c < r → f2 < u (p + c))
  | 0, p, g, h => ⟨0, g, Nat.le_refl _, rfl, rfl, by show g + 0 = g; omega, h, fun h => absurd h (by omega)⟩
  | r + 1, p, g, h => by
    by_cases hu : u p ≤ g
    · obtain ⟨c, f2, h1, h2, h3, h4, h5, h6⟩ := serve_qd u N r (p + 1) (g - u p) (by omega)
      obtain ⟨e1, e2⟩ := serve_more (n := N) (f := g) (x := ⟨1 + (p : Int), u p⟩) (q := qd u (p + 1) r) hu
      have e1' : serveO ⟨N, g, qd u p (r + 1)⟩ = (1 + (p : Int)) :: serveO ⟨N, g - u p, qd u (p + 1) r⟩ := e1
      have e2' : serveS ⟨N, g, qd u p (r + 1)⟩ = serveS ⟨N, g - u p, qd u (p + 1) r⟩ := e2
      refine ⟨c + 1, f2, by omega, ?_, ?_, ?_, h5, fun hc => ?_⟩
      · rw [e1', h2, show (1 + ((p + 1 : Nat) : Int)) = 1 + (p : Int) + 1 by omega]
        rfl
      · rw [e2', h3, show p + 1 + c = p + (c + 1) by omega, show r - c = r + 1 - (c + 1) by omega]
      · show f2 + (u p + sumU u (p + 1) c) = g
        omega
      · have := h6 (by omega)
        rw [show p + 1 + c = p + (c + 1) by omega] at this
        exact this
    · obtain ⟨e1, e2⟩ := serve_none (n := N) (f := g) (q := qd u p (r + 1)) (fun x hx => by
        have : x = ⟨1 + (p : Int), u p⟩ := by simpa [qd] using hx.symm
        rw [this]
        show g < u p
        omega)
      exact ⟨0, g, by omega, e1, e2, by show g + 0 = g; omega, h, fun _ => by show g < u p; omega⟩

/-- A list of bytes that is handed in, as far as it is read, as numbers. -/
theorem bytes_list {w : World} {ad : Option Addr} {len : Nat} (h : Bytes w ad len) : ∀ K, K ≤ len → ∃ ds : List Int, ds.length = K ∧ ∀ i, i < K → ∃ b off, ad = some ⟨b, off, none⟩ ∧ b < w.heap.size ∧ w.cell? ⟨b, off + i, none⟩ = some (.int .u8 (gz ds i)) ∧ (0 ≤ gz ds i ∧ gz ds i ≤ 255)
  | 0, _ => ⟨[], rfl, fun i hi => absurd hi (by omega)⟩
  | K + 1, hK => by
    obtain ⟨ds, h1, h2⟩ := bytes_list h K (by omega)
    obtain ⟨b, off, d, e1, e2, e3, e4⟩ := h K (by omega)
    refine ⟨ds ++ [d], by simp [h1], fun i hi => ?_⟩
    by_cases e : i = K
    · subst e
      have g : gz (ds ++ [d]) i = d := by
        rw [gz, List.getD_eq_getElem?_getD, List.getElem?_append_right (by omega), h1, Nat.sub_self]
        rfl
      rw [g]
      exact ⟨b, off, e1, e2, e3, e4⟩
    · have g : gz (ds ++ [d]) i = gz ds i := by
        rw [gz, List.getD_eq_getElem?_getD, List.getElem?_append_left (by omega), ← List.getD_eq_getElem?_getD]
        rfl
      rw [g]
      exact h2 i (by omega)

/-- What the i-th of them wants. -/
def uOf (N : Int) (ds : List Int) (i : Nat) : Int := 1 + (gz ds i).tmod N
theorem uOf_range {N : Int} {ds : List Int} {i : Nat} (h1 : 1 ≤ N) (h : 0 ≤ gz ds i ∧ gz ds i ≤ 255) : 1 ≤ uOf N ds i ∧ uOf N ds i ≤ N ∧ (0 ≤ (gz ds i).tmod N ∧ (gz ds i).tmod N < N) := by
  unfold uOf
  rw [Int.tmod_eq_emod_of_nonneg h.1]
  have a := Int.emod_nonneg (gz ds i) (show N ≠ 0 by omega)
  have b := Int.emod_lt_of_pos (gz ds i) (show 0 < N by omega)
  omega

/-- K tasks, each with its number. -/
structure Nums (N : Int) (u : Nat → Int) (K : Nat) : Prop where
  n1 : 1 ≤ N
  n16 : N ≤ 16
  few : K ≤ 20
  u : ∀ i, i < K → 1 ≤ u i ∧ u i ≤ N
theorem Nums.ok {N : Int} {u : Nat → Int} {K : Nat} (h : Nums N u K) {p r : Nat} (hp : p + r ≤ K) {f : Int} (h0 : 0 ≤ f) (hf : f ≤ N) : Okw ⟨N, f, qd u p r⟩ :=
  ⟨h.n1, h.n16, h0, hf, fun x hx => by
    obtain ⟨i, h1, h2, h3⟩ := qd_mem u r p x hx
    rw [h3]
    exact h.u i (by omega)⟩
theorem Nums.first {N : Int} (h1 : 1 ≤ N) : acqE ⟨N, N, []⟩ 99 N = 0 ∧ acqS ⟨N, N, []⟩ 99 N = ⟨N, 0, []⟩ := by
  have e : tryE ⟨N, N, []⟩ 99 N = 0 := by
    unfold tryE
    rw [if_neg (by rintro (q | q); omega; exact q ⟨h1, Int.le_refl _⟩), if_neg (by simp [ts, inZ]), if_neg (by rintro (q | q); simp at q; dsimp only at q; omega)]
  refine ⟨?_, ?_⟩
  · unfold acqE; rw [e, if_neg (by decide)]
  · unfold acqS tryS
    rw [e, if_neg (by decide), if_pos rfl]
    show (⟨N, N - N, []⟩ : Sm) = _
    rw [Int.sub_self]
theorem Nums.acq {N : Int} {u : Nat → Int} {K : Nat} (h : Nums N u K) {k : Nat} (hk : k < K) : acqE ⟨N, 0, qd u 0 k⟩ (1 + (k : Int)) (u k) = 14 ∧ acqS ⟨N, 0, qd u 0 k⟩ (1 + (k : Int)) (u k) = ⟨N, 0, qd u 0 (k + 1)⟩ := by
  have hu := h.u k hk
  have e : tryE ⟨N, 0, qd u 0 k⟩ (1 + (k : Int)) (u k) = 12 := by
    unfold tryE
    rw [if_neg (by rintro (q | q); omega; exact q hu), if_neg (by
      show ¬ inZ (ts (qd u 0 k)) _ = true
      rw [qd_ts, up_out (by omega)]; simp), if_pos (Or.inr (by dsimp only; omega))]
  refine ⟨if_pos e, ?_⟩
  unfold acqS
  rw [if_pos e]
  show (⟨N, 0, qd u 0 k ++ [⟨1 + (k : Int), u k⟩]⟩ : Sm) = _
  rw [qd_snoc u k 0, Nat.zero_add]
theorem Nums.rel {N : Int} {u : Nat → Int} {K : Nat} (h : Nums N u K) {p r : Nat} (hp : p + r = K) {f : Int} (h0 : 0 ≤ f) (hf : f < N) :
    ∃ c f2, c ≤ r ∧ relE ⟨N, f, qd u p r⟩ 1 = 0 ∧ relO ⟨N, f, qd u p r⟩ 1 = upZ (1 + (p : Int)) c ∧ relS ⟨N, f, qd u p r⟩ 1 = ⟨N, f2, qd u (p + c) (r - c)⟩ ∧ f2 + sumU u p c = f + 1 ∧ 0 ≤ f2 ∧ f2 ≤ N ∧ (c < r → f2 < u (p + c)) := by
  obtain ⟨c, f2, h1, h2, h3, h4, h5, h6⟩ := serve_qd u N r p (f + 1) (by omega)
  have e : relE ⟨N, f, qd u p r⟩ 1 = 0 := by
    unfold relE
    rw [if_neg (fun q => q ⟨by omega, h.n1⟩), if_neg (by dsimp only; omega)]
  have hs := (sum_range u (K := K) (fun i hi => ⟨(h.u i hi).1, Int.le_trans (h.u i hi).2 h.n16⟩) c p (by omega)).1
  refine ⟨c, f2, h1, e, ?_, ?_, h4, h5, by omega, h6⟩
  · unfold relO; rw [if_pos e]; exact h2
  · unfold relS; rw [if_pos e]; exact h3

end Go.Proofs.Ytgldhlcdnijecaa
