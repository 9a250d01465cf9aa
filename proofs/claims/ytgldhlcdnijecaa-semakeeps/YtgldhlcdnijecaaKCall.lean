/-
  What the program's functions leave of the law's rows: in terms of where an act stands.
-/
import Derived.Test.YtgldhlcdnijecaaKBase
namespace Go.Proofs.Ytgldhlcdnijecaa
open Go.RowKit

theorem rowZ_nil (w : World) (a : Option Addr) : RowZ w a [] := fun h => absurd rfl h
/-- Where an act stands, ahead of the counting of who was served. -/
def KC (w : World) (M : Nat) (N : Int) (k : Nat) (v7 v8 v9 v12 : Value) (wx : World) : Prop :=
  ∃ (s2 : Sm) (who many got gu : List Int) (T0 : Int) (a7 : Option Addr) (d7 : Nat) (a8 : Option Addr) (d8 : Nat) (a12 : Option Addr) (d12 : Nat), v7 = .slice a7 who.length d7 ∧ v8 = .slice a8 who.length d8 ∧ v9 = .int .i64 T0 ∧ v12 = .slice a12 got.length d12 ∧
    Hid (Inv s2 who many) ∧ Hid (Got s2 who many got gu T0) ∧ Hid (s2.n = N) ∧ who.length ≤ k + 1 ∧ s2.q.length ≤ k + 1 ∧ got.length ≤ 100 ∧ Hid (KX w M none0 s2 who many (.slice a7 who.length d7) (.slice a8 who.length d8) wx) ∧ Hid (RowZ wx a12 got)
theorem four {m : Nat} (h : m < 4) : m = 0 ∨ m = 1 ∨ m = 2 ∨ m = 3 := by omega
section
variable {w w2 : World} {M k b : Nat} {N T : Int} {s : Sm} {who many : List Int} {a7 a8 : Option Addr} {d7 d8 : Nat}
theorem k_drop (t : Int) (hI : Inv s who many) (hN : s.n = N) (hT : T = N - s.f) (hP : who.length ≤ k) (hQ : s.q.length ≤ k) (hk : k ≤ 60) (h : KX w M (fun j => j = b) s who many (.slice a7 who.length d7) (.slice a8 who.length d8) w2) :
    Calls Try.prog 16 #[.pointer (some ⟨M, 0, none⟩), .int .i64 t] w2 fun e w' => ∃ a c, e = .returned (.tuple #[.slice a (dropO s t).length c, .bool (dropB s t)]) ∧ KC w M N k (.slice a7 who.length d7) (.slice a8 who.length d8) (.int .i64 T) (.slice a (dropO s t).length c) w' := by
  obtain ⟨l1, l2⟩ := drop_len hI.ok t
  have e : s.n - s.f = T := by rw [hN, hT]
  obtain ⟨i1, gu, g1⟩ := keep_drop hI t
  rw [e] at g1
  refine (x_drop hI.ok (by omega) t h.1).mono fun e w' q => ?_
  obtain ⟨a, c, q1, q2, q3, q4⟩ := q
  exact ⟨a, c, q1, dropS s t, who, many, dropO s t, gu, T, a7, d7, a8, d8, a, c, rfl, rfl, rfl, rfl, hide i1, hide g1, hide ((drop_n s t).trans hN), by omega, by omega, by omega, hide ((h.kept q3 (fun i hi => Or.inl hi) q4).mono fun i h => h.elim), hide q2.row⟩
theorem k_rel (n : Int) (hI : Inv s who many) (hN : s.n = N) (hT : T = N - s.f) (hP : who.length ≤ k) (hQ : s.q.length ≤ k) (hk : k ≤ 60) (h : KX w M (fun j => j = b) s who many (.slice a7 who.length d7) (.slice a8 who.length d8) w2) :
    Calls Try.prog 17 #[.pointer (some ⟨M, 0, none⟩), .int .i64 n] w2 fun e w' => ∃ a c, e = .returned (.tuple #[.slice a (relO s n).length c, .int .i64 (relE s n)]) ∧ KC w M N k (.slice a7 who.length d7) (.slice a8 who.length d8) (.int .i64 (if relE s n = 0 then T - n else T)) (.slice a (relO s n).length c) w' ∧ Kept (fun j => j = b) w2 w' := by
  obtain ⟨l1, l2⟩ := rel_len hI.ok n
  have e : s.n - s.f = T := by rw [hN, hT]
  obtain ⟨i1, gu, g1⟩ := keep_rel hI n
  rw [e] at g1
  refine (x_rel hI.ok (by omega) n h.1).mono fun e w' q => ?_
  obtain ⟨a, c, q1, q2, q3, q4⟩ := q
  exact ⟨a, c, q1, ⟨relS s n, who, many, relO s n, gu, _, a7, d7, a8, d8, a, c, rfl, rfl, rfl, rfl, hide i1, hide g1, hide ((rel_n s n).trans hN), by omega, by omega, by omega, hide ((h.kept q3 (fun i hi => Or.inl hi) q4).mono fun i h => h.elim), hide q2.row⟩, q4.mono fun i hi => Or.inr hi⟩
/-- What is released is what is taken, at most. -/
theorem k_less {n : Int} (hI : Inv s who many) (hN : s.n = N) (hT : T = N - s.f) (e : relE s n = 0) : IntKind.i64.wrap (T - n) = T - n ∧ wrap64 (T - n) = T - n := by
  have h1 := hI.ok.n16
  have h2 := hI.ok.f0
  have h3 := hI.ok.fn
  have hh : 1 ≤ n ∧ n ≤ s.n := by
    rcases rel_cases s n with ⟨e2, _⟩ | ⟨e2, _⟩ | ⟨_, q, _⟩
    · rw [e2] at e; cases e
    · rw [e2] at e; cases e
    · exact q
  have := small_wraps (x := T - n) (by omega)
  exact ⟨this.2, this.1⟩
theorem k_more {n t : Int} (hI : Inv s who many) (hN : s.n = N) (hT : T = N - s.f) (e : acqE s t n = 0) : IntKind.i64.wrap (T + n) = T + n ∧ wrap64 (T + n) = T + n := by
  have h1 := hI.ok.n16
  have h2 := hI.ok.f0
  have h3 := hI.ok.fn
  have hh : 1 ≤ n ∧ n ≤ s.n := by
    rcases try_cases s t n with ⟨e2, _⟩ | ⟨e2, _⟩ | ⟨e2, _⟩ | ⟨_, _, q, _⟩
    · rw [show acqE s t n = tryE s t n from if_neg (by rw [e2]; decide), e2] at e; cases e
    · rw [show acqE s t n = tryE s t n from if_neg (by rw [e2]; decide), e2] at e; cases e
    · rw [show acqE s t n = 14 from if_pos e2] at e; cases e
    · exact q
  have := small_wraps (x := T + n) (by omega)
  exact ⟨this.2, this.1⟩
theorem k_acq (t n : Int) (hI : Inv s who many) (hN : s.n = N) (hT : T = N - s.f) (hP : who.length ≤ k) (hQ : s.q.length ≤ k) (hk : k ≤ 60) (h : KX w M (fun j => j = b) s who many (.slice a7 who.length d7) (.slice a8 who.length d8) w2) :
    (acqE s t n = 0 ∧ Calls Try.prog 18 #[.pointer (some ⟨M, 0, none⟩), .int .i64 t, .int .i64 n] w2 fun e w' => e = .returned (.int .i64 0) ∧ (∀ a, KC w M N k (.slice a7 who.length d7) (.slice a8 who.length d8) (.int .i64 (T + n)) (.slice a 0 0) w') ∧ Kept (fun j => j = b) w2 w') ∨
    (acqE s t n = 14 ∧ (acqS s t n).q.length ≤ k + 1 ∧ (acqS s t n).n = N ∧ Inv (acqS s t n) (who ++ [t]) (many ++ [n]) ∧ Got (acqS s t n) (who ++ [t]) (many ++ [n]) [] [] T ∧ Calls Try.prog 18 #[.pointer (some ⟨M, 0, none⟩), .int .i64 t, .int .i64 n] w2 fun e w' => e = .returned (.int .i64 14) ∧ KX w M (fun j => j = b) (acqS s t n) who many (.slice a7 who.length d7) (.slice a8 who.length d8) w' ∧ Kept (fun j => j = b) w2 w') ∨
    (∃ E, (E == (0 : Int)) = false ∧ (E == (14 : Int)) = false ∧ Calls Try.prog 18 #[.pointer (some ⟨M, 0, none⟩), .int .i64 t, .int .i64 n] w2 fun e w' => e = .returned (.int .i64 E) ∧ ∀ a, KC w M N k (.slice a7 who.length d7) (.slice a8 who.length d8) (.int .i64 T) (.slice a 0 0) w') := by
  have l1 := acq_len s t n
  have e : s.n - s.f = T := by rw [hN, hT]
  have hX := x_acq hI.ok (by omega) t n h.1
  have hn := (acq_n s t n).trans hN
  rcases keep_acq hI t n with ⟨e1, i1, g1⟩ | ⟨e1, i1, g1⟩ | ⟨e1, i1, g1⟩
  · rw [e] at g1
    rw [e1] at hX
    refine Or.inl ⟨e1, hX.mono fun e w' q => ⟨q.1, fun a => ?_, q.2.2.mono fun i hi => Or.inr hi⟩⟩
    exact ⟨acqS s t n, who, many, [], [], T + n, a7, d7, a8, d8, a, 0, rfl, rfl, rfl, rfl, hide i1, hide g1, hide hn, by omega, by omega, by simp, hide ((h.kept q.2.1 (fun i hi => hi) q.2.2).mono fun i h => h.elim), hide (rowZ_nil _ _)⟩
  · rw [e] at g1
    rw [e1] at hX
    exact Or.inr (Or.inl ⟨e1, by omega, hn, i1, g1, hX.mono fun e w' q => ⟨q.1, h.kept q.2.1 (fun i hi => hi) q.2.2, q.2.2.mono fun i hi => Or.inr hi⟩⟩)
  · rw [e] at g1
    refine Or.inr (Or.inr ⟨acqE s t n, ?_, ?_, hX.mono fun e w' q => ⟨q.1, fun a => ?_⟩⟩)
    · rcases e1 with e1 | e1 <;> rw [e1] <;> rfl
    · rcases e1 with e1 | e1 <;> rw [e1] <;> rfl
    · exact ⟨acqS s t n, who, many, [], [], T, a7, d7, a8, d8, a, 0, rfl, rfl, rfl, rfl, hide i1, hide g1, hide hn, by omega, by omega, by simp, hide ((h.kept q.2.1 (fun i hi => hi) q.2.2).mono fun i h => h.elim), hide (rowZ_nil _ _)⟩
end

end Go.Proofs.Ytgldhlcdnijecaa
