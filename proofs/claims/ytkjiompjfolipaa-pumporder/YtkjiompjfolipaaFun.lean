/-
  What the program's calls come to.
-/
import Derived.Test.YtkjiompjfolipaaBase
import Derived.Deep.DeepCutAuto
import Derived.Lib.QuietBelow
import Derived.Deep.RegionHeld3
namespace Go.Proofs.Ytkjiompjfolipaa
open Go.RowKit

theorem wrapS {n : Int} (h : -1000000 ≤ n ∧ n ≤ 1000000) : wrap64 n = n := by unfold wrap64; omega
set_option maxHeartbeats 1000000 in
theorem new_any (n : Int) (w : World) : Calls Try.prog 8 #[.int .i64 n] w fun e w' => e = .returned (.pointer (some ⟨w.heap.size, 0, none⟩)) ∧ AtM w' w.heap.size (ps0 (cut8 n)) ∧ Below w.heap.size w w' := by
  obtain ⟨M, hM⟩ : ∃ M : Int, M = max n 1 := ⟨_, rfl⟩
  have hN : ((cut8 n : Nat) : Int) = min M 8 := by rw [cut8_eq, hM]
  have h18 := cut8_ok n
  have hmx : ∀ (ats : Array TypeId) (ty : TypeId), Builtin.max_ ats ty #[.int .i64 n, .int .i64 1] = pure (.int .i64 M) := fun _ _ => by
    by_cases h : n < 1
    · simp [Builtin.max_, Builtin.max2, h, show M = 1 by omega]
    · simp [Builtin.max_, Builtin.max2, h, show M = n by omega]
  have hmn : ∀ (ats : Array TypeId) (ty : TypeId), Builtin.min_ ats ty #[.int .i64 M, .int .i64 8] = pure (.int .i64 ((cut8 n : Nat) : Int)) := fun _ _ => by
    by_cases h : 8 < M
    · simp [Builtin.min_, Builtin.min2, h, show ((cut8 n : Nat) : Int) = 8 by omega]
    · simp [Builtin.min_, Builtin.min2, h, show ((cut8 n : Nat) : Int) = M by omega]
  clear hM hN
  generalize cut8 n = N at *
  have u1 : IntKind.i64.wrap ((N : Int) - 1) = (N : Int) - 1 := wrapB (by omega)
  have u2 : wrap64 ((N : Int) - 1) = (N : Int) - 1 := by unfold wrap64; omega
  generalize hO : (N : Int) - 1 = O at u1 u2
  go_enter Try.func8, Try.ntmps8
  go_wp2
  go_ret
  refine ⟨rfl, ⟨_, Fit.start _, ?_⟩, (Below.refl _ _).alloc (Nat.le_refl _) _⟩
  simp only [ps0, gz_zeros, List.length_nil]
  subst hO
  exact heap_alloc_new _ _

set_option maxHeartbeats 1000000 in
theorem place_any (M k : Nat) (hk : 1 ≤ k ∧ k ≤ 8) (a : Nat) (ha : a ≤ 100000) (w : World) (c8 : w.cell? ⟨M, 8, none⟩ = some (.int .i64 ((k : Int) - 1))) : Calls Try.prog 16 #[.pointer (some ⟨M, 0, none⟩), .int .i64 (a : Int)] w fun e w' => e = .returned (.int .i64 ((a % k : Nat) : Int)) ∧ w' = w := by
  have e1 : wrap64 ((k : Int) - 1 + 1) = (k : Int) := by unfold wrap64; omega
  have e2 : ¬ (k : Int) = 0 := by omega
  go_enter Try.func16, Try.ntmps16
  go_wp2
  go_ret
  exact ⟨ret_int (Int.natCast_emod _ _).symm, rfl⟩

set_option maxHeartbeats 400000 in
theorem total_any (M : Nat) (s : Ps) (w : World) (hM : AtM w M s) : Calls Try.prog 14 #[.pointer (some ⟨M, 0, none⟩)] w fun e w' => e = .returned (.int .i64 (s.l.length : Int)) ∧ w' = w := by
  obtain ⟨_, c9, _⟩ := hM.cells
  clear hM
  generalize s.l.length = W at *
  go_enter Try.func14, Try.ntmps14
  go_wp2
  go_ret
  exact ⟨rfl, rfl⟩

set_option maxHeartbeats 2000000 in
theorem send_any (M : Nat) (s : Ps) (hO : Okp s) (hl : s.l.length ≤ 1000) (v : Int) (w : World) (hM : AtM w M s) : Calls Try.prog 11 #[.pointer (some ⟨M, 0, none⟩), .int .i64 v] w fun e w' => e = .returned (.int .i64 0) ∧ NowM M (s.snd v) w w' := by
  obtain ⟨c8, c9, cf⟩ := hM.cells
  have hlt : s.l.length % s.k < 8 := Nat.lt_of_lt_of_le (Nat.mod_lt _ (by have := hO.1; omega)) hO.2
  obtain ⟨x, cx⟩ := hM.place hlt
  have HP := hide (fun W => place_any M s.k hO s.l.length (by omega) W)
  have HF : Hid (∀ q, q = (s.l.length : Int) + 1 → NowM M (s.snd v) w ((w.setCell ⟨M, s.l.length % s.k, none⟩ (.int .i64 v)).drew.setCell ⟨M, 9, none⟩ (.int .i64 q))) := hide fun q hq =>
    ⟨(hM.snd hO v hq).keep rfl, (((Mov.refl (fun k => k = M) w).set (p := ⟨M, s.l.length % s.k, none⟩) rfl (.int .i64 v)).trans (Mov.of_below (Below.refl _ _).drew)).set (p := ⟨M, 9, none⟩) rfl (.int .i64 q)⟩
  have hMl := hM.lt
  clear hM hO
  generalize s.snd v = s2 at *
  generalize hj : s.l.length % s.k = j at *
  generalize s.l.length = L at *
  generalize (s.k : Int) - 1 = O at *
  have cf8 := cf 8
  have cf9 := cf 9
  have cfj := cf j
  clear cf
  have j1 : (j : Int) < 8 := by omega
  have j0 : (0 : Int) ≤ (j : Int) := by omega
  have HK : Hid (∀ W : World, W.cell? ⟨M, 9, none⟩ = some (.int .i64 (L : Int)) → (W.setCell ⟨M, j, none⟩ (.int .i64 v)).drew.cell? ⟨M, 9, none⟩ = some (.int .i64 (L : Int))) := hide fun W h => (World.cell?_setCell_other W ⟨M, j, none⟩ ⟨M, 9, none⟩ _ (by intro q; injection q with _ q2; omega)).trans h
  have u1 : wrap64 ((L : Int) + 1) = (L : Int) + 1 := by unfold wrap64; omega
  go_enter Try.func11, Try.ntmps11
  go_wp2_with fail
  go_region_held3 (fun w' => w'.cell? ⟨M, 9, none⟩ = some (.int .i64 (L : Int))) (first | assumption | exact HK.out _ (by assumption) | exact HK.out w (by assumption) | go_keep) (first | (go_at_call 16; refine (HP.out _ (by assumption)).mono ?_; rintro e w3 ⟨rfl, hw3⟩; subst hw3))
  have d9 : (w.setCell ⟨M, j, none⟩ (.int .i64 v)).drew.cell? ⟨M, 9, none⟩ = some (.int .i64 (L : Int)) := HK.out w c9
  have d9' : (w.setCell ⟨M, j, none⟩ (.int .i64 v)).drew.frozen? ⟨M, 9, none⟩ = false := by
    show (w.setCell ⟨M, j, none⟩ (.int .i64 v)).frozen? ⟨M, 9, none⟩ = false
    rw [World.frozen?_setCell]
    exact cf9
  have HF2 := hide (HF.out _ rfl)
  generalize (w.setCell ⟨M, j, none⟩ (.int .i64 v)).drew = w4 at *
  clear c8 c9 cx cf8 cf9 cfj HP HK HF hMl
  go_wp2
  go_ret
  exact ⟨rfl, HF2.out⟩

theorem results_tmp4 {fn : Func} {t u v x : Tmp} (h : fn.results = #[.tmp t, .tmp u, .tmp v, .tmp x]) (tmps : Array Value) (P : Program) (w : World) :
    (results fn tmps).run P w = .ok (.tuple #[tmps.getD t undef, tmps.getD u undef, tmps.getD v undef, tmps.getD x undef]) w := by
  simp [results, h]

end Go.Proofs.Ytkjiompjfolipaa
