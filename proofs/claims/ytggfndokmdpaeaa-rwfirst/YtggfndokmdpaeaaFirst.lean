/-
  What the law RwFirst asks comes out true at any two bytes and any Bool.
-/
import Derived.Test.YtggfndokmdpaeaaUp
import Derived.Deep.DeepCutAuto
namespace Go.Proofs.Ytggfndokmdpaeaa
open Go.RowKit

def noF (_ : Nat) : Prop := False
/-- One that writes, or some that read; one that waits to write; some that wait to read. -/
def sF (a : Int) (rs : List Int) (k : Nat) : St := ⟨a, rs, [50], upZ 60 k⟩
def sG (k : Nat) : St := ⟨50, [], [], upZ 60 k⟩
def sH (k : Nat) : St := ⟨0, upZ 60 k, [], []⟩
def sR (k : Nat) : St := ⟨0, upZ 1 k, [], []⟩
def sW1 : St := ⟨1, [], [], []⟩
theorem sF_len {a : Int} {rs : List Int} {k : Nat} (h : rs.length ≤ 10) (hk : k ≤ 10) : (sF a rs k).len ≤ 1000 := by
  show rs.length + 1 + (upZ 60 k).length ≤ 1000
  rw [up_len]; omega
theorem sF_nds {a : Int} {rs : List Int} (k : Nat) (h : rs.Nodup) : Nds (sF a rs k) := ⟨h, by show [50].Nodup; simp, up_nodup _ _⟩
theorem sG_len {k : Nat} (hk : k ≤ 10) : (sG k).len ≤ 1000 := by
  show 0 + 0 + (upZ 60 k).length ≤ 1000
  rw [up_len]; omega
theorem sG_nds (k : Nat) : Nds (sG k) := ⟨List.nodup_nil, List.nodup_nil, up_nodup _ _⟩
theorem sH_len {k : Nat} (hk : k ≤ 10) : (sH k).len ≤ 1000 := by
  show (upZ 60 k).length + 0 + 0 ≤ 1000
  rw [up_len]; omega
theorem sR_len {k : Nat} (hk : k ≤ 10) : (sR k).len ≤ 1000 := by
  show (upZ 1 k).length + 0 + 0 ≤ 1000
  rw [up_len]; omega
theorem sR_rlock {k : Nat} (h : 1 ≤ k) : readE 14 (sR (k - 1)) (k : Int) = 0 ∧ rlockS (sR (k - 1)) (k : Int) = sR (k + 1 - 1) := by
  obtain ⟨j, rfl⟩ : ∃ j, k = j + 1 := ⟨k - 1, by omega⟩
  have e1 : j + 1 - 1 = j := by omega
  have e2 : j + 1 + 1 - 1 = j + 1 := by omega
  rw [e1, e2]
  have hh : here (sR j) ((j + 1 : Nat) : Int) = false := by
    unfold here
    have a : decide (((j + 1 : Nat) : Int) = (sR j).w) = false := decide_eq_false (by show ¬ ((j + 1 : Nat) : Int) = 0; omega)
    have b : inZ (sR j).rs ((j + 1 : Nat) : Int) = false := up_out (by omega)
    have c : inZ (sR j).tw ((j + 1 : Nat) : Int) = false := rfl
    have d : inZ (sR j).tr ((j + 1 : Nat) : Int) = false := rfl
    rw [a, b, c, d]
    rfl
  have hw : wrongE (sR j) ((j + 1 : Nat) : Int) = 0 := by unfold wrongE; rw [if_neg (by omega), hh]; rfl
  obtain ⟨x1, _, x3⟩ := readE_free (E := 14) hw (fun q => by rcases q with q | q; exact q rfl; exact q rfl)
  refine ⟨x1, x3.trans ?_⟩
  show (⟨0, upZ 1 j ++ [((j + 1 : Nat) : Int)], [], []⟩ : St) = ⟨0, upZ 1 (j + 1), [], []⟩
  rw [up_snoc]
  congr 3
  omega
theorem sR_lock {n : Nat} (h : 1 ≤ n) (h2 : n ≤ 10) : writeE 14 (sR n) 50 = 14 ∧ lockS (sR n) 50 = sF 0 (upZ 1 n) 0 := by
  have hh : here (sR n) 50 = false := by
    unfold here
    have a : decide ((50 : Int) = (sR n).w) = false := rfl
    have b : inZ (sR n).rs 50 = false := up_out (by omega)
    have c : inZ (sR n).tw 50 = false := rfl
    have d : inZ (sR n).tr 50 = false := rfl
    rw [a, b, c, d]
    rfl
  have hw : wrongE (sR n) 50 = 0 := by unfold wrongE; rw [if_neg (by omega), hh]; rfl
  have hne : (sR n).rs ≠ [] := fun e => by
    have : (upZ 1 n).length = 0 := by rw [show upZ 1 n = [] from e]; rfl
    rw [up_len] at this
    omega
  obtain ⟨x1, _, x3⟩ := writeE_busy (E := 14) hw (Or.inr hne)
  exact ⟨x1, x3⟩
theorem sF_here {a : Int} {rs : List Int} {k : Nat} {t : Int} (ha : a < 60) (hr : ∀ x ∈ rs, x < 60) (ht : 60 + (k : Int) ≤ t) : wrongE (sF a rs k) t = 0 := by
  have hh : here (sF a rs k) t = false := by
    unfold here
    have x1 : decide (t = (sF a rs k).w) = false := decide_eq_false (by show ¬ t = a; omega)
    have x2 : inZ (sF a rs k).rs t = false := inZ_false.2 fun h => by have := hr t h; omega
    have x3 : inZ (sF a rs k).tw t = false := inZ_false.2 (by show t ∉ [50]; simp; omega)
    have x4 : inZ (sF a rs k).tr t = false := up_out (by omega)
    rw [x1, x2, x3, x4]
    rfl
  unfold wrongE
  rw [if_neg (by omega), hh]
  rfl
theorem sF_rlock {a : Int} {rs : List Int} {k : Nat} (ha : a < 60) (hr : ∀ x ∈ rs, x < 60) : readE 14 (sF a rs k) (60 + (k : Int)) = 14 ∧ rlockS (sF a rs k) (60 + (k : Int)) = sF a rs (k + 1) := by
  obtain ⟨x1, _, x3⟩ := readE_busy (E := 14) (sF_here (k := k) ha hr (Int.le_refl _)) (Or.inr (by show [50] ≠ []; simp))
  refine ⟨x1, x3.trans ?_⟩
  show (⟨a, rs, [50], upZ 60 k ++ [60 + (k : Int)]⟩ : St) = ⟨a, rs, [50], upZ 60 (k + 1)⟩
  rw [up_snoc]
theorem sF_tryR {a : Int} {rs : List Int} {k : Nat} (ha : a < 60) (hr : ∀ x ∈ rs, x < 60) (hk : k ≤ 20) : readE 12 (sF a rs k) 90 = 12 ∧ tryRS (sF a rs k) 90 = sF a rs k := by
  obtain ⟨x1, x2, _⟩ := readE_busy (E := 12) (sF_here (k := k) (t := 90) ha hr (by omega)) (Or.inr (by show [50] ≠ []; simp))
  exact ⟨x1, x2⟩
theorem sF_run_w (k : Nat) : runE (sF 1 [] k) 1 = 11 ∧ runO (sF 1 [] k) 1 = [] ∧ runS (sF 1 [] k) 1 = sF 1 [] k := ⟨rfl, rfl, rfl⟩
theorem sF_un_w (k : Nat) : unE (sF 1 [] k) 1 = 0 ∧ unO (sF 1 [] k) 1 = [50] ∧ unS (sF 1 [] k) 1 = sG k := ⟨rfl, rfl, rfl⟩
theorem sG_un (k : Nat) : unE (sG k) 50 = 0 ∧ unO (sG k) 50 = upZ 60 k ∧ unS (sG k) 50 = sH k := ⟨rfl, rfl, rfl⟩
theorem sF_can (j m k : Nat) (hj : 1 ≤ j) : canR (sF 0 (upZ (j : Int) (m + 1)) k) (j : Int) ∧ lessR (sF 0 (upZ (j : Int) (m + 1)) k) (j : Int) = sF 0 (upZ ((j : Int) + 1) m) k := by
  refine ⟨⟨by omega, inZ_true.2 List.mem_cons_self⟩, ?_⟩
  show (⟨0, rmZ (upZ (j : Int) (m + 1)) (j : Int), [50], upZ 60 k⟩ : St) = _
  rw [up_rm]
  rfl
theorem sF_run_last (j k : Nat) (hj : 1 ≤ j) : runE (sF 0 (upZ (j : Int) 1) k) (j : Int) = 0 ∧ runO (sF 0 (upZ (j : Int) 1) k) (j : Int) = [50] ∧ runS (sF 0 (upZ (j : Int) 1) k) (j : Int) = sG k := by
  obtain ⟨c, e⟩ := sF_can j 0 k hj
  obtain ⟨x1, x2, x3⟩ := can_r c
  rw [e] at x2 x3
  exact ⟨x1, x2, x3⟩
theorem sF_run_mid (j m k : Nat) (hj : 1 ≤ j) : runE (sF 0 (upZ (j : Int) (m + 2)) k) (j : Int) = 0 ∧ runO (sF 0 (upZ (j : Int) (m + 2)) k) (j : Int) = [] ∧ runS (sF 0 (upZ (j : Int) (m + 2)) k) (j : Int) = sF 0 (upZ ((j + 1 : Nat) : Int) (m + 1)) k := by
  obtain ⟨c, e⟩ := sF_can j (m + 1) k hj
  obtain ⟨x1, x2, x3⟩ := can_r c
  rw [e] at x2 x3
  exact ⟨x1, x2, x3⟩
/-- Where the last loop is: some that read are left, or none. -/
def sJ (n j k : Nat) : St := if j ≤ n then sF 0 (upZ (j : Int) (n + 1 - j)) k else sG k
theorem sJ_run {n j k : Nat} (hj : 1 ≤ j) (h : j ≤ n) : runE (sJ n j k) (j : Int) = 0 ∧ runO (sJ n j k) (j : Int) = (if j < n then [] else [50]) ∧ runS (sJ n j k) (j : Int) = sJ n (j + 1) k := by
  unfold sJ
  rw [if_pos h]
  by_cases hl : j < n
  · rw [if_pos hl, if_pos (by omega)]
    obtain ⟨m, hm⟩ : ∃ m, n + 1 - j = m + 2 := ⟨n - 1 - j, by omega⟩
    rw [hm, show n + 1 - (j + 1) = m + 1 by omega]
    exact sF_run_mid j m k hj
  · rw [if_neg hl, if_neg (by omega), show n + 1 - j = 1 by omega]
    exact sF_run_last j k hj
theorem sJ_len {n j k : Nat} (hn : n ≤ 6) (hj : 1 ≤ j) (hk : k ≤ 10) : (sJ n j k).len ≤ 1000 := by
  unfold sJ
  split
  · exact sF_len (by rw [up_len]; omega) hk
  · exact sG_len hk
theorem sJ_nds (n j k : Nat) : Nds (sJ n j k) := by
  unfold sJ
  split
  · exact sF_nds k (up_nodup _ _)
  · exact sG_nds k
theorem up_small {n : Nat} (h : n ≤ 10) : ∀ x ∈ upZ 1 n, x < 60 := fun x hx => by
  have := ((up_mem _ _ _).1 hx).2
  omega

theorem wrap60 {k : Nat} (h : k ≤ 6) : wrap64 (60 + (k : Int)) = 60 + (k : Int) := by unfold wrap64; omega
theorem wrap1 {k : Nat} (h : k ≤ 6) : wrap64 (1 + (k : Int)) = 1 + (k : Int) := by unfold wrap64; omega

section
variable {W0 w : World} {M : Nat} {s : St}
theorem c_runlock (hl : s.len ≤ 1000) (hnd : Nds s) (t E : Int) (q : List Int) (n : Nat) (s2 : St) (hE : runE s t = E) (hq : runO s t = q) (hn : q.length = n) (hs : runS s t = s2) (h : Xs W0 M noF s w) : Calls Try.prog 18 #[.pointer (some ⟨M, 0, none⟩), .int .i64 t] w fun e w' => ∃ a c, e = .returned (.tuple #[.slice a n c, .int .i64 E]) ∧ RowZ w' a q ∧ Xs W0 M noF s2 w' := by
  refine (x_runlock hl hnd t h).mono fun e w' k => ?_
  rw [hE, hq, hs, hn] at k
  obtain ⟨a, c, k1, k2, k3, _⟩ := k
  exact ⟨a, c, k1, k2.row, k3.mono fun i hi => hi.elim⟩
theorem c_unlock (hl : s.len ≤ 1000) (hnd : Nds s) (t E : Int) (q : List Int) (n : Nat) (s2 : St) (hE : unE s t = E) (hq : unO s t = q) (hn : q.length = n) (hs : unS s t = s2) (h : Xs W0 M noF s w) : Calls Try.prog 19 #[.pointer (some ⟨M, 0, none⟩), .int .i64 t] w fun e w' => ∃ a c, e = .returned (.tuple #[.slice a n c, .int .i64 E]) ∧ RowZ w' a q ∧ Xs W0 M noF s2 w' := by
  refine (x_unlock hl hnd t h).mono fun e w' k => ?_
  rw [hE, hq, hs, hn] at k
  obtain ⟨a, c, k1, k2, k3, _⟩ := k
  exact ⟨a, c, k1, k2.row, k3.mono fun i hi => hi.elim⟩
theorem c_rlock (hl : s.len ≤ 1000) (t E : Int) (s2 : St) (hE : readE 14 s t = E) (hs : rlockS s t = s2) (h : Xs W0 M noF s w) : Calls Try.prog 16 #[.pointer (some ⟨M, 0, none⟩), .int .i64 t] w fun e w' => e = .returned (.int .i64 E) ∧ Xs W0 M noF s2 w' := by
  refine (x_rlock hl t h).mono fun e w' k => ?_
  rw [hE, hs] at k
  exact ⟨k.1, k.2.1⟩
theorem c_tryR (hl : s.len ≤ 1000) (t E : Int) (s2 : St) (hE : readE 12 s t = E) (hs : tryRS s t = s2) (h : Xs W0 M noF s w) : Calls Try.prog 17 #[.pointer (some ⟨M, 0, none⟩), .int .i64 t] w fun e w' => e = .returned (.int .i64 E) ∧ Xs W0 M noF s2 w' := by
  refine (x_tryR hl t h).mono fun e w' k => ?_
  rw [hE, hs] at k
  exact ⟨k.1, k.2.1⟩
theorem c_lock (hl : s.len ≤ 1000) (t E : Int) (s2 : St) (hE : writeE 14 s t = E) (hs : lockS s t = s2) (h : Xs W0 M noF s w) : Calls Try.prog 15 #[.pointer (some ⟨M, 0, none⟩), .int .i64 t] w fun e w' => e = .returned (.int .i64 E) ∧ Xs W0 M noF s2 w' := by
  refine (x_lock hl t h).mono fun e w' k => ?_
  rw [hE, hs] at k
  exact ⟨k.1, k.2.1⟩
theorem c_readers (hl : s.len ≤ 1000) (n : Nat) (hn : s.rs.length = n) (h : Xs W0 M noF s w) : Calls Try.prog 13 #[.pointer (some ⟨M, 0, none⟩)] w fun e w' => ∃ a c, e = .returned (.slice a n c) ∧ Xs W0 M noF s w' := by
  refine (x_readers hl h).mono fun e w' k => ?_
  rw [hn] at k
  obtain ⟨a, c, k1, _, k3, _⟩ := k
  exact ⟨a, c, k1, k3⟩
end

set_option maxRecDepth 20000 in
set_option maxHeartbeats 8000000 in
theorem first_w (x y : Int) (hx : 0 ≤ x ∧ x ≤ 255) (hy : 0 ≤ y ∧ y ≤ 255) (w : World) : Calls Try.prog 5 #[.int .u8 x, .int .u8 y, .bool true] w fun e w' => e = .returned (.bool true) ∧ Below w.heap.size w w' := by
  obtain ⟨m, hm, hm6, hm3, hm64⟩ := u8_mod hx 6 (by omega) (by omega)
  obtain ⟨q, hq, hq6, hq3, hq64⟩ := u8_mod hy 6 (by omega) (by omega)
  have HQ : Hid (y.tmod 6 = (q : Int) ∧ wrap64 (q : Int) = (q : Int)) := ⟨hq, hq64⟩
  have hm' : x.tmod 6 = (m : Int) := hm
  have hw1 : wrap64 (1 + (m : Int)) = 1 + (m : Int) := wrap1 (by clear hm3 hm64 hq3 hq64 hq hm hm'; omega)
  have N0 := hide (x_new (w := w))
  have HU := hide (fun M W (h : Xs w M noF (sG q) W) => c_unlock (sG_len (by clear hm3 hm64 hq3 hq64 hq hm hm' hw1; omega)) (sG_nds q) 50 0 (upZ 60 q) q (sH q) (sG_un q).1 (sG_un q).2.1 (up_len 60 q) (sG_un q).2.2 h)
  have HD := hide (fun M W (h : Xs w M noF (sH q) W) => c_readers (sH_len (by clear hm3 hm64 hq3 hq64 hq hm hm' hw1; omega)) q (up_len 60 q) h)
  clear hq hq3 hq64 hm hm3
  go_enter Try.func5, Try.ntmps5
  go_wp2_with fail
  refine N0.out.mono ?_
  rintro e w1 ⟨rfl, hA⟩
  have HA := hide hA
  clear hA N0
  obtain ⟨M, hMe⟩ : ∃ M, M = w.heap.size := ⟨_, rfl⟩
  rw [← hMe] at HA ⊢
  clear hMe
  have HU := hide (HU.out M)
  have HD := hide (HD.out M)
  go_wp2_with fail
  clear hm' hw1 hm64
  generalize hkk : 1 + (m : Int) = kk
  obtain ⟨n, rfl⟩ : ∃ n : Nat, kk = (n : Int) := ⟨m + 1, by omega⟩
  have hn : 1 ≤ n ∧ n ≤ 6 := by omega
  clear hkk hm6
  go_loopw [8, 9] (fun v i wr => (v = .int .i64 (n : Int) ∧ i = .int .i64 1 ∧ Hid (Xs w M noF St.nil wr)) ∨ (v = .int .i64 1 ∧ i = .int .i64 2 ∧ Hid (Xs w M noF sW1 wr))) (fun _ i _ => 2 - (intOf i).toNat)
  case atStart => exact Or.inl ⟨rfl, rfl, HA⟩
  case round =>
    clear HA
    rcases hrel with ⟨rfl, rfl, HX⟩ | ⟨rfl, rfl, HX⟩
    · have i1 : (1 : Int) ≤ (n : Int) := by omega
      have HL := hide (c_lock (by decide) 1 0 sW1 rfl rfl HX.out)
      clear HX
      go_wp2_with fail
      refine HL.out.mono ?_
      rintro e wa ⟨rfl, hx⟩
      have HXa := hide hx
      clear hx HL
      go_wp2_with fail
      go_roundw
      case rel => exact Or.inr ⟨rfl, rfl, HXa⟩
      case measure => simp [intOf]
    · have HL := hide (c_lock (s := sW1) (by decide) 50 14 (sF 1 [] 0) rfl rfl HX.out)
      clear HX hn
      go_wp2_with fail
      refine HL.out.mono ?_
      rintro e wa ⟨rfl, hx⟩
      have HX0 := hide hx
      clear hx HL
      go_wp2_with fail

      go_loopw [10] (fun i wr => ∃ k : Nat, i = .int .i64 k ∧ k ≤ q ∧ Hid (Xs w M noF (sF 1 [] k) wr)) (fun i _ => q - (intOf i).toNat)
      case atStart => exact ⟨0, rfl, by omega, HX0⟩
      case round =>
        clear HX0
        obtain ⟨k, rfl, hk, HX⟩ := hrel
        by_cases hlt : k < q
        · have i1 : (k : Int) < (q : Int) := by omega
          have hk6 : k ≤ 6 := by omega
          have hr' : ∀ x ∈ ([] : List Int), x < 60 := fun x h => by cases h
          have HL := hide (c_rlock (sF_len (by simp) (by omega)) (60 + (k : Int)) 14 (sF 1 [] (k + 1)) (sF_rlock (k := k) (by omega) hr').1 (sF_rlock (k := k) (by omega) hr').2 HX.out)
          have HT := hide (fun W (h : Xs w M noF (sF 1 [] (k + 1)) W) => c_tryR (sF_len (by simp) (by omega)) 90 12 (sF 1 [] (k + 1)) (sF_tryR (k := k + 1) (by omega) hr' (by omega)).1 (sF_tryR (k := k + 1) (by omega) hr' (by omega)).2 h)
          have hw1 : IntKind.i64.wrap (60 + (k : Int)) = 60 + (k : Int) := wrapB (by omega)
          have hw2 : wrap64 (60 + (k : Int)) = 60 + (k : Int) := wrap60 hk6
          obtain ⟨hm1, hm2⟩ := HQ.out
          clear HX hr' hk6
          go_wp2_with fail
          refine HL.out.mono ?_
          rintro e wa ⟨rfl, hx⟩
          have HXa := hide hx
          clear hx HL
          go_wp2_with fail
          refine (HT.out _ HXa.out).mono ?_
          rintro e wb ⟨rfl, hx⟩
          have HXb := hide hx
          clear hx HT HXa hw1 hw2 hm1 hm2
          go_wp2_with fail
          go_roundw
          case rel => exact ⟨k + 1, by go_num, by omega, HXb⟩
          case measure => simp [intOf]; omega
        · have ek : k = q := by omega
          have i1 : ¬ (k : Int) < (q : Int) := by omega
          have HX5 : Hid (Xs w M noF (sF 1 [] q) wr) := ek ▸ HX
          obtain ⟨hm1, hm2⟩ := HQ.out
          clear HX hk hlt ek
          go_wp2_with fail
          clear hm1 hm2 i1

          go_loopw [11] (fun i wr => (i = .int .i64 1 ∧ Hid (Xs w M noF (sF 1 [] q) wr)) ∨ (i = .int .i64 2 ∧ Hid (Xs w M noF (sG q) wr))) (fun i _ => 2 - (intOf i).toNat)
          case atStart => exact Or.inl ⟨rfl, HX5⟩
          case round =>
            clear HX5
            rcases hrel with ⟨rfl, HX⟩ | ⟨rfl, HX9⟩
            · have HL := hide (c_runlock (sF_len (rs := []) (by simp) (by omega)) (sF_nds q List.nodup_nil) 1 11 [] 0 (sF 1 [] q) (sF_run_w q).1 (sF_run_w q).2.1 rfl (sF_run_w q).2.2 HX.out)
              have HT := hide (fun W (h : Xs w M noF (sF 1 [] q) W) => c_unlock (sF_len (rs := []) (by simp) (by omega)) (sF_nds q List.nodup_nil) 1 0 [50] 1 (sG q) (sF_un_w q).1 (sF_un_w q).2.1 rfl (sF_un_w q).2.2 h)
              clear HX
              go_wp2_with fail
              refine HL.out.mono ?_
              rintro e wa ⟨a5, c5, rfl, _, hx⟩
              have HXa := hide hx
              clear hx HL
              go_wp2_with fail
              refine (HT.out _ HXa.out).mono ?_
              rintro e wb ⟨a6, c6, rfl, hz, hx⟩
              have HXb := hide hx
              have HI := hide (same_one a6 c6 50 wb hz)
              clear hx hz HT HXa
              go_wp2_with fail
              refine HI.out.mono ?_
              rintro e wc ⟨rfl, hbc⟩
              have HXc := hide (HXb.out.below hbc)
              clear hbc HXb HI
              go_wp2_with fail
              go_roundw
              case rel => exact Or.inr ⟨rfl, HXc⟩
              case measure => simp [intOf]
            · go_wp2_with fail
              have HXe := HX9
              refine (HU.out _ HXe.out).mono ?_
              rintro e wc ⟨a7, c7, rfl, _, hx⟩
              have HXc := hide hx
              clear hx HU HXe HX9
              go_wp2_with fail
              refine (awake_any _).mono ?_
              rintro e wd ⟨rfl, hbd⟩
              have HXd := hide (HXc.out.below hbd)
              obtain ⟨hm1, hm2⟩ := HQ.out
              clear hbd HXc
              go_wp2_with fail
              refine (HD.out _ HXd.out).mono ?_
              rintro e wf ⟨a8, c8, rfl, hx⟩
              have HXf := hide hx
              clear hx HD HXd
              go_wp2
              go_ret
              exact ⟨rfl, HXf.out.2.2⟩

set_option maxRecDepth 20000 in
set_option maxHeartbeats 8000000 in
theorem first_r (x y : Int) (hx : 0 ≤ x ∧ x ≤ 255) (hy : 0 ≤ y ∧ y ≤ 255) (w : World) : Calls Try.prog 5 #[.int .u8 x, .int .u8 y, .bool false] w fun e w' => e = .returned (.bool true) ∧ Below w.heap.size w w' := by
  obtain ⟨m, hm, hm6, hm3, hm64⟩ := u8_mod hx 6 (by omega) (by omega)
  obtain ⟨q, hq, hq6, hq3, hq64⟩ := u8_mod hy 6 (by omega) (by omega)
  have HQ : Hid (y.tmod 6 = (q : Int) ∧ wrap64 (q : Int) = (q : Int)) := ⟨hq, hq64⟩
  have hm' : x.tmod 6 = (m : Int) := hm
  have hw1 : wrap64 (1 + (m : Int)) = 1 + (m : Int) := wrap1 (by clear hm3 hm64 hq3 hq64 hq hm hm'; omega)
  have N0 := hide (x_new (w := w))
  have HU := hide (fun M W (h : Xs w M noF (sG q) W) => c_unlock (sG_len (by clear hm3 hm64 hq3 hq64 hq hm hm' hw1; omega)) (sG_nds q) 50 0 (upZ 60 q) q (sH q) (sG_un q).1 (sG_un q).2.1 (up_len 60 q) (sG_un q).2.2 h)
  have HD := hide (fun M W (h : Xs w M noF (sH q) W) => c_readers (sH_len (by clear hm3 hm64 hq3 hq64 hq hm hm' hw1; omega)) q (up_len 60 q) h)
  clear hq hq3 hq64 hm hm3
  go_enter Try.func5, Try.ntmps5
  go_wp2_with fail
  refine N0.out.mono ?_
  rintro e w1 ⟨rfl, hA⟩
  have HA := hide hA
  clear hA N0
  obtain ⟨M, hMe⟩ : ∃ M, M = w.heap.size := ⟨_, rfl⟩
  rw [← hMe] at HA ⊢
  clear hMe
  have HU := hide (HU.out M)
  have HD := hide (HD.out M)
  go_wp2_with fail
  clear hm' hw1 hm64
  generalize hkk : 1 + (m : Int) = kk
  obtain ⟨n, rfl⟩ : ∃ n : Nat, kk = (n : Int) := ⟨m + 1, by omega⟩
  have hn : 1 ≤ n ∧ n ≤ 6 := by omega
  clear hkk hm6
  go_loopw [8, 9] (fun v i wr => ∃ k : Nat, v = .int .i64 (n : Int) ∧ i = .int .i64 k ∧ 1 ≤ k ∧ k ≤ n + 1 ∧ Hid (Xs w M noF (sR (k - 1)) wr)) (fun _ i _ => n + 1 - (intOf i).toNat)
  case atStart => exact ⟨1, rfl, rfl, by omega, by omega, HA⟩
  case round =>
    clear HA
    obtain ⟨k, rfl, rfl, hk1, hk, HX⟩ := hrel
    by_cases hlt : k ≤ n
    · have i1 : (k : Int) ≤ (n : Int) := by omega
      have HL := hide (c_rlock (sR_len (k := k - 1) (by omega)) (k : Int) 0 (sR (k + 1 - 1)) (sR_rlock hk1).1 (sR_rlock hk1).2 HX.out)
      clear HX
      go_wp2_with fail
      refine HL.out.mono ?_
      rintro e wa ⟨rfl, hx⟩
      have HXa := hide hx
      clear hx HL
      go_wp2_with fail
      go_roundw
      case rel => exact ⟨k + 1, rfl, by go_num, by omega, by omega, HXa⟩
      case measure => simp [intOf]; omega
    · have ek : k - 1 = n := by omega
      have i1 : ¬ (k : Int) ≤ (n : Int) := by omega
      rw [ek] at HX
      have HL := hide (c_lock (sR_len (by omega)) 50 14 (sF 0 (upZ 1 n) 0) (sR_lock hn.1 (by omega)).1 (sR_lock hn.1 (by omega)).2 HX.out)
      clear HX ek
      go_wp2_with fail
      refine HL.out.mono ?_
      rintro e wa ⟨rfl, hx⟩
      have HX0 := hide hx
      clear hx HL i1 hlt hk hk1
      go_wp2_with fail

      go_loopw [10] (fun i wr => ∃ k : Nat, i = .int .i64 k ∧ k ≤ q ∧ Hid (Xs w M noF (sF 0 (upZ 1 n) k) wr)) (fun i _ => q - (intOf i).toNat)
      case atStart => exact ⟨0, rfl, by omega, HX0⟩
      case round =>
        clear HX0
        obtain ⟨k, rfl, hk, HX⟩ := hrel
        by_cases hlt : k < q
        · have i1 : (k : Int) < (q : Int) := by omega
          have hk6 : k ≤ 6 := by omega
          have hr' : ∀ x ∈ upZ 1 n, x < 60 := up_small (by omega)
          have HL := hide (c_rlock (sF_len (by rw [up_len]; omega) (by omega)) (60 + (k : Int)) 14 (sF 0 (upZ 1 n) (k + 1)) (sF_rlock (k := k) (by omega) hr').1 (sF_rlock (k := k) (by omega) hr').2 HX.out)
          have HT := hide (fun W (h : Xs w M noF (sF 0 (upZ 1 n) (k + 1)) W) => c_tryR (sF_len (by rw [up_len]; omega) (by omega)) 90 12 (sF 0 (upZ 1 n) (k + 1)) (sF_tryR (k := k + 1) (by omega) hr' (by omega)).1 (sF_tryR (k := k + 1) (by omega) hr' (by omega)).2 h)
          have hw1 : IntKind.i64.wrap (60 + (k : Int)) = 60 + (k : Int) := wrapB (by omega)
          have hw2 : wrap64 (60 + (k : Int)) = 60 + (k : Int) := wrap60 hk6
          obtain ⟨hm1, hm2⟩ := HQ.out
          clear HX hr' hk6
          go_wp2_with fail
          refine HL.out.mono ?_
          rintro e wa ⟨rfl, hx⟩
          have HXa := hide hx
          clear hx HL
          go_wp2_with fail
          refine (HT.out _ HXa.out).mono ?_
          rintro e wb ⟨rfl, hx⟩
          have HXb := hide hx
          clear hx HT HXa hw1 hw2 hm1 hm2
          go_wp2_with fail
          go_roundw
          case rel => exact ⟨k + 1, by go_num, by omega, HXb⟩
          case measure => simp [intOf]; omega
        · have ek : k = q := by omega
          have i1 : ¬ (k : Int) < (q : Int) := by omega
          have HX5 : Hid (Xs w M noF (sF 0 (upZ 1 n) q) wr) := ek ▸ HX
          obtain ⟨hm1, hm2⟩ := HQ.out
          clear HX hk hlt ek
          go_wp2_with fail
          clear hm1 hm2 i1

          have HX6 : Hid (Xs w M noF (sJ n 1 q) wr) := hide (by
            have e : sJ n 1 q = sF 0 (upZ 1 n) q := by unfold sJ; rw [if_pos hn.1]; rfl
            rw [e]
            exact HX5.out)
          clear HX5
          go_loopw [11] (fun i wr => ∃ k : Nat, i = .int .i64 k ∧ 1 ≤ k ∧ k ≤ n + 1 ∧ Hid (Xs w M noF (sJ n k q) wr)) (fun i _ => n + 1 - (intOf i).toNat)
          case atStart => exact ⟨1, rfl, by omega, by omega, HX6⟩
          case round =>
            clear HX6
            obtain ⟨k, rfl, hk1, hk, HX⟩ := hrel
            by_cases hlt : k ≤ n
            · have i1 : (k : Int) ≤ (n : Int) := by omega
              obtain ⟨f1, f2, f3⟩ := sJ_run (k := q) hk1 hlt
              by_cases hl2 : k < n
              · rw [if_pos hl2] at f2
                have i2 : (k : Int) < (n : Int) := by omega
                have i3 : ((k : Int) == (n : Int)) = false := by simp; omega
                have HL := hide (c_runlock (sJ_len hn.2 hk1 (by omega)) (sJ_nds n k q) (k : Int) 0 [] 0 (sJ n (k + 1) q) f1 f2 rfl f3 HX.out)
                clear HX f1 f2 f3
                go_wp2_with fail
                refine HL.out.mono ?_
                rintro e wa ⟨a5, c5, rfl, _, hx⟩
                have HXa := hide hx
                clear hx HL
                go_wp2_with fail
                go_roundw
                case rel => exact ⟨k + 1, by go_num, by omega, by omega, HXa⟩
                case measure => simp [intOf]; omega
              · rw [if_neg hl2] at f2
                have i2 : ¬ (k : Int) < (n : Int) := by omega
                have i3 : ((k : Int) == (n : Int)) = true := by simp; omega
                have HL := hide (c_runlock (sJ_len hn.2 hk1 (by omega)) (sJ_nds n k q) (k : Int) 0 [50] 1 (sJ n (k + 1) q) f1 f2 rfl f3 HX.out)
                clear HX f1 f2 f3
                go_wp2_with fail
                refine HL.out.mono ?_
                rintro e wa ⟨a5, c5, rfl, hz, hx⟩
                have HXa := hide hx
                have HI := hide (same_one a5 c5 50 wa hz)
                clear hx hz HL
                go_wp2_with fail
                refine HI.out.mono ?_
                rintro e wc ⟨rfl, hbc⟩
                have HXc := hide (HXa.out.below hbc)
                clear hbc HXa HI
                go_wp2_with fail
                go_roundw
                case rel => exact ⟨k + 1, by go_num, by omega, by omega, HXc⟩
                case measure => simp [intOf]; omega
            · have i1 : ¬ (k : Int) ≤ (n : Int) := by omega
              have HX9 : Hid (Xs w M noF (sG q) wr) := hide (by
                have e : sJ n k q = sG q := by unfold sJ; rw [if_neg hlt]
                rw [← e]
                exact HX.out)
              clear HX
              go_wp2_with fail
              have HXe := HX9
              refine (HU.out _ HXe.out).mono ?_
              rintro e wc ⟨a7, c7, rfl, _, hx⟩
              have HXc := hide hx
              clear hx HU HXe HX9
              go_wp2_with fail
              refine (awake_any _).mono ?_
              rintro e wd ⟨rfl, hbd⟩
              have HXd := hide (HXc.out.below hbd)
              obtain ⟨hm1, hm2⟩ := HQ.out
              clear hbd HXc
              go_wp2_with fail
              refine (HD.out _ HXd.out).mono ?_
              rintro e wf ⟨a8, c8, rfl, hx⟩
              have HXf := hide hx
              clear hx HD HXd
              go_wp2
              go_ret
              exact ⟨rfl, HXf.out.2.2⟩

theorem first_walk (x y : Int) (b : Bool) (hx : 0 ≤ x ∧ x ≤ 255) (hy : 0 ≤ y ∧ y ≤ 255) (w : World) : Calls Try.prog 5 #[.int .u8 x, .int .u8 y, .bool b] w fun e w' => e = .returned (.bool true) ∧ Below w.heap.size w w' := by
  cases b
  · exact first_r x y hx hy w
  · exact first_w x y hx hy w

end Go.Proofs.Ytggfndokmdpaeaa
