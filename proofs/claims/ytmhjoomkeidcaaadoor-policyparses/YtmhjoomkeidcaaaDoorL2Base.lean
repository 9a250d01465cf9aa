/-
  What the small functions come to, called with anything: which labels may be, by the program and by the document's own answer, which sign is whose, which runes are letters, which two bytes are a Greek sign.
-/
import Derived.Test.YtmhjoomkeidcaaaDoorL2Shelf
import Derived.Test.YtmhjoomkeidcaaaDoorL2Back
import Derived.Test.YtmhjoomkeidcaaaDoorL2Math
import Derived.WalkKit
import Derived.WalkSpells
import Derived.WalkLawsBesides
import Derived.BigCall
namespace Go.Proofs.YtmhjoomkeidcaaaDoor.L2
open Go.RowKit

theorem bcell {W w1 : World} (hb : Below W.heap.size W w1) : (∀ b o, b < W.heap.size → w1.cell? ⟨b, o, none⟩ = W.cell? ⟨b, o, none⟩) ∧ (∀ b o, b < W.heap.size → w1.frozen? ⟨b, o, none⟩ = W.frozen? ⟨b, o, none⟩) :=
  ⟨fun b o h => hb.cell (p := ⟨b, o, none⟩) h, fun b o h => hb.frozen (p := ⟨b, o, none⟩) h⟩
theorem below_next {W a b : World} (h : Below W.heap.size W a) (k : Below a.heap.size a b) : Below W.heap.size W b := h.trans (k.mono h.size)
theorem below1 (w : World) (o1 : Obj) : Below w.heap.size w (w.alloc o1) := (Below.refl _ _).alloc (Nat.le_refl _) _
theorem below2 (w : World) (o1 o2 : Obj) : Below w.heap.size w ((w.alloc o1).alloc o2) :=
  ((Below.refl _ _).alloc (Nat.le_refl _) _).alloc (by simp) _
theorem below3 (w : World) (o1 o2 o3 : Obj) : Below w.heap.size w (((w.alloc o1).alloc o2).alloc o3) :=
  (((Below.refl _ _).alloc (Nat.le_refl _) _).alloc (by simp) _).alloc (by simp; omega) _

/-- May a label be? -/
def goodB (l c : Int) : Bool := decide (0 ≤ l ∧ l ≤ 7 ∧ 0 ≤ c ∧ c < 65536)

set_option maxHeartbeats 400000 in
theorem good_yes (l c : Int) (w : World) (h : 0 ≤ l) (h' : l ≤ 7) (h2 : 0 ≤ c) :
    Calls Tryd.prog 13 #[.agg #[.int .i64 l, .int .i64 c]] w fun e w' => e = .returned (.bool (decide (c < 65536))) ∧ Below w.heap.size w w' := by
  go_enter Tryd.func13, Tryd.ntmps13
  go_wp2
  go_ret
  exact ⟨rfl, (Below.refl _ _).alloc (Nat.le_refl _) _⟩

set_option maxHeartbeats 400000 in
theorem good_no2 (l c : Int) (w : World) (h : 0 ≤ l) (h' : l ≤ 7) (h2 : c < 0) :
    Calls Tryd.prog 13 #[.agg #[.int .i64 l, .int .i64 c]] w fun e w' => e = .returned (.bool false) ∧ Below w.heap.size w w' := by
  have h2' : ¬ 0 ≤ c := by omega
  go_enter Tryd.func13, Tryd.ntmps13
  go_wp2
  go_ret
  exact ⟨rfl, (Below.refl _ _).alloc (Nat.le_refl _) _⟩

set_option maxHeartbeats 400000 in
theorem good_no1 (l c : Int) (w : World) (h : 0 ≤ l) (h' : ¬ l ≤ 7) :
    Calls Tryd.prog 13 #[.agg #[.int .i64 l, .int .i64 c]] w fun e w' => e = .returned (.bool false) ∧ Below w.heap.size w w' := by
  go_enter Tryd.func13, Tryd.ntmps13
  go_wp2
  go_ret
  exact ⟨rfl, (Below.refl _ _).alloc (Nat.le_refl _) _⟩

set_option maxHeartbeats 400000 in
theorem good_no0 (l c : Int) (w : World) (h : ¬ 0 ≤ l) :
    Calls Tryd.prog 13 #[.agg #[.int .i64 l, .int .i64 c]] w fun e w' => e = .returned (.bool false) ∧ Below w.heap.size w w' := by
  go_enter Tryd.func13, Tryd.ntmps13
  go_wp2
  go_ret
  exact ⟨rfl, (Below.refl _ _).alloc (Nat.le_refl _) _⟩

theorem good_any (l c : Int) (w : World) :
    Calls Tryd.prog 13 #[.agg #[.int .i64 l, .int .i64 c]] w fun e w' => e = .returned (.bool (goodB l c)) ∧ Below w.heap.size w w' := by
  by_cases h : 0 ≤ l
  · by_cases h' : l ≤ 7
    · by_cases h2 : 0 ≤ c
      · rw [show goodB l c = decide (c < 65536) by simp [goodB, h, h', h2]]; exact good_yes l c w h h' h2
      · rw [show goodB l c = false by simp [goodB, h, h', h2]]; exact good_no2 l c w h h' (by omega)
    · rw [show goodB l c = false by simp [goodB, h']]; exact good_no1 l c w h h'
  · rw [show goodB l c = false by simp [goodB, h]]; exact good_no0 l c w h

theorem ret_bool {a b : Bool} (h : a = b) : Ending.returned (.bool a) = .returned (.bool b) := by rw [h]
theorem ret_int {k : IntKind} {a b : Int} (h : a = b) : Ending.returned (.int k a) = .returned (.int k b) := by rw [h]

set_option maxHeartbeats 400000 in
theorem bit_any (x : Int) (n : Nat) (h : n < 64) (w : World) :
    Calls Tryd.prog 53 #[.int .i64 x, .int .i64 n] w fun e w' => e = .returned (.bool (bt x n)) ∧ w' = w := by
  go_enter Tryd.func53, Tryd.ntmps53
  go_wp2
  go_ret
  exact ⟨ret_bool (bit_walk x n), rfl⟩

set_option maxHeartbeats 400000 in
theorem refGood_no (l c : Int) (w : World) (n : Nat) (h1 : 16 ≤ n) (h2 : n < 64) (hn : bt c n = true) :
    Calls Tryd.prog 29 #[.agg #[.int .i64 l, .int .i64 c]] w fun e w' => e = .returned (.bool false) ∧ Below w.heap.size w w' := by
  have HN : Hid (bt c n = true) := hn
  clear hn
  go_enter Tryd.func29, Tryd.ntmps29
  go_wp2
  go_loop [3] (fun i => ∃ k : Nat, k ≤ n ∧ i = .int .i64 k) (fun i => 64 - (intOf i).toNat)
  case atStart => exact ⟨16, h1, rfl⟩
  case round =>
    obtain ⟨k, hk, rfl⟩ := hrel
    have hlt : k < 64 := by omega
    by_cases hb : bt c k = true
    · go_wp2_with (go_at_call 53; refine (bit_any _ _ (by omega) _).mono ?_; rintro e w' ⟨rfl, rfl⟩)
      go_ret
      exact ⟨rfl, (Below.refl _ _).alloc (Nat.le_refl _) _⟩
    · have hb' : bt c k = false := by simpa using hb
      clear hb
      have hne : k < n := by
        rcases Nat.lt_or_ge k n with h | h
        · exact h
        · have e : k = n := by omega
          subst e; rw [HN.out] at hb'; cases hb'
      go_wp2_with (go_at_call 53; refine (bit_any _ _ (by omega) _).mono ?_; rintro e w' ⟨rfl, rfl⟩)
      go_round
      case rel => exact ⟨k + 1, by omega, by go_num⟩
      case measure => simp [intOf]; omega

def levB (l : Int) : Bool := decide (0 ≤ l ∧ l < 8)
theorem lev_yes {l : Int} (h : 0 ≤ l) : decide (l < 8) = levB l := by simp [levB, h]
theorem lev_no {l : Int} (h : l < 0) : false = levB l := by simp [levB]; omega

set_option maxHeartbeats 400000 in
theorem refGood_yes (l c : Int) (w : World) (hn : ∀ n, 16 ≤ n → n < 64 → bt c n = false) :
    Calls Tryd.prog 29 #[.agg #[.int .i64 l, .int .i64 c]] w fun e w' => e = .returned (.bool (levB l)) ∧ Below w.heap.size w w' := by
  have HN : Hid (∀ n, 16 ≤ n → n < 64 → bt c n = false) := hn
  clear hn
  by_cases hl : 0 ≤ l
  all_goals
    go_enter Tryd.func29, Tryd.ntmps29
    go_wp2
    go_loop [3] (fun i => ∃ k : Nat, 16 ≤ k ∧ k ≤ 64 ∧ i = .int .i64 k) (fun i => 64 - (intOf i).toNat)
    case atStart => exact ⟨16, by omega, by omega, rfl⟩
    case round =>
      obtain ⟨k, hk1, hk, rfl⟩ := hrel
      by_cases hlt : k < 64
      · have hb' : bt c k = false := HN.out k hk1 hlt
        go_wp2_with (go_at_call 53; refine (bit_any _ _ (by omega) _).mono ?_; rintro e w' ⟨rfl, rfl⟩)
        go_round
        case rel => exact ⟨k + 1, by omega, by omega, by go_num⟩
        case measure => simp [intOf]; omega
      · go_wp2
        go_ret
        first
          | exact ⟨ret_bool (lev_yes hl), (Below.refl _ _).alloc (Nat.le_refl _) _⟩
          | exact ⟨ret_bool (lev_no (by assumption)), (Below.refl _ _).alloc (Nat.le_refl _) _⟩

theorem refGood_any (l c : Int) (w : World) (hc : In64 c) :
    Calls Tryd.prog 29 #[.agg #[.int .i64 l, .int .i64 c]] w fun e w' => e = .returned (.bool (goodB l c)) ∧ Below w.heap.size w w' := by
  have hlow := low_iff c hc
  by_cases h : ∀ n, 16 ≤ n → n < 64 → bt c n = false
  · have e : goodB l c = levB l := by
      have := hlow.1 h
      unfold goodB levB; rw [decide_eq_decide]; omega
    rw [e]; exact refGood_yes l c w h
  · have e : goodB l c = false := by
      unfold goodB; rw [decide_eq_false_iff_not]; intro hh; exact h (hlow.2 ⟨hh.2.2.1, hh.2.2.2⟩)
    rw [e]
    have hex : ∃ n, 16 ≤ n ∧ n < 64 ∧ bt c n = true := by
      refine Classical.byContradiction fun hne => h fun n h1 h2 => ?_
      cases hb : bt c n
      · rfl
      · exact (hne ⟨n, h1, h2, hb⟩).elim
    obtain ⟨n, h1, h2, hn⟩ := hex
    exact refGood_no l c w n h1 h2 hn


/-- The category of a sign; below 0: it is none's. -/
def catOf (r : Int) : Int := if 945 ≤ r ∧ r ≤ 960 then r - 945 else -1

set_option maxHeartbeats 400000 in
theorem cat_any (r : Int) (h0 : -2147483648 ≤ r) (h1 : r ≤ 2147483647) (w : World) :
    Calls Tryd.prog 92 #[.int .i32 r] w fun e w' => e = .returned (.int .i64 (catOf r)) ∧ w' = w := by
  by_cases ha : r < 945
  · go_enter Tryd.func92, Tryd.ntmps92
    go_wp2
    go_ret
    exact ⟨ret_int (by unfold catOf; rw [if_neg (by omega)]), rfl⟩
  · by_cases hb : 960 < r
    · go_enter Tryd.func92, Tryd.ntmps92
      go_wp2
      go_ret
      exact ⟨ret_int (by unfold catOf; rw [if_neg (by omega)]), rfl⟩
    · go_enter Tryd.func92, Tryd.ntmps92
      go_wp2
      go_ret
      exact ⟨ret_int (by unfold catOf; rw [if_pos (by omega)]), rfl⟩

/-- Is a rune a letter of a name? -/
def letB (r : Int) : Bool := decide ((97 ≤ r ∧ r ≤ 122) ∨ (945 ≤ r ∧ r ≤ 969))

set_option maxHeartbeats 400000 in
theorem letter_any (r : Int) (w : World) :
    Calls Tryd.prog 70 #[.int .i32 r] w fun e w' => e = .returned (.bool (letB r)) ∧ w' = w := by
  by_cases ha : 97 ≤ r
  · by_cases hb : r ≤ 122
    · rw [show letB r = true from decide_eq_true (by omega)]
      go_enter Tryd.func70, Tryd.ntmps70
      go_wp2
      go_ret
      exact ⟨rfl, rfl⟩
    · by_cases hc : 945 ≤ r
      · by_cases hd : r ≤ 969
        · rw [show letB r = true from decide_eq_true (by omega)]
          go_enter Tryd.func70, Tryd.ntmps70
          go_wp2
          go_ret
          exact ⟨rfl, rfl⟩
        · rw [show letB r = false from decide_eq_false (by omega)]
          go_enter Tryd.func70, Tryd.ntmps70
          go_wp2
          go_ret
          exact ⟨rfl, rfl⟩
      · rw [show letB r = false from decide_eq_false (by omega)]
        go_enter Tryd.func70, Tryd.ntmps70
        go_wp2
        go_ret
        exact ⟨rfl, rfl⟩
  · have hc : ¬ 945 ≤ r := by omega
    rw [show letB r = false from decide_eq_false (by omega)]
    go_enter Tryd.func70, Tryd.ntmps70
    go_wp2
    go_ret
    exact ⟨rfl, rfl⟩

theorem greek_one (a b : Nat) (h1 : (a : Int) = 206) (h2 : 177 ≤ (b : Int)) (h3 : (b : Int) ≤ 191) : greekB a b = b - 177 := by
  unfold greekB; rw [if_pos (by omega)]
theorem greek_two (a b : Nat) (h1 : (a : Int) = 207) (h2 : 128 ≤ (b : Int)) (h3 : (b : Int) ≤ 191) : greekB a b = b - 128 + 15 := by
  unfold greekB; rw [if_neg (by omega), if_pos (by omega)]
theorem greek_none (a b : Nat) (h1 : ¬ ((a : Int) = 206 ∧ 177 ≤ (b : Int) ∧ (b : Int) ≤ 191)) (h2 : ¬ ((a : Int) = 207 ∧ 128 ≤ (b : Int) ∧ (b : Int) ≤ 191)) : greekB a b = -1 := by
  unfold greekB; rw [if_neg (by omega), if_neg (by omega)]

set_option maxHeartbeats 400000 in
theorem greek_any (a b : Nat) (hb : b < 256) (w : World) :
    Calls Tryd.prog 52 #[.int .u8 a, .int .u8 b] w fun e w' => e = .returned (.int .i64 (greekB a b)) ∧ w' = w := by
  by_cases h1 : (a : Int) = 206
  · have h1b : ((a : Int) == 206) = true := by simpa using h1
    have h2b : ((a : Int) == 207) = false := by simp; omega
    by_cases h2 : 177 ≤ (b : Int)
    · by_cases h3 : (b : Int) ≤ 191
      · rw [greek_one a b h1 h2 h3]
        clear h1
        go_enter Tryd.func52, Tryd.ntmps52
        go_wp2
        go_ret
        exact ⟨rfl, rfl⟩
      · rw [greek_none a b (by omega) (by omega)]
        clear h1
        go_enter Tryd.func52, Tryd.ntmps52
        go_wp2
        go_ret
        exact ⟨rfl, rfl⟩
    · rw [greek_none a b (by omega) (by omega)]
      clear h1
      go_enter Tryd.func52, Tryd.ntmps52
      go_wp2
      go_ret
      exact ⟨rfl, rfl⟩
  · have h1b : ((a : Int) == 206) = false := by simpa using h1
    by_cases h4 : (a : Int) = 207
    · have h2b : ((a : Int) == 207) = true := by simpa using h4
      by_cases h2 : 128 ≤ (b : Int)
      · by_cases h3 : (b : Int) ≤ 191
        · rw [greek_two a b h4 h2 h3]
          clear h1 h4
          go_enter Tryd.func52, Tryd.ntmps52
          go_wp2
          go_ret
          exact ⟨rfl, rfl⟩
        · rw [greek_none a b (by omega) (by omega)]
          clear h1 h4
          go_enter Tryd.func52, Tryd.ntmps52
          go_wp2
          go_ret
          exact ⟨rfl, rfl⟩
      · rw [greek_none a b (by omega) (by omega)]
        clear h1 h4
        go_enter Tryd.func52, Tryd.ntmps52
        go_wp2
        go_ret
        exact ⟨rfl, rfl⟩
    · have h2b : ((a : Int) == 207) = false := by simpa using h4
      rw [greek_none a b (by omega) (by omega)]
      clear h1 h4
      go_enter Tryd.func52, Tryd.ntmps52
      go_wp2
      go_ret
      exact ⟨rfl, rfl⟩

end Go.Proofs.YtmhjoomkeidcaaaDoor.L2
