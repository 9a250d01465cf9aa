/-
  The walk of the law WheelPlays.
-/
import Derived.Test.YtnciefdhgokffaaPlays
import Derived.Test.YtnciefdhgokffaaActs
import Derived.Deep.RegionHeld3
import Derived.Deep.DeepCutAuto
namespace Go.Proofs.Ytnciefdhgokffaa
open Go.RowKit

theorem ints_on {w : World} {B R : Nat} {M : Int} {X : Option (Nat × Array Value)} {σ : Ws} {l : List (Nat × Nat)} {L : List Nat} (hL : L.length ≤ 100) : ∀ W a1 c1 a2 c2 (b1 b2 : Nat), W.ownsRow b1 3 1 (.slice a1 L.length c1) L.length (cI L) → W.ownsRow b2 3 1 (.slice a2 L.length c2) L.length (cI L) → PW w B R M X σ l W →
    Calls Try.prog 10 #[.slice a1 L.length c1, .slice a2 L.length c2] W fun e w' => e = .returned (.bool true) ∧ PW w B R M X σ l w' := fun W a1 c1 a2 c2 b1 b2 h1 h2 hp => by
  refine (ints_same a1 a2 c1 c2 b1 b2 L W hL h1 h2).mono ?_
  rintro e w' ⟨he, hb⟩
  exact ⟨he, hp.below hb⟩

set_option maxHeartbeats 8000000 in
set_option maxRecDepth 100000 in
theorem wheelPlays_walk (timers : Int) (ad : Option Addr) (len cap : Nat) (hcap : len ≤ cap) (hmax : cap ≤ maxLen) (w : World) (hact : Acts w ad len) :
    Calls Try.prog 3 #[.int .i64 timers, .slice ad len cap] w fun e w' => e = .returned (.bool true) ∧ Below w.heap.size w w' := by
  have hlen63 : len ≤ 9223372036854775807 := by unfold maxLen at hmax; omega
  clear hmax
  have HAC := hide hact
  clear hact
  go_enter Try.func3, Try.ntmps3
  go_wp2_with fail
  refine (new_any timers _).mono ?_
  rintro e w1 ⟨rfl, hA, hb⟩
  obtain ⟨B, hB⟩ : ∃ B, B = w.heap.size := ⟨_, rfl⟩
  rw [← hB] at hA ⊢
  have HA := hide hA
  have hBl : w.heap.size ≤ B := by omega
  clear hA hB
  go_wp2_with fail
  refine (refNew_any timers _).mono ?_
  rintro e w2 ⟨rfl, hR, hb2⟩
  obtain ⟨R, hRe⟩ : ∃ R, R = w1.heap.size := ⟨_, rfl⟩
  rw [← hRe] at hR ⊢
  have hRl : w.heap.size ≤ R := by have := hb.size; omega
  have H0 : Hid (PlaysAt w B R timers 0 w2) := ⟨newOf (heldN timers), [], newOf_ok (heldN_le _), rfl, sim_new _, ⟨HA.out.below hb2, ⟨_, hR⟩, below_next hb hb2, fun _ _ e => by cases e⟩⟩
  clear HA hR hb hb2 hRe
  go_wp2
  go_loopw [7] (fun i wr => ∃ k : Nat, k ≤ len ∧ k ≤ 60 ∧ i = .int .i64 k ∧ PlaysAt w B R timers k wr) (fun i _ => len - (intOf i).toNat)
  case atStart => exact ⟨0, Nat.zero_le _, Nat.zero_le _, rfl, H0.out⟩
  case round =>
    clear H0
    obtain ⟨k, hk, hk60, rfl, σ, l, hok, hn, hsim, hpw⟩ := hrel
    have HOk := hide hok
    have HNn := hide hn
    have HSim := hide hsim
    have HP0 := hide hpw
    clear hok hn hsim hpw
    by_cases hlt : k < len ∧ k < 60
    · obtain ⟨hk1, hk2⟩ := hlt
      have hk1' : (k : Int) < (len : Int) := by omega
      have hk2' : (k : Int) < 60 := by omega
      obtain ⟨b, off, d, x, y, rfl, hbw, q0, q1, q2, hd255⟩ := HAC.out k hk1
      have c0 : wr.cell? ⟨b, off + k * 3, none⟩ = some (.int .u8 d) := (HP0.out.b.cell (p := ⟨b, _, none⟩) hbw).trans q0
      have c1 : wr.cell? ⟨b, off + k * 3 + 1, none⟩ = some (.int .i64 x) := (HP0.out.b.cell (p := ⟨b, _, none⟩) hbw).trans q1
      have c2 : wr.cell? ⟨b, off + k * 3 + 2, none⟩ = some (.int .i64 y) := (HP0.out.b.cell (p := ⟨b, _, none⟩) hbw).trans q2
      obtain ⟨r6, hr6⟩ : ∃ r6 : Int, d.tmod 6 = r6 := ⟨_, rfl⟩
      have HR6 := hide hr6
      clear hbw q0 q1 q2 hd255 hr6
      go_upto_region 6 with fail
      have hW1 : Below wr.heap.size wr (wr.alloc (.cells #[.int .u8 d, .int .i64 x, .int .i64 y] 28)) := (Below.refl _ _).alloc (Nat.le_refl _) _
      have HP1 := hide ((HP0.out.below hW1).boxed (heap_alloc_new wr (.cells #[.int .u8 d, .int .i64 x, .int .i64 y] 28)))
      obtain ⟨x0, x1, x2⟩ := HP1.out.box
      generalize wr.alloc (.cells #[.int .u8 d, .int .i64 x, .int .i64 y] 28) = W1 at *
      generalize wr.heap.size = bx at *
      clear HP0 hW1 c0 c1 c2
      go_cut [35] (fun v wx => v = .int .u8 r6 ∧ wx = W1)
      case first =>
        have hr6 := HR6.out
        go_wp2_with fail
        go_meet
        exact ⟨rfl, rfl⟩
      case rest =>
        obtain ⟨rfl, hwc⟩ := hcut
        have hwc' := hwc.symm
        clear hwc
        subst hwc'
        rename_i hBlk
        refine hBlk _ _ ?_
        go_cut [35] (fun v wx => v = .int .u8 r6 ∧ ∃ σ l, Ok (k + 1) σ ∧ σ.n = heldN timers ∧ Sim σ l ∧ PW w B R (mostOf timers) (some (bx, #[.int .u8 d, .int .i64 x, .int .i64 y])) σ l wx)
        case first =>
          by_cases g0 : r6 = 0
          · have e0 : (r6 == 0) = true := by simp [g0]
            clear g0
            have T1 := due_both (w := w) (B := B) (R := R) (M := mostOf timers) (X := some (bx, #[.int .u8 d, .int .i64 x, .int .i64 y])) (K := k) (by omega) HOk.out HSim.out hBl y
            have T2 := due_both2 (w := w) (B := B) (R := R) (M := mostOf timers) (X := some (bx, #[.int .u8 d, .int .i64 x, .int .i64 y])) (K := k) (σ' := dueOf σ y) HOk.out HSim.out hRl y
            have hdl : (dueL l y).length ≤ 100 := by have := sim_len HSim.out; have := HOk.out.n16; have := lead_le (holdN y) l; rw [dueL_len]; omega
            have T3 := ints_on (w := w) (B := B) (R := R) (M := mostOf timers) (X := some (bx, #[.int .u8 d, .int .i64 x, .int .i64 y])) (σ := dueOf σ y) (l := l.drop (lead (holdN y) l)) hdl
            obtain ⟨sd1, sd2⟩ := sim_due (by omega) HOk.out HSim.out y
            have ok2 := hide ((dueOf_ok HOk.out y sd1).more (show k ≤ k + 1 by omega))
            have sm2 := hide sd2
            have HNn2 := hide (show (dueOf σ y).n = heldN timers from HNn.out)
            generalize dueL l y = L at T1 T2 T3
            generalize dueOf σ y = σ2 at *
            generalize l.drop (lead (holdN y) l) = l2 at *
            have HT1 := hide T1
            have HT2 := hide T2
            have HT3 := hide T3
            clear T1 T2 T3 sd1 sd2 hdl
            go_wp2_with fail
            go_region_held3 (fun w' => w'.cell? ⟨bx, 2, none⟩ = some (.int .i64 y)) (first | assumption | go_keep) (first
              | (go_at_call 11; (with_reducible refine (HT1.out _ (by first | exact HP1.out.drew | exact HP1.out)).mono ?_); rintro e w3 ⟨a3, k3, rfl, ho3, hP3⟩; obtain ⟨z0, z1, z2⟩ := hP3.box)
              | (go_at_call 12; (with_reducible refine (HT2.out _ _ _ ho3 hP3).mono ?_); rintro e w4 ⟨a4, k4, rfl, ho4, ho3', hP4⟩; obtain ⟨y0, y1, y2⟩ := hP4.box)
              | (go_at_call 10; (with_reducible refine (HT3.out _ _ _ _ _ _ _ ho3' ho4 hP4).mono ?_); rintro e w5 ⟨rfl, hP5⟩; obtain ⟨p0, p1, p2⟩ := hP5.box))
            have HP5 := hide hP5
            clear hP5 hP4 hP3 ho3 ho3' ho4
            go_wp2_with fail
            go_meet
            exact ⟨rfl, _, _, ok2.out, HNn2.out, sm2.out, HP5.out⟩
          · have e0 : (r6 == 0) = false := by simp [g0]
            clear g0
            by_cases g1 : r6 = 1
            · have e1 : (r6 == 1) = true := by simp [g1]
              clear g1
              have T1 := stop_both (w := w) (B := B) (R := R) (M := mostOf timers) (X := some (bx, #[.int .u8 d, .int .i64 x, .int .i64 y])) (l := l) HOk.out hBl x
              have T2 := stop_both2 (w := w) (B := B) (R := R) (M := mostOf timers) (X := some (bx, #[.int .u8 d, .int .i64 x, .int .i64 y])) (σ' := stopOf σ x) HOk.out HSim.out hRl x
              have ok2 := hide ((stopOf_ok HOk.out x).more (show k ≤ k + 1 by omega))
              have sm2 := hide (sim_stop HSim.out x)
              have HNn2 := hide (show (stopOf σ x).n = heldN timers from (stopOf_n σ x).1.trans HNn.out)
              generalize stopB σ x = sb at T1 T2
              generalize stopOf σ x = σ2 at *
              generalize keepR x l = l2 at *
              have HT1 := hide T1
              have HT2 := hide T2
              have hsb : (sb != sb) = false := by cases sb <;> rfl
              clear T1 T2
              go_wp2_with fail
              go_region_held3 (fun w' => w'.cell? ⟨bx, 1, none⟩ = some (.int .i64 x)) (first | assumption | go_keep) (first
                | (go_at_call 13; (with_reducible refine (HT1.out _ (by first | exact HP1.out.drew | exact HP1.out)).mono ?_); rintro e w3 ⟨rfl, hP3⟩; obtain ⟨z0, z1, z2⟩ := hP3.box)
                | (go_at_call 14; (with_reducible refine (HT2.out _ hP3).mono ?_); rintro e w4 ⟨rfl, hP4⟩; obtain ⟨y0, y1, y2⟩ := hP4.box))
              have HP4 := hide hP4
              clear hP4 hP3
              go_wp2_with fail
              go_meet
              exact ⟨rfl, _, _, ok2.out, HNn2.out, sm2.out, HP4.out⟩
            · have e1 : (r6 == 1) = false := by simp [g1]
              clear g1
              have T1 := set_both (w := w) (B := B) (R := R) (M := mostOf timers) (X := some (bx, #[.int .u8 d, .int .i64 x, .int .i64 y])) (l := l) (K := k) (by omega) HOk.out hBl x y
              have T2 := set_both2 (w := w) (B := B) (R := R) (M := mostOf timers) (X := some (bx, #[.int .u8 d, .int .i64 x, .int .i64 y])) (σ' := setOf σ x y) HOk.out HSim.out HNn.out rfl hRl x y
              have ok2 := hide (setOf_ok HOk.out x y)
              have sm2 := hide (sim_setL (K := k) (by omega) HOk.out HSim.out x y)
              have HNn2 := hide (show (setOf σ x y).n = heldN timers from (set_n σ x y).trans HNn.out)
              generalize setB σ x = sb at T1 T2
              generalize setOf σ x y = σ2 at *
              generalize setL σ l x y = l2 at *
              have HT1 := hide T1
              have HT2 := hide T2
              have hsb : (sb != sb) = false := by cases sb <;> rfl
              clear T1 T2
              go_wp2_with fail
              go_region_held3 (fun w' => w'.cell? ⟨bx, 1, none⟩ = some (.int .i64 x) ∧ w'.cell? ⟨bx, 2, none⟩ = some (.int .i64 y)) (first | (constructor <;> assumption) | go_keep) (first
                | (go_at_call 15; (with_reducible refine (HT1.out _ (by first | exact HP1.out.drew | exact HP1.out)).mono ?_); rintro e w3 ⟨rfl, hP3⟩; obtain ⟨z0, z1, z2⟩ := hP3.box)
                | (go_at_call 16; (with_reducible refine (HT2.out _ hP3).mono ?_); rintro e w4 ⟨rfl, hP4⟩; obtain ⟨y0, y1, y2⟩ := hP4.box))
              have HP4 := hide hP4
              clear hP4 hP3
              go_wp2_with fail
              go_meet
              exact ⟨rfl, _, _, ok2.out, HNn2.out, sm2.out, HP4.out⟩
        case rest =>
          clear HP1 HOk HNn HSim x0 x1 x2
          obtain ⟨rfl, σ2, l2, hok2, hn2, hsim2, hP2⟩ := hcut
          obtain ⟨_, y1, _⟩ := hP2.box
          obtain ⟨v, hR⟩ := hP2.r
          have T1 := at_any B σ2 x hok2.n16 _ hP2.a
          have T2 := (refAt_any R (mostOf timers) v l2 x (by have := sim_len hsim2; have := hok2.n16; omega) _ hR).mono fun e w' ⟨q1, q2⟩ => (⟨sim_at hsim2 x q1, q2⟩ : e = _ ∧ w' = _)
          have T3 := next_is B σ2 hok2.n16 _ hP2.a
          generalize atX σ2 x = A at T1 T2
          generalize stopB σ2 x = sb at T1 T2
          obtain ⟨n1, n2⟩ := sim_next (K := k + 1) (by omega) hok2 hsim2
          obtain ⟨_, z1, _⟩ := hR.cells
          have haa : (A != A) = false := by simp
          have hbb : (sb != sb) = false := by cases sb <;> rfl
          have HT1 := hide T1
          have HT2 := hide T2
          have HOk2 := hide hok2
          have HNn2 := hide hn2
          have HSim2 := hide hsim2
          have HP2 := hide hP2.forget
          clear T1 T2 hok2 hn2 hsim2 hP2
          rcases Nat.eq_zero_or_pos l2.length with hl0 | hl0
          · have hnil : l2 = [] := List.length_eq_zero_iff.1 hl0
            rw [n1 hnil] at T3
            have HT3 : Hid (Calls Try.prog 19 #[.pointer (some ⟨B, 0, none⟩)] wc fun e w' => e = .returned (.tuple #[.int .i64 0, .bool false]) ∧ w' = wc) := T3
            obtain ⟨av, ac, rfl⟩ := hR.slice
            rw [hl0] at z1
            have HZ := hide z1
            clear T3 n1 n2 hR hnil
            go_wp2_with fail
            refine HT1.out.mono ?_
            rintro e w3 ⟨rfl, hw3⟩
            subst hw3
            go_wp2_with fail
            refine HT2.out.mono ?_
            rintro e w4 ⟨rfl, hw4⟩
            subst hw4
            go_wp2_with fail
            refine HT3.out.mono ?_
            rintro e w5 ⟨rfl, hw5⟩
            subst hw5
            go_wp2
            go_roundw
            case rel => exact ⟨k + 1, by omega, by omega, by go_num, _, _, HOk2.out, HNn2.out, HSim2.out, HP2.out⟩
            case measure => simp [intOf]; omega
          · rw [n2 hl0] at T3
            have HT3 : Hid (Calls Try.prog 19 #[.pointer (some ⟨B, 0, none⟩)] wc fun e w' => e = .returned (.tuple #[.int .i64 ((gp l2 0).2 : Int), .bool true]) ∧ w' = wc) := T3
            obtain ⟨g, c, rfl, _, _, hcell⟩ := hR.open hl0
            obtain ⟨_, q1'⟩ := hcell 0 hl0
            have q1 : wc.cell? ⟨g, 1, none⟩ = some (.int .i64 ((gp l2 0).2 : Int)) := q1'
            clear q1'
            have hl0' : (0 : Int) < (l2.length : Int) := by omega
            clear T3 n1 n2 hR hcell
            generalize (gp l2 0).2 = N0 at *
            have hNN : ((N0 : Int) != (N0 : Int)) = false := by simp
            go_wp2_with fail
            refine HT1.out.mono ?_
            rintro e w3 ⟨rfl, hw3⟩
            subst hw3
            go_wp2_with fail
            refine HT2.out.mono ?_
            rintro e w4 ⟨rfl, hw4⟩
            subst hw4
            go_wp2_with fail
            refine HT3.out.mono ?_
            rintro e w5 ⟨rfl, hw5⟩
            subst hw5
            go_wp2
            go_roundw
            case rel => exact ⟨k + 1, by omega, by omega, by go_num, _, _, HOk2.out, HNn2.out, HSim2.out, HP2.out⟩
            case measure => simp [intOf]; omega
    · by_cases hk1 : k < len
      all_goals
        have hk1' := hk1
        go_wp2_with fail
        refine (awake_any _).mono ?_
        rintro e w2 ⟨rfl, hb2⟩
        have HB := hide (HP0.out.below hb2)
        go_wp2
        go_ret
        exact ⟨rfl, HB.out.b⟩

end Go.Proofs.Ytnciefdhgokffaa
