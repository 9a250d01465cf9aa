/-
  What the law BufferPlays asks comes out true at any number and any two lists.
-/
import Derived.Test.YtiookbmffdmdeaaMem
import Derived.Deep.RegionHeld3
import Derived.Deep.DeepCutAuto
import Derived.Deep.CutBlock
namespace Go.Proofs.Ytiookbmffdmdeaa
open Go.RowKit

/-- A buffer beside the document's. -/
structure PS (w : World) (B R n base : Nat) (v : Value) (lb lr : List Wk) : Prop where
  b : AtB w B n lb
  r : AtR w R base n v lr
variable {w w' : World} {B R n base : Nat} {v v' : Value} {lb lb' lr lr' l : List Wk}
theorem PS.ne (h : PS w B R n base v lb lr) : B ≠ R := fun e => by
  obtain ⟨cs, h1, _⟩ := h.b.box
  have h2 := h.r.box
  rw [← e, h1] at h2
  cases h2
theorem PS.far (h : PS w B R n base v lb lr) : v.ownBlock ≠ some B := fun e => by
  obtain ⟨cs, h1, _⟩ := h.b.box
  exact owns_far h.r.row h1 (by decide) e
theorem PS.below (h : PS w B R n base v lb lr) (k : Below w.heap.size w w') : PS w' B R n base v lb lr := ⟨h.b.below k, h.r.below k⟩
theorem PS.setB (h : PS w B R n base v lb lr) (k : Now B n lb' w w') : PS w' B R n base v lb' lr :=
  ⟨k.1, h.r.keep (k.2.block R h.r.lt h.ne.symm) (fun g hg => k.2.block g (h.r.row.lt g hg).2 (fun e => h.far (by rw [hg, e])))⟩
theorem PS.setR (h : PS w B R n base v lb lr) (k : AtR w' R base n v' lr') (t : Turn R w w') : PS w' B R n base v' lb lr' := ⟨h.b.same (t.block B h.b.lt h.ne), k⟩
theorem PS.setR2 (h : PS w B R n base v lb lr) (k : AtR w' R base n v' lr') (t : Turn2 R v w w') : PS w' B R n base v' lb lr' := ⟨h.b.same (t.block B h.b.lt h.ne h.far), k⟩
theorem RowA.turn2 {a : Option Addr} (h : RowA w a l) (t : Turn2 R v w w') (hk : ∀ g, a = some ⟨g, 0, none⟩ → g ≠ R ∧ v.ownBlock ≠ some g) : RowA w' a l := fun hn => by
  obtain ⟨g, h1, h2, h3⟩ := h hn
  obtain ⟨k1, k2⟩ := hk g h1
  have hb := t.block g h2 k1 k2
  exact ⟨g, h1, Nat.lt_of_lt_of_le h2 t.size, fun i hi => ⟨(World.cell?_of_block (a := ⟨g, _, none⟩) hb).trans (h3 i hi).1, (World.cell?_of_block (a := ⟨g, _, none⟩) hb).trans (h3 i hi).2⟩⟩
/-- What is told, in a row. -/
theorem owns_told {a : Option Addr} {c : Nat} (h8 : l.length ≤ n) (h : w.ownsRow base 31 2 (.slice a n c) n (cW (told n l))) : RowA w a (told n l) := by
  have e := told_len h8
  have h2 : w.ownsRow base 31 2 (.slice a (told n l).length c) (told n l).length (cW (told n l)) := by rw [e]; exact h
  exact owns_rowA h2

set_option linter.unusedSimpArgs false in
set_option maxHeartbeats 8000000 in
theorem plays_walk (m : Int) (a1 : Option Addr) (l1 c1 : Nat) (a2 : Option Addr) (l2 c2 : Nat) (h1 : l1 ≤ c1) (g1 : c1 ≤ maxLen) (h2 : l2 ≤ c2) (g2 : c2 ≤ maxLen) (w : World) (hact1 : Acts w a1 l1) (hact2 : Bytes w a2 l2) :
    Calls Try.prog 3 #[.int .i64 m, .slice a1 l1 c1, .slice a2 l2 c2] w fun e w' => e = .returned (.bool true) ∧ Below w.heap.size w w' := by
  have hl1 : l1 ≤ maxLen := Nat.le_trans h1 g1
  have hl2 : l2 ≤ maxLen := Nat.le_trans h2 g2
  unfold maxLen at hl1 hl2
  clear h1 g1 h2 g2
  obtain ⟨n, hn⟩ : ∃ n, heldN m = n := ⟨_, rfl⟩
  have hn8 : n ≤ 8 := hn ▸ heldN_le m
  have NN : Hid (∀ W : World, Calls Try.prog 7 #[.int .i64 m] W fun e w' => e = .returned (.pointer (some ⟨W.heap.size, 0, none⟩)) ∧ AtB w' W.heap.size n [] ∧ Below W.heap.size W w') := fun W => hn ▸ new_any m W
  have NR : Hid (∀ W : World, Calls Try.prog 8 #[.int .i64 m] W fun e w' => e = .returned (.pointer (some ⟨W.heap.size, 0, none⟩)) ∧ AtR w' W.heap.size W.heap.size n (.slice none 0 0) [] ∧ Below W.heap.size W w') := fun W => hn ▸ refNew_any m W
  have OK0 : Hid (Ok n []) := Ok.nil hn8
  have HA1 := hide hact1
  have HA2 := hide hact2
  clear hn hact1 hact2
  go_enter Try.func3, Try.ntmps3
  go_wp2_with fail
  refine (NN.out _).mono ?_
  rintro e w2 ⟨rfl, hX, hb⟩
  obtain ⟨B, hXe⟩ : ∃ B, B = w.heap.size := ⟨_, rfl⟩
  rw [← hXe] at hX ⊢
  have hBl : w.heap.size ≤ B := by omega
  have HX := hide hX
  clear hX hXe
  go_wp2_with fail
  refine (NR.out _).mono ?_
  rintro e w3 ⟨rfl, hY, hb3⟩
  obtain ⟨R, hYe⟩ : ∃ R, R = w2.heap.size := ⟨_, rfl⟩
  have hz2 := hb.size
  rw [← hYe] at hY ⊢
  have hRl : w.heap.size ≤ R := by omega
  have HT : Hid (PS w3 B R n w.heap.size (.slice none 0 0) [] []) := ⟨HX.out.below hb3, ⟨hY.box, World.ownsRow_nil _ _ _ _⟩⟩
  replace hb := below_next hb hb3
  clear hY HX hb3 hz2 hYe NN NR
  -- the calls
  have P1 : Hid (∀ W v l x y, Ok n l → PS W B R n w.heap.size v l l → Below w.heap.size w W → Calls Try.prog 9 #[.pointer (some ⟨B, 0, none⟩), .agg #[.int .i64 x, .int .i64 y]] W fun e w' => e = .returned (.bool (putB n l ⟨x, y⟩)) ∧ PS w' B R n w.heap.size v (putL n l ⟨x, y⟩) l ∧ Below w.heap.size w w') := fun W v l x y hO h hb =>
    (put_any B n l ⟨x, y⟩ hO W h.b).mono fun e w' k => ⟨k.1, h.setB k.2, turn_next hb k.2.2 hBl⟩
  have P2 : Hid (∀ W v l l' x y, Ok n l → PS W B R n w.heap.size v l' l → Below w.heap.size w W → Calls Try.prog 10 #[.pointer (some ⟨R, 0, none⟩), .agg #[.int .i64 x, .int .i64 y]] W fun e w' => e = .returned (.bool (putB n l ⟨x, y⟩)) ∧ ∃ v', PS w' B R n w.heap.size v' l' (putL n l ⟨x, y⟩) ∧ Below w.heap.size w w') := fun W v l l' x y hO h hb =>
    (refPut_any R w.heap.size n v l ⟨x, y⟩ hO W hb.size h.r).mono fun e w' k => by
      obtain ⟨k1, v', k2, k3⟩ := k
      exact ⟨k1, v', h.setR k2 k3, turn_next hb k3 hRl⟩
  have HP3 : Hid (∀ W v l, Hid (PS W B R n w.heap.size v l l) → Calls Try.prog 11 #[.pointer (some ⟨B, 0, none⟩)] W fun e w' => e = .returned (.int .i64 (l.length : Int)) ∧ w' = W) := fun W v l h => len_any B n l W h.out.b
  have D1 : Hid (∀ W v l, Ok n l → PS W B R n w.heap.size v l l → Below w.heap.size w W → Calls Try.prog 13 #[.pointer (some ⟨B, 0, none⟩)] W fun e w' => ∃ g, e = .returned (.slice (some ⟨g, 0, none⟩) n n) ∧ PS w' B R n w.heap.size v [] l ∧ Below w.heap.size w w' ∧ RowA w' (some ⟨g, 0, none⟩) (told n l) ∧ g ≠ R ∧ v.ownBlock ≠ some g) := fun W v l hO h hb =>
    (deliver_any B n l hO W h.b).mono fun e w' k => ⟨_, k.1, h.setB k.2.2, turn_next hb k.2.2.2 hBl, owns_told hO.len k.2.1, (by have := h.r.lt; omega), fun e => by have := (h.r.row.lt _ e).2; omega⟩
  have D2 : Hid (∀ W v l g, Ok n l → PS W B R n w.heap.size v [] l → Below w.heap.size w W → RowA W (some ⟨g, 0, none⟩) (told n l) → g ≠ R → v.ownBlock ≠ some g → Calls Try.prog 14 #[.pointer (some ⟨R, 0, none⟩)] W fun e w' => ∃ a c, e = .returned (.slice a n c) ∧ PS w' B R n w.heap.size (.slice none 0 0) [] [] ∧ Below w.heap.size w w' ∧ RowA w' (some ⟨g, 0, none⟩) (told n l) ∧ RowA w' a (told n l)) := fun W v l g hO h hb hr h1 h2 =>
    (refDeliver_any R w.heap.size n v l hO W hb.size h.r).mono fun e w' k => by
      obtain ⟨a, c, k1, k2, k3, k4⟩ := k
      refine ⟨a, c, k1, h.setR2 k3 k4, hb.trans (k4.below hb.size hRl fun q hq => (h.r.row.lt q hq).1), hr.turn2 k4 (fun q hq => ?_), owns_told hO.len k2⟩
      cases hq
      exact ⟨h1, h2⟩
  have A1 : Hid (∀ W l x1 x2 y1 y2, Ok n l → RowA W x1 (told n l) → RowA W x2 (told n l) → Calls Try.prog 12 #[.slice x1 n y1, .slice x2 n y2] W fun e w' => e = .returned (.bool true) ∧ Below W.heap.size W w') := fun W l x1 x2 y1 y2 hO h k => by
    have e := told_len hO.len
    have := alike_same x1 x2 y1 y2 (told n l) (by omega) W h k
    rw [e] at this
    exact this
  go_upto_block 0 with fail
  go_cut [] (fun w' => ∃ l v, Hid (Ok n l) ∧ Hid (PS w' B R n w.heap.size v l l) ∧ Below w.heap.size w w')
  case first =>
    go_wp2_with fail
    go_loopw [9] (fun i wr => ∃ k l a c, i = .int .i64 ((k : Nat) : Int) ∧ k ≤ 60 ∧ k ≤ l1 ∧ Hid (Ok n l) ∧ Hid (PS wr B R n w.heap.size (.slice a (List.length l) c) l l) ∧ Below w.heap.size w wr) (fun i _ => 60 - (intOf i).toNat)
    case atStart => exact ⟨0, [], none, 0, rfl, by omega, by omega, OK0, HT, hb⟩
    case round =>
      clear HT hb
      obtain ⟨k, l, a, c, rfl, hk60, hkl, HO, HT, hb⟩ := hrel
      by_cases h1 : k < l1
      · have h1' : (k : Int) < (l1 : Int) := by omega
        by_cases h2 : k < 60
        · have h2' : (k : Int) < 60 := by omega
          have h0' : (0 : Int) ≤ (k : Int) := by omega
          obtain ⟨b2, off2, x, y, rfl, hlt2, p0, p1⟩ := HA1.out k h1
          have HCL : Hid (∀ W, Below w.heap.size w W → W.cell? ⟨b2, off2 + k * 2, none⟩ = some (.int .i64 x) ∧ W.cell? ⟨b2, off2 + k * 2 + 1, none⟩ = some (.int .i64 y)) := fun W q => ⟨((bcell q).1 _ _ hlt2).trans p0, ((bcell q).1 _ _ hlt2).trans p1⟩
          obtain ⟨p0, p1⟩ := HCL.out _ hb
          obtain ⟨L, hL⟩ : ∃ L, putL n l ⟨x, y⟩ = L := ⟨_, rfl⟩
          have HO' : Hid (Ok n L) := hL ▸ HO.out.put ⟨x, y⟩
          obtain ⟨pb, hpb⟩ : ∃ pb, putB n l ⟨x, y⟩ = pb := ⟨_, rfl⟩
          have HP1 : Hid (∀ W, Below wr.heap.size wr W → Calls Try.prog 9 #[.pointer (some ⟨B, 0, none⟩), .agg #[.int .i64 x, .int .i64 y]] W fun e w' => e = .returned (.bool pb) ∧ Hid (PS w' B R n w.heap.size (.slice a l.length c) L l) ∧ Hid (Below w.heap.size w w') ∧ w'.cell? ⟨b2, off2 + k * 2, none⟩ = some (.int .i64 x) ∧ w'.cell? ⟨b2, off2 + k * 2 + 1, none⟩ = some (.int .i64 y)) := fun W q => by
            rw [← hL, ← hpb]
            exact (P1.out W _ l x y HO.out (HT.out.below q) (below_next hb q)).mono fun e w' k => ⟨k.1, k.2.1, k.2.2, HCL.out _ k.2.2⟩
          have HP2 : Hid (∀ W, Hid (PS W B R n w.heap.size (.slice a l.length c) L l) → Hid (Below w.heap.size w W) → Calls Try.prog 10 #[.pointer (some ⟨R, 0, none⟩), .agg #[.int .i64 x, .int .i64 y]] W fun e w' => e = .returned (.bool pb) ∧ ∃ a' c', Hid (PS w' B R n w.heap.size (.slice a' L.length c') L L) ∧ Hid (Below w.heap.size w w') ∧ (w'.cell? ⟨b2, off2 + k * 2, none⟩ = some (.int .i64 x) ∧ w'.cell? ⟨b2, off2 + k * 2 + 1, none⟩ = some (.int .i64 y)) ∧ w'.cell? ⟨R, 0, none⟩ = some (.slice a' L.length c')) := fun W q1 q2 => by
            rw [← hpb]
            refine (P2.out W _ l L x y HO.out q1.out q2.out).mono fun e w' k => ?_
            obtain ⟨k1, v', k2, k3⟩ := k
            rw [hL] at k2
            obtain ⟨a', c', rfl⟩ := k2.r.form
            exact ⟨k1, a', c', k2, k3, HCL.out _ k3, k2.r.cells.1⟩
          clear hL hpb P1 P2 HO HT
          have hll : ((L.length : Int) != L.length) = false := by simp
          have hpp : (pb != pb) = false := by simp
          go_wp2_with fail
          go_cut [46] (fun u w' => u = .bool false ∧ ∃ a' c', Hid (PS w' B R n w.heap.size (.slice a' L.length c') L L) ∧ Hid (Below w.heap.size w w'))
          case first =>
            refine wp_region_noPanic ?_
            refine wp_region_held_drew (S := fun w' => w'.cell? ⟨b2, off2 + k * 2, none⟩ = some (.int .i64 x) ∧ w'.cell? ⟨b2, off2 + k * 2 + 1, none⟩ = some (.int .i64 y)) (by kernel_rfl) ?_ (fun hHeld => ?_)
            · exact ⟨p0, p1⟩
            refine wpAnyH_take (i := 0) (v := ?_) rfl (by kernel_rfl) (by kernel_rfl) (by kernel_rfl) (fun _ _ _ h => h) (Or.inl ⟨by rfl, ?_⟩) (by first | trivial | assumption) ?_
            rotate_left 1
            · (intro w hSw; (try dsimp only at hSw); go_simp; all_goals with_reducible rfl)
            try simp only [Act.put, List.setIfInBounds_toArray, List.set_cons_zero, List.set_cons_succ]
            refine wpAnyH_take (i := 1) (v := ?_) rfl (by kernel_rfl) (by kernel_rfl) (by kernel_rfl) (fun _ _ _ h => h) (Or.inl ⟨by rfl, ?_⟩) (by first | trivial | assumption) ?_
            rotate_left 1
            · (intro w hSw; (try dsimp only at hSw); go_simp; all_goals with_reducible rfl)
            try simp only [Act.put, List.setIfInBounds_toArray, List.set_cons_zero, List.set_cons_succ]
            refine wpAnyH_take (i := 2) (v := ?_) rfl (by kernel_rfl) (by kernel_rfl) (by kernel_rfl) (fun _ _ _ h => h) (Or.inl ⟨by rfl, ?_⟩) (by first | trivial | assumption) ?_
            rotate_left 1
            · (intro w hSw; (try dsimp only at hSw); go_simp; all_goals with_reducible rfl)
            try simp only [Act.put, List.setIfInBounds_toArray, List.set_cons_zero, List.set_cons_succ]
            refine wpAnyH_take (i := 3) (v := ?_) rfl (by kernel_rfl) (by kernel_rfl) (by kernel_rfl) (fun _ _ _ h => h) (Or.inl ⟨by rfl, ?_⟩) (by first | trivial | assumption) ?_
            rotate_left 1
            · (intro w hSw; (try dsimp only at hSw); go_simp; all_goals with_reducible rfl)
            try simp only [Act.put, List.setIfInBounds_toArray, List.set_cons_zero, List.set_cons_succ]
            refine wpAnyH_take (i := 4) (v := ?_) rfl (by kernel_rfl) (by kernel_rfl) (by kernel_rfl) (fun _ _ _ h => h) (Or.inl ⟨by rfl, ?_⟩) (by first | trivial | assumption) ?_
            rotate_left 1
            · (intro w hSw; (try dsimp only at hSw); go_simp; all_goals with_reducible rfl)
            try simp only [Act.put, List.setIfInBounds_toArray, List.set_cons_zero, List.set_cons_succ]
            refine wpAnyH_take (i := 6) (v := ?_) rfl (by kernel_rfl) (by kernel_rfl) (by kernel_rfl) (fun _ _ _ h => h) (Or.inl ⟨by rfl, ?_⟩) (by first | trivial | assumption) ?_
            rotate_left 1
            · (intro w hSw; (try dsimp only at hSw); go_simp; all_goals with_reducible rfl)
            try simp only [Act.put, List.setIfInBounds_toArray, List.set_cons_zero, List.set_cons_succ]
            refine wpAnyH_take (i := 7) (v := ?_) rfl (by kernel_rfl) (by kernel_rfl) (by kernel_rfl) (fun _ _ _ h => h) (Or.inl ⟨by rfl, ?_⟩) (by first | trivial | assumption) ?_
            rotate_left 1
            · (intro w hSw; (try dsimp only at hSw); go_simp; all_goals with_reducible rfl)
            try simp only [Act.put, List.setIfInBounds_toArray, List.set_cons_zero, List.set_cons_succ]
            refine wpAnyH_take (i := 8) (v := ?_) rfl (by kernel_rfl) (by kernel_rfl) (by kernel_rfl) (fun _ _ _ h => h) (Or.inl ⟨by rfl, ?_⟩) (by first | trivial | assumption) ?_
            rotate_left 1
            · (intro w hSw; (try dsimp only at hSw); go_simp; all_goals with_reducible rfl)
            try simp only [Act.put, List.setIfInBounds_toArray, List.set_cons_zero, List.set_cons_succ]
            refine wpAnyH_take (i := 9) (v := ?_) rfl (by kernel_rfl) (by kernel_rfl) (by kernel_rfl) (fun _ _ _ h => h) (Or.inl ⟨by rfl, ?_⟩) (by first | trivial | assumption) ?_
            rotate_left 1
            · (intro w hSw; (try dsimp only at hSw); go_simp; all_goals with_reducible rfl)
            try simp only [Act.put, List.setIfInBounds_toArray, List.set_cons_zero, List.set_cons_succ]
            refine wpAnyH_take (i := 10) (v := ?_) rfl (by kernel_rfl) (by kernel_rfl) (by kernel_rfl) (fun _ _ _ h => h) (Or.inl ⟨by rfl, ?_⟩) (by first | trivial | assumption) ?_
            rotate_left 1
            · (intro w hSw; (try dsimp only at hSw); go_simp; all_goals with_reducible rfl)
            try simp only [Act.put, List.setIfInBounds_toArray, List.set_cons_zero, List.set_cons_succ]
            refine wpAnyH_ready (rs := [5]) (by kernel_rfl) (by simp) ?_
            refine AllReadyH.cons rfl (fun K hK => ?_) ?_
            · (go_simp; go_at_call 9; refine (HP1.out _ ((Below.refl _ _).drew)).mono ?_; rintro e w4 ⟨rfl, HT4, HB4, hcl⟩)
              refine hK.out _ _ ?_ (fun hHeld => ?_)
              · (first | exact hcl | assumption)
              clear hK K
              try simp only [Act.put, List.setIfInBounds_toArray, List.set_cons_zero, List.set_cons_succ]
              refine wpAnyH_ready (rs := [11]) (by kernel_rfl) (by simp) ?_
              refine AllReadyH.cons rfl (fun K hK => ?_) ?_
              · (go_simp; go_at_call 10; refine (HP2.out _ HT4 HB4).mono ?_; rintro e w5 ⟨rfl, a', c', HT5, HB5, hcl, hR5⟩)
                refine hK.out _ _ ?_ (fun hHeld => ?_)
                · (first | exact hcl | assumption)
                clear hK K
                try simp only [Act.put, List.setIfInBounds_toArray, List.set_cons_zero, List.set_cons_succ]
                refine wpAnyH_take (i := 12) (v := ?_) rfl (by kernel_rfl) (by kernel_rfl) (by kernel_rfl) (fun _ _ _ h => h) (Or.inl ⟨by rfl, ?_⟩) (by first | trivial | assumption) ?_
                rotate_left 1
                · (intro w hSw; (try dsimp only at hSw); go_simp; all_goals with_reducible rfl)
                try simp only [Act.put, List.setIfInBounds_toArray, List.set_cons_zero, List.set_cons_succ]
                refine wpAnyH_take (i := 13) (v := ?_) rfl (by kernel_rfl) (by kernel_rfl) (by kernel_rfl) (fun _ _ _ h => h) (Or.inl ⟨by rfl, ?_⟩) (by first | trivial | assumption) ?_
                rotate_left 1
                · (intro w hSw; (try dsimp only at hSw); go_simp; all_goals with_reducible rfl)
                try simp only [Act.put, List.setIfInBounds_toArray, List.set_cons_zero, List.set_cons_succ]
                refine wpAnyH_take (i := 14) (v := ?_) rfl (by kernel_rfl) (by kernel_rfl) (by kernel_rfl) (fun _ _ _ h => h) (Or.inl ⟨by rfl, ?_⟩) (by first | trivial | assumption) ?_
                rotate_left 1
                · (intro w hSw; (try dsimp only at hSw); go_simp; all_goals with_reducible rfl)
                try simp only [Act.put, List.setIfInBounds_toArray, List.set_cons_zero, List.set_cons_succ]
                refine wpAnyH_take (i := 16) (v := ?_) rfl (by kernel_rfl) (by kernel_rfl) (by kernel_rfl) (fun _ _ _ h => h) (Or.inl ⟨by rfl, ?_⟩) (by first | trivial | assumption) ?_
                rotate_left 1
                · (intro w hSw; (try dsimp only at hSw); go_simp; all_goals with_reducible rfl)
                try simp only [Act.put, List.setIfInBounds_toArray, List.set_cons_zero, List.set_cons_succ]
                refine wpAnyH_take (i := 17) (v := ?_) rfl (by kernel_rfl) (by kernel_rfl) (by kernel_rfl) (fun _ _ _ h => h) (Or.inl ⟨by rfl, ?_⟩) (by first | trivial | assumption) ?_
                rotate_left 1
                · (intro w hSw; (try dsimp only at hSw); go_simp; all_goals with_reducible rfl)
                try simp only [Act.put, List.setIfInBounds_toArray, List.set_cons_zero, List.set_cons_succ]
                refine wpAnyH_take (i := 18) (v := ?_) rfl (by kernel_rfl) (by kernel_rfl) (by kernel_rfl) (fun _ _ _ h => h) (Or.inl ⟨by rfl, ?_⟩) (by first | trivial | assumption) ?_
                rotate_left 1
                · (intro w hSw; (try dsimp only at hSw); go_simp; all_goals with_reducible rfl)
                try simp only [Act.put, List.setIfInBounds_toArray, List.set_cons_zero, List.set_cons_succ]
                refine wpAnyH_ready (rs := [15, 19]) (by kernel_rfl) (by simp) ?_
                refine AllReadyH.cons rfl (fun K hK => ?_) ?_
                · (go_simp; go_at_call 11; refine (HP3.out _ _ _ HT5).mono ?_; rintro e w6 ⟨rfl, hw6⟩; have hw6' := hw6.symm; clear hw6; subst hw6')
                  refine hK.out _ _ ?_ (fun hHeld => ?_)
                  · (first | exact hcl | assumption)
                  clear hK K
                  try simp only [Act.put, List.setIfInBounds_toArray, List.set_cons_zero, List.set_cons_succ]
                  refine wpAnyH_ready (rs := [19]) (by kernel_rfl) (by simp) ?_
                  refine AllReadyH.cons rfl (fun K hK => ?_) ?_
                  · go_simp
                    refine hK.out _ _ ?_ (fun hHeld => ?_)
                    · (first | exact hcl | assumption)
                    clear hK K
                    try simp only [Act.put, List.setIfInBounds_toArray, List.set_cons_zero, List.set_cons_succ]
                    refine wpAnyH_take (i := 20) (v := ?_) rfl (by kernel_rfl) (by kernel_rfl) (by kernel_rfl) (fun _ _ _ h => h) (Or.inl ⟨by rfl, ?_⟩) (by first | trivial | assumption) ?_
                    rotate_left 1
                    · (intro w hSw; (try dsimp only at hSw); go_simp; all_goals with_reducible rfl)
                    try simp only [Act.put, List.setIfInBounds_toArray, List.set_cons_zero, List.set_cons_succ]
                    refine wpAnyH_take (i := 21) (v := ?_) rfl (by kernel_rfl) (by kernel_rfl) (by kernel_rfl) (fun _ _ _ h => h) (Or.inl ⟨by rfl, ?_⟩) (by first | trivial | assumption) ?_
                    rotate_left 1
                    · (intro w hSw; (try dsimp only at hSw); go_simp; all_goals with_reducible rfl)
                    try simp only [Act.put, List.setIfInBounds_toArray, List.set_cons_zero, List.set_cons_succ]
                    refine wpAnyH_ready (rs := [22]) (by kernel_rfl) (by simp) ?_
                    refine AllReadyH.cons rfl (fun K hK => ?_) ?_
                    · go_simp
                      refine hK.out _ _ ?_ (fun hHeld => ?_)
                      · (first | exact hcl | assumption)
                      clear hK K
                      try simp only [Act.put, List.setIfInBounds_toArray, List.set_cons_zero, List.set_cons_succ]
                      refine wpAnyH_done (by kernel_rfl) ?_ _
                      (refine NoPanic.normal ?_; clear hHeld; go_wp2_with fail; go_meet; exact ⟨rfl, a', c', HT5, HB5⟩)
                    exact AllReadyH.nil
                  exact AllReadyH.nil
                refine AllReadyH.cons rfl (fun K hK => ?_) ?_
                · go_simp
                  refine hK.out _ _ ?_ (fun hHeld => ?_)
                  · (first | exact hcl | assumption)
                  clear hK K
                  try simp only [Act.put, List.setIfInBounds_toArray, List.set_cons_zero, List.set_cons_succ]
                  refine wpAnyH_take (i := 20) (v := ?_) rfl (by kernel_rfl) (by kernel_rfl) (by kernel_rfl) (fun _ _ _ h => h) (Or.inl ⟨by rfl, ?_⟩) (by first | trivial | assumption) ?_
                  rotate_left 1
                  · (intro w hSw; (try dsimp only at hSw); go_simp; all_goals with_reducible rfl)
                  try simp only [Act.put, List.setIfInBounds_toArray, List.set_cons_zero, List.set_cons_succ]
                  refine wpAnyH_ready (rs := [15]) (by kernel_rfl) (by simp) ?_
                  refine AllReadyH.cons rfl (fun K hK => ?_) ?_
                  · (go_simp; go_at_call 11; refine (HP3.out _ _ _ HT5).mono ?_; rintro e w6 ⟨rfl, hw6⟩; have hw6' := hw6.symm; clear hw6; subst hw6')
                    refine hK.out _ _ ?_ (fun hHeld => ?_)
                    · (first | exact hcl | assumption)
                    clear hK K
                    try simp only [Act.put, List.setIfInBounds_toArray, List.set_cons_zero, List.set_cons_succ]
                    refine wpAnyH_take (i := 21) (v := ?_) rfl (by kernel_rfl) (by kernel_rfl) (by kernel_rfl) (fun _ _ _ h => h) (Or.inl ⟨by rfl, ?_⟩) (by first | trivial | assumption) ?_
                    rotate_left 1
                    · (intro w hSw; (try dsimp only at hSw); go_simp; all_goals with_reducible rfl)
                    try simp only [Act.put, List.setIfInBounds_toArray, List.set_cons_zero, List.set_cons_succ]
                    refine wpAnyH_ready (rs := [22]) (by kernel_rfl) (by simp) ?_
                    refine AllReadyH.cons rfl (fun K hK => ?_) ?_
                    · go_simp
                      refine hK.out _ _ ?_ (fun hHeld => ?_)
                      · (first | exact hcl | assumption)
                      clear hK K
                      try simp only [Act.put, List.setIfInBounds_toArray, List.set_cons_zero, List.set_cons_succ]
                      refine wpAnyH_done (by kernel_rfl) ?_ _
                      (refine NoPanic.normal ?_; clear hHeld; go_wp2_with fail; go_meet; exact ⟨rfl, a', c', HT5, HB5⟩)
                    exact AllReadyH.nil
                  exact AllReadyH.nil
                exact AllReadyH.nil
              exact AllReadyH.nil
            exact AllReadyH.nil
          case rest =>
            obtain ⟨rfl, a', c', HT5, HB5⟩ := hcut
            clear hb HP1 HP2 HCL p0 p1 hll hpp wr
            by_cases h3 : k < l2
            · have h3' : (k : Int) < (l2 : Int) := by omega
              obtain ⟨b3, off3, t, rfl, hlt3, q0, ht0, ht1⟩ := HA2.out k h3
              replace q0 := ((bcell HB5.out).1 _ _ hlt3).trans q0
              obtain ⟨z, hz⟩ : ∃ z, t.tmod 4 = z := ⟨_, rfl⟩
              cases hbt : (z == 0)
              · go_wp2_with fail
                go_roundw
                case rel => exact ⟨k + 1, L, a', c', by go_num, by omega, by omega, HO', HT5, HB5.out⟩
                case measure => simp [intOf]; omega
              · go_wp2_with fail
                refine (D1.out _ _ L HO'.out HT5.out HB5.out).mono ?_
                rintro e w7 ⟨g, rfl, hT, hb, hr, hg1, hg2⟩
                have HT7 := hide hT
                have HR7 := hide hr
                clear hT hr HT5 HB5
                go_wp2_with fail
                refine (D2.out _ _ L g HO'.out HT7.out hb HR7.out hg1 hg2).mono ?_
                rintro e w8 ⟨a9, c9, rfl, hT, hb, hr1, hr2⟩
                have HT8 := hide hT
                have HR8 := hide hr1
                have HR9 := hide hr2
                clear hT hr1 hr2 HT7 HR7
                go_wp2_with fail
                refine (A1.out _ L _ _ _ _ HO'.out HR8.out HR9.out).mono ?_
                rintro e w9 ⟨rfl, hb9⟩
                replace hb := below_next hb hb9
                have HT9 := hide (HT8.out.below hb9)
                clear hb9 HT8 HR8 HR9
                go_wp2_with fail
                go_roundw
                case rel => exact ⟨k + 1, [], none, 0, by go_num, by omega, by omega, OK0, HT9, hb⟩
                case measure => simp [intOf]; omega
            · have h3' : ¬ (k : Int) < (l2 : Int) := by omega
              go_wp2_with fail
              go_roundw
              case rel => exact ⟨k + 1, L, a', c', by go_num, by omega, by omega, HO', HT5, HB5.out⟩
              case measure => simp [intOf]; omega
        · have h2' : ¬ (k : Int) < 60 := by omega
          go_wp2_with fail
          go_meet
          exact ⟨l, _, HO, HT, hb⟩
      · have h1' : ¬ (k : Int) < (l1 : Int) := by omega
        go_wp2_with fail
        go_meet
        exact ⟨l, _, HO, HT, hb⟩
  case rest =>
    clear HT hb
    obtain ⟨l, v, HO, HT, hb⟩ := hcut
    go_wp2_with fail
    refine (awake_any _).mono ?_
    rintro e w6 ⟨rfl, hb6⟩
    replace hb := below_next hb hb6
    replace HT := hide (HT.out.below hb6)
    clear hb6
    go_wp2_with fail
    refine (D1.out _ v l HO.out HT.out hb).mono ?_
    rintro e w7 ⟨g, rfl, hT, hb, hr, hg1, hg2⟩
    have HT7 := hide hT
    have HR7 := hide hr
    clear hT hr
    go_wp2_with fail
    refine (D2.out _ v l g HO.out HT7.out hb HR7.out hg1 hg2).mono ?_
    rintro e w8 ⟨a, c, rfl, hT, hb, hr1, hr2⟩
    have HT8 := hide hT
    have HR8 := hide hr1
    have HR9 := hide hr2
    clear hT hr1 hr2 HT7 HR7
    go_wp2_with fail
    refine (A1.out _ l _ _ _ _ HO.out HR8.out HR9.out).mono ?_
    rintro e w9 ⟨rfl, hb9⟩
    replace hb := below_next hb hb9
    have HT9 := hide (HT8.out.below hb9)
    clear hb9 HT8 HR8 HR9
    go_wp2_with fail
    refine (HP3.out _ _ [] HT9).mono ?_
    rintro e w10 ⟨rfl, hw10⟩
    subst hw10
    go_wp2
    go_ret
    exact ⟨rfl, hb⟩

end Go.Proofs.Ytiookbmffdmdeaa
