/-
  What the program's New, Writer, Readers, Waits, wrong and takeOut come to.
-/
import Derived.Test.YtggfndokmdpaeaaRow
import Derived.Deep.DeepCutAuto
import Derived.Deep.RegionHeld3
namespace Go.Proofs.Ytggfndokmdpaeaa
open Go.RowKit

theorem St.lens {s : St} (h : s.len ≤ 1000) : s.rs.length ≤ 1000 ∧ s.tw.length ≤ 1000 ∧ s.tr.length ≤ 1000 := by
  unfold St.len at h
  omega

set_option maxHeartbeats 400000 in
theorem new_any (w : World) : Calls Try.prog 8 #[] w fun e w' => e = .returned (.pointer (some ⟨w.heap.size, 0, none⟩)) ∧ AtX w' w.heap.size w.heap.size ⟨.slice none 0 0, .slice none 0 0, .slice none 0 0⟩ St.nil ∧ Below w.heap.size w w' := by
  go_enter Try.func8, Try.ntmps8
  go_wp2
  go_ret
  exact ⟨rfl, ⟨heap_alloc_new _ _, World.ownsRow_nil _ _ _ _, World.ownsRow_nil _ _ _ _, World.ownsRow_nil _ _ _ _, fun _ h => by (simp [Value.ownBlock] at h), fun _ h => by (simp [Value.ownBlock] at h), fun _ h => by (simp [Value.ownBlock] at h)⟩, (Below.refl _ _).alloc (Nat.le_refl _) _⟩

set_option maxHeartbeats 400000 in
theorem writer_any (M base : Nat) (v : Vs) (s : St) (w : World) (hM : AtX w M base v s) : Calls Try.prog 14 #[.pointer (some ⟨M, 0, none⟩)] w fun e w' => e = .returned (.int .i64 s.w) ∧ w' = w := by
  obtain ⟨c0, _, _, _, _⟩ := hM.cells
  clear hM
  generalize s.w = H at *
  go_enter Try.func14, Try.ntmps14
  go_wp2
  go_ret
  exact ⟨rfl, rfl⟩
set_option maxHeartbeats 400000 in
theorem readers_any (M base : Nat) (v : Vs) (s : St) (hl : s.len ≤ 1000) (w : World) (hM : AtX w M base v s) : Calls Try.prog 13 #[.pointer (some ⟨M, 0, none⟩)] w fun e w' => Owned s.rs w e w' := by
  obtain ⟨_, c1, _, _, _⟩ := hM.cells
  have HC := hide (clone_row hM.ra (St.lens hl).1)
  clear hM
  go_enter Try.func13, Try.ntmps13
  go_wp2_with fail
  refine HC.out.mono ?_
  rintro e w2 ⟨u, rfl, h1, h2⟩
  go_wp2
  go_ret
  exact ⟨u, rfl, h1, h2⟩

/-- Two rows that can be read, both new. -/
def Rows2 (l1 l2 : List Int) (w : World) (e : Ending) (w' : World) : Prop :=
  ∃ a1 c1 a2 c2, e = .returned (.tuple #[.slice a1 l1.length c1, .slice a2 l2.length c2]) ∧ RowZ w' a1 l1 ∧ RowZ w' a2 l2 ∧ Below w.heap.size w w'
theorem owned_form {w : World} {base : Nat} {u : Value} {l : List Int} (h : w.ownsRow base 3 1 u l.length (cZ l)) : ∃ a c, u = .slice a l.length c ∧ RowZ w a l := by
  obtain ⟨a, c, rfl⟩ := owns_slice h
  exact ⟨a, c, rfl, owns_rowZ h⟩
theorem undrew {n : Nat} {a b : World} (h : Below n a.drew b) : Below n a b := ⟨h.os, h.tape, h.output, h.size, h.block⟩

set_option maxHeartbeats 1000000 in
theorem waits_any (M base : Nat) (v : Vs) (s : St) (hl : s.len ≤ 1000) (w : World) (hM : AtX w M base v s) : Calls Try.prog 12 #[.pointer (some ⟨M, 0, none⟩)] w fun e w' => Rows2 s.tw s.tr w e w' := by
  obtain ⟨_, _, c2, c3, _⟩ := hM.cells
  have hMl := hM.lt
  have HB := hide (fun W (k : Below w.heap.size w W) => clone_row (hM.below k).rb (St.lens hl).2.1)
  have HC := hide (fun W (k : Below w.heap.size w W) => clone_row (hM.below k).rc (St.lens hl).2.2)
  have HK : Hid (∀ W, Below w.heap.size w W → W.cell? ⟨M, 2, none⟩ = some v.b ∧ W.cell? ⟨M, 3, none⟩ = some v.c) := hide fun W k => ⟨(hM.below k).cells.2.2.1, (hM.below k).cells.2.2.2.1⟩
  clear hM
  go_enter Try.func12, Try.ntmps12
  go_wp2_with fail
  go_region_held3 (fun w' => w'.cell? ⟨M, 2, none⟩ = some v.b ∧ w'.cell? ⟨M, 3, none⟩ = some v.c) (first | (constructor <;> assumption) | go_keep) (first | (go_at_call 28; refine (HB.out _ ((Below.refl _ _).drew)).mono ?_; rintro e w3 ⟨u3, rfl, ho3, hb3⟩; have hb3' : Below w.heap.size w w3 := undrew hb3; obtain ⟨z2, z3⟩ := HK.out _ hb3') | (go_at_call 28; refine (HC.out _ hb3').mono ?_; rintro e w4 ⟨u4, rfl, ho4, hb4⟩; have hb4' : Below w.heap.size w w4 := below_next hb3' hb4; obtain ⟨y2, y3⟩ := HK.out _ hb4'))
  obtain ⟨a3, d3, rfl, hz3⟩ := owned_form ho3
  obtain ⟨a4, d4, rfl, hz4⟩ := owned_form ho4
  go_wp2
  go_ret2
  exact ⟨a3, d3, a4, d4, rfl, hz3.below hb4, hz4, hb4'⟩

set_option maxHeartbeats 1000000 in
theorem wrong_any (M base : Nat) (v : Vs) (s : St) (hl : s.len ≤ 1000) (t : Int) (w : World) (hM : AtX w M base v s) :
    Calls Try.prog 29 #[.pointer (some ⟨M, 0, none⟩), .int .i64 t] w fun e w' => e = .returned (.int .i64 (wrongE s t)) ∧ w' = w := by
  obtain ⟨c0, c1, c2, c3, _⟩ := hM.cells
  have F1 := contains_row hM.ra (St.lens hl).1 t
  have F2 := contains_row hM.rb (St.lens hl).2.1 t
  have F3 := contains_row hM.rc (St.lens hl).2.2 t
  clear hM
  unfold wrongE here
  by_cases h1 : t < 1
  · rw [if_pos h1]
    clear F1 F2 F3 c1 c2 c3 c0
    go_enter Try.func29, Try.ntmps29
    go_wp2
    go_ret
    exact ⟨rfl, rfl⟩
  · rw [if_neg h1]
    by_cases hw : t = s.w
    · rw [decide_eq_true hw, Bool.true_or, if_pos rfl]
      have hw' : (t == s.w) = true := by simpa using hw
      clear F1 F2 F3 c1 c2 c3 hw
      generalize s.w = X at *
      go_enter Try.func29, Try.ntmps29
      go_wp2
      go_ret
      exact ⟨rfl, rfl⟩
    · rw [decide_eq_false hw, Bool.false_or]
      have hw' : (t == s.w) = false := by simpa using hw
      clear hw
      generalize s.w = X at *
      cases hb1 : inZ s.rs t
      · rw [hb1] at F1
        have HF1 := hide F1
        cases hb2 : inZ s.tw t
        · rw [hb2] at F2
          have HF2 := hide F2
          cases hb3 : inZ s.tr t
          · rw [hb3] at F3
            have HF3 := hide F3
            rw [Bool.false_or, Bool.false_or, if_neg (by simp)]
            clear F1 F2 F3 hb1 hb2 hb3
            go_enter Try.func29, Try.ntmps29
            go_wp2_with fail
            refine HF1.out.mono ?_
            rintro e w2 ⟨rfl, hw2⟩
            subst hw2
            go_wp2_with fail
            refine HF2.out.mono ?_
            rintro e w3 ⟨rfl, hw3⟩
            subst hw3
            go_wp2_with fail
            refine HF3.out.mono ?_
            rintro e w4 ⟨rfl, hw4⟩
            subst hw4
            go_wp2
            go_ret
            exact ⟨rfl, rfl⟩
          · rw [hb3] at F3
            have HF3 := hide F3
            rw [Bool.false_or, Bool.false_or, if_pos rfl]
            clear F1 F2 F3 hb1 hb2 hb3
            go_enter Try.func29, Try.ntmps29
            go_wp2_with fail
            refine HF1.out.mono ?_
            rintro e w2 ⟨rfl, hw2⟩
            subst hw2
            go_wp2_with fail
            refine HF2.out.mono ?_
            rintro e w3 ⟨rfl, hw3⟩
            subst hw3
            go_wp2_with fail
            refine HF3.out.mono ?_
            rintro e w4 ⟨rfl, hw4⟩
            subst hw4
            go_wp2
            go_ret
            exact ⟨rfl, rfl⟩
        · rw [hb2] at F2
          have HF2 := hide F2
          rw [Bool.false_or, Bool.true_or, if_pos rfl]
          clear F1 F2 F3 hb1 hb2
          go_enter Try.func29, Try.ntmps29
          go_wp2_with fail
          refine HF1.out.mono ?_
          rintro e w2 ⟨rfl, hw2⟩
          subst hw2
          go_wp2_with fail
          refine HF2.out.mono ?_
          rintro e w3 ⟨rfl, hw3⟩
          subst hw3
          go_wp2
          go_ret
          exact ⟨rfl, rfl⟩
      · rw [hb1] at F1
        have HF1 := hide F1
        rw [Bool.true_or, if_pos rfl]
        clear F1 F2 F3 hb1
        go_enter Try.func29, Try.ntmps29
        go_wp2_with fail
        refine HF1.out.mono ?_
        rintro e w2 ⟨rfl, hw2⟩
        subst hw2
        go_wp2
        go_ret
        exact ⟨rfl, rfl⟩

/-- What is left where one may be taken out of a row. -/
def Took (M base i : Nat) (v : Value) (l : List Int) (t : Int) (w w' : World) : Prop :=
  (inZ l t = false ∧ w' = w) ∨ (inZ l t = true ∧ ∃ v' w3, w' = w3.setCell ⟨M, i, none⟩ v' ∧ Mov (fun j => v.ownBlock = some j) w w3 ∧ w3.ownsRow base 3 1 v' (rmZ l t).length (cZ (rmZ l t)) ∧ v'.ownBlock = v.ownBlock)

set_option maxHeartbeats 1000000 in
theorem take_any {cs : Array Value} {T : TypeId} (M base i : Nat) (v : Value) (l : List Int) (hl : l.length ≤ 1000) (hnd : l.Nodup) (t : Int) (w : World) (hbox : w.heap[M]? = some (.cells cs T (0, 0))) (hT : T ≠ 3) (hi : cs[i]? = some v) (ho : w.ownsRow base 3 1 v l.length (cZ l)) :
    Calls Try.prog 30 #[.pointer (some ⟨M, i, none⟩), .int .i64 t] w fun e w' => e = .returned (.bool (inZ l t)) ∧ Took M base i v l t w w' := by
  have F := index_row ho hl t
  have c1 : w.cell? ⟨M, i, none⟩ = some v := (Lib.cell_of_heap hbox i).trans hi
  have far : v.ownBlock ≠ some M := row_box ho hbox hT
  have HX := hide hbox
  have hMl : M < w.heap.size := (Array.getElem?_eq_some_iff.1 hbox).1
  clear hbox
  cases hb : inZ l t
  · rw [idx_out hb] at F
    have HF := hide F
    have HB := hide hb
    clear F hnd hb ho hl far hi
    go_enter Try.func30, Try.ntmps30
    go_wp2_with fail
    refine HF.out.mono ?_
    rintro e w2 ⟨rfl, hw2⟩
    subst hw2
    go_wp2
    go_ret
    exact ⟨rfl, Or.inl ⟨HB.out, rfl⟩⟩
  · obtain ⟨k, h1, h2, h3⟩ := idx_in hb
    rw [h2] at F
    have D := delete_row ho h1
    rw [← rm_erase hnd h1 h3] at D
    have HF := hide F
    have HD := hide D
    have HB := hide hb
    have hwr : IntKind.i64.wrap ((k : Int) + 1) = ((k + 1 : Nat) : Int) := by rw [wrapB (by omega)]; rfl
    clear F D hb hnd h2 h3 ho
    go_enter Try.func30, Try.ntmps30
    go_wp2_with fail
    refine HF.out.mono ?_
    rintro e w2 ⟨rfl, hw2⟩
    subst hw2
    go_wp2_with fail
    refine HD.out.mono ?_
    rintro e w3 ⟨v3, rfl, ho, hbl, hV⟩
    have hbox : w3.heap[M]? = some (.cells cs T (0, 0)) := (hV.block M hMl far).trans HX.out
    have hfr : w3.frozen? ⟨M, i, none⟩ = false := Lib.frozen_of_heap hbox i
    have hce : w3.cell? ⟨M, i, none⟩ = some v := (Lib.cell_of_heap hbox i).trans hi
    have HO := hide ho
    have HV := hide hV
    have HL := hide hbl
    obtain ⟨av', ac', rfl⟩ := owns_slice ho
    clear hbox ho hV hbl c1 hi far
    go_wp2
    go_ret
    exact ⟨rfl, Or.inr ⟨HB.out, _, w3, rfl, HV.out, HO.out, HL.out⟩⟩

theorem takeA (M base : Nat) (v : Vs) (s : St) (hl : s.len ≤ 1000) (hnd : s.rs.Nodup) (t : Int) (w : World) (hM : AtX w M base v s) :
    Calls Try.prog 30 #[.pointer (some ⟨M, 1, none⟩), .int .i64 t] w fun e w' => e = .returned (.bool (inZ s.rs t)) ∧ NowX M base v { s with rs := rmZ s.rs t } w w' := by
  refine (take_any M base 1 v.a s.rs (St.lens hl).1 hnd t w hM.box (by decide) rfl hM.ra).mono fun e w' ⟨q1, q2⟩ => ⟨q1, ?_⟩
  rcases q2 with ⟨q, rfl⟩ | ⟨_, v', w3, rfl, q3, q4, q5⟩
  · rw [rm_none q]; exact NowX.same hM (Below.refl _ _)
  · exact NowX.setA hM q3 q4 fun k hk => Or.inr (by rw [← q5]; exact hk)
theorem takeB (M base : Nat) (v : Vs) (s : St) (hl : s.len ≤ 1000) (hnd : s.tw.Nodup) (t : Int) (w : World) (hM : AtX w M base v s) :
    Calls Try.prog 30 #[.pointer (some ⟨M, 2, none⟩), .int .i64 t] w fun e w' => e = .returned (.bool (inZ s.tw t)) ∧ NowX M base v { s with tw := rmZ s.tw t } w w' := by
  refine (take_any M base 2 v.b s.tw (St.lens hl).2.1 hnd t w hM.box (by decide) rfl hM.rb).mono fun e w' ⟨q1, q2⟩ => ⟨q1, ?_⟩
  rcases q2 with ⟨q, rfl⟩ | ⟨_, v', w3, rfl, q3, q4, q5⟩
  · rw [rm_none q]; exact NowX.same hM (Below.refl _ _)
  · exact NowX.setB hM q3 q4 fun k hk => Or.inr (by rw [← q5]; exact hk)
theorem takeC (M base : Nat) (v : Vs) (s : St) (hl : s.len ≤ 1000) (hnd : s.tr.Nodup) (t : Int) (w : World) (hM : AtX w M base v s) :
    Calls Try.prog 30 #[.pointer (some ⟨M, 3, none⟩), .int .i64 t] w fun e w' => e = .returned (.bool (inZ s.tr t)) ∧ NowX M base v { s with tr := rmZ s.tr t } w w' := by
  refine (take_any M base 3 v.c s.tr (St.lens hl).2.2 hnd t w hM.box (by decide) rfl hM.rc).mono fun e w' ⟨q1, q2⟩ => ⟨q1, ?_⟩
  rcases q2 with ⟨q, rfl⟩ | ⟨_, v', w3, rfl, q3, q4, q5⟩
  · rw [rm_none q]; exact NowX.same hM (Below.refl _ _)
  · exact NowX.setC hM q3 q4 fun k hk => Or.inr (by rw [← q5]; exact hk)

end Go.Proofs.Ytggfndokmdpaeaa
