/-
  What the document's calls come to.
-/
import Derived.Test.YtkjiompjfolipaaApp
import Derived.Test.YtkjiompjfolipaaFun
namespace Go.Proofs.Ytkjiompjfolipaa
open Go.RowKit

theorem grown_mov {w w3 : World} {o : Obj} {b : Option Nat} (hg : (w.alloc o).grownBy w3 b) : Mov (fun j => b = some j) w w3 := by
  have hA : Below w.heap.size w (w.alloc o) := (Below.refl _ _).alloc (Nat.le_refl _) _
  exact ⟨hg.os.trans hA.os, hg.tape.trans hA.tape, hg.output.trans hA.output, Nat.le_trans hA.size hg.size, fun k hk hS =>
    (hg.block k (Nat.lt_of_lt_of_le hk hA.size) (fun e => hS e.symm)).trans (hA.block k hk)⟩
theorem one_z {W : World} {g : Nat} {t : Int} (hg : g < W.heap.size) (h : W.cell? ⟨g, 0, none⟩ = some (.int .i64 t)) : RowZ W (some ⟨g, 0, none⟩) [t] := fun _ => ⟨g, 0, rfl, hg, fun k hk => by
  obtain rfl : k = 0 := by simp at hk; omega
  exact h⟩
theorem wpList_append_zo (w : World) {ops : Array Oper} {rest : List Oper} {o : Oper} {a : Act} {Q : Exit → Act → World → Prop} (hgd : o.guard = none) (s x : Operand)
    (ho : o.op = .call { callee := .builtin .append, args := #[s, x], argTypes := #[37, 37] })
    (base : Nat) (v : Value) (n : Nat) (xs : List Int) (hs : a.eval s = v) (hown : w.ownsRow base 3 1 v n (cZ xs))
    (b : Option Addr) (m c : Nat) (ys : List Int) (hx : a.eval x = .slice b m c) (hm : ys.length = m) (hz : RowZ w b ys)
    (h63 : n + m ≤ 100000) (hbase : base ≤ w.heap.size)
    (h : ∀ ad' cap' w', w'.ownsRow base 3 1 (.slice ad' (n + m) cap') (n + m) (cZ (xs ++ ys)) → w.grownBy w' v.ownBlock → ((Value.slice ad' (n + m) cap').ownBlock = v.ownBlock ∨ (Value.slice ad' (n + m) cap').ownBlock = some w.heap.size) → wpList Try.prog ops Q rest (a.put o.dst (.slice ad' (n + m) cap')) w') :
    wpList Try.prog ops Q (o :: rest) a w := by
  obtain ⟨ad', cap', w', hr, h2, h3, h4⟩ := run_append_z w o.type base v n xs hown b c m ys hm hz h63 hbase
  refine wpList_plain hgd fun K hK' => ?_
  unfold Oper.wp execOp
  simp only [ho, resolve, invoke, builtin, Sem.run_bind, Sem.run_pure, Result.andThen_ok, List.map_toArray, List.map_cons, List.map_nil, hs, hx, hr]
  exact hK' _ _ (h ad' cap' w' h2 h3 h4)

set_option maxHeartbeats 1000000 in
theorem refNew_any (n : Int) (w : World) : Calls Try.prog 9 #[.int .i64 n] w fun e w' => e = .returned (.pointer (some ⟨w.heap.size, 0, none⟩)) ∧ (∃ u, AtR w' w.heap.size w.heap.size u (ps0 (cut8 n))) ∧ Below w.heap.size w w' := by
  have HE := cut8_eq n
  have fin : ∀ N : Nat, (∃ u, AtR (w.alloc (.cells #[.slice none 0 0, .int .i64 (N : Int)] 39)) w.heap.size w.heap.size u (ps0 N)) ∧ Below w.heap.size w (w.alloc (.cells #[.slice none 0 0, .int .i64 (N : Int)] 39)) := fun N =>
    ⟨⟨.slice none 0 0, heap_alloc_new w _, World.ownsRow_nil _ _ _ _⟩, below1 _ _⟩
  have HF := hide (fin (cut8 n))
  clear fin
  by_cases h1 : n < 1
  · rw [show ((cut8 n : Nat) : Int) = 1 by omega] at HF
    generalize cut8 n = N at *
    clear HE
    go_enter Try.func9, Try.ntmps9
    go_wp2
    go_ret
    exact ⟨rfl, HF.out⟩
  · by_cases h2 : 8 < n
    · rw [show ((cut8 n : Nat) : Int) = 8 by omega] at HF
      generalize cut8 n = N at *
      clear HE
      go_enter Try.func9, Try.ntmps9
      go_wp2
      go_ret
      exact ⟨rfl, HF.out⟩
    · rw [show ((cut8 n : Nat) : Int) = n by omega] at HF
      generalize cut8 n = N at *
      clear HE
      go_enter Try.func9, Try.ntmps9
      go_wp2
      go_ret
      exact ⟨rfl, HF.out⟩

set_option maxHeartbeats 1000000 in
theorem refSend_any (R base : Nat) (u : Value) (s : Ps) (hl : s.l.length ≤ 1000) (v : Int) (w : World) (hR : AtR w R base u s) (hbs : base ≤ w.heap.size) :
    Calls Try.prog 10 #[.pointer (some ⟨R, 0, none⟩), .int .i64 v] w fun e w' => e = .returned (.tuple #[]) ∧ NowR R base u (s.snd v) w w' := by
  obtain ⟨c0, _, cf⟩ := hR.cells
  have HR := hide hR
  have hRl := hR.lt
  have HO := hide hR.row
  obtain ⟨a0, cc, hv⟩ := owns_slice hR.row
  subst hv
  have HN : Hid (∀ w5 u', (w.alloc (.cells #[.int .i64 v] 3)).grownBy w5 (Value.slice a0 s.l.length cc).ownBlock → w5.ownsRow base 3 1 u' (s.l.length + 1) (cZ (s.l ++ [v])) → (u'.ownBlock = (Value.slice a0 s.l.length cc).ownBlock ∨ u'.ownBlock = some (w.heap.size + 1)) →
      w5.cell? ⟨R, 0, none⟩ = some (.slice a0 s.l.length cc) ∧ w5.frozen? ⟨R, 0, none⟩ = false ∧ NowR R base (.slice a0 s.l.length cc) (s.snd v) w (w5.setCell ⟨R, 0, none⟩ u')) := hide fun w5 u' hg ho hu => by
    have hm := grown_mov hg
    have hfar := HR.out.far
    have hkR : w5.heap[R]? = w.heap[R]? := hm.block R hRl fun e => hfar e
    have hbox : w5.heap[R]? = some _ := hkR.trans HR.out.box
    refine ⟨Lib.cell_of_heap hbox 0, Lib.frozen_of_heap hbox 0, u', ?_, ?_, ?_⟩
    · refine ⟨?_, ?_⟩
      · exact Lib.heap_setCell_same hbox u'
      · have ho' : w5.ownsRow base 3 1 u' (s.snd v).l.length (cZ (s.snd v).l) := by simpa [Ps.snd] using ho
        exact owns_far ho' fun k hk => Below.heap_setCell _ _ _ _ (fun e => row_box ho' hbox (by decide) (by rw [hk]; exact congrArg some e))
    · exact ⟨hm.os, hm.tape, hm.output, by simpa using hm.size, fun k hk hS => (Below.heap_setCell w5 ⟨R, 0, none⟩ u' k (fun e => hS (Or.inl e))).trans (hm.block k hk fun e => hS (Or.inr e))⟩
    · intro k hk
      rcases hu with e | e
      · exact Or.inr (by rw [← e]; exact hk)
      · rw [e] at hk
        injection hk with hk
        subst hk
        exact Or.inl (by omega)
  clear hR cf
  go_enter Try.func10, Try.ntmps10
  go_wp2_with (at_builtin; refine wpList_append_zo _ rfl _ _ rfl base _ s.l.length s.l rfl (HO.out.alloc _) (some ⟨w.heap.size, 0, none⟩) 1 1 [v] rfl rfl (one_z (by simp) (by simp)) (by omega) (by simp; omega) ?_)
  intro a5 c5 w5 ho5 hg5 hu5
  obtain ⟨d0, df, hn⟩ := HN.out w5 _ hg5 ho5 hu5
  have HF := hide hn
  clear hn ho5 hg5 hu5 HN HO HR c0
  go_wp2
  go_end0
  exact ⟨rfl, HF.out⟩

set_option maxHeartbeats 1000000 in
theorem refRecv_low (R n : Nat) (x : Int) (a0 : Option Addr) (cc : Nat) (w : World) (c0 : w.cell? ⟨R, 0, none⟩ = some (.slice a0 n cc)) (hx : x < 0 ∨ (¬ x < 0 ∧ (n : Int) < x)) :
    Calls Try.prog 13 #[.pointer (some ⟨R, 0, none⟩), .int .i64 x] w fun e w' => e = .returned (.tuple #[.int .i64 0, .int .i64 0, .int .i64 0, .int .i64 1]) ∧ w' = w := by
  rcases hx with h | ⟨h1, h2⟩
  · go_enter Try.func13, Try.ntmps13
    go_wp2
    (try simp only [Exit.inBlock, Exit.then]); refine bodyPost_ret (results_tmp4 rfl _ _ _) rfl ?_
    exact ⟨rfl, rfl⟩
  · go_enter Try.func13, Try.ntmps13
    go_wp2
    (try simp only [Exit.inBlock, Exit.then]); refine bodyPost_ret (results_tmp4 rfl _ _ _) rfl ?_
    exact ⟨rfl, rfl⟩

set_option maxHeartbeats 1000000 in
theorem refRecv_end (R n : Nat) (a0 : Option Addr) (cc : Nat) (w : World) (c0 : w.cell? ⟨R, 0, none⟩ = some (.slice a0 n cc)) :
    Calls Try.prog 13 #[.pointer (some ⟨R, 0, none⟩), .int .i64 (n : Int)] w fun e w' => e = .returned (.tuple #[.int .i64 0, .int .i64 0, .int .i64 (n : Int), .int .i64 18]) ∧ w' = w := by
  have h1 : ¬ (n : Int) < 0 := by omega
  have h2 : ¬ (n : Int) < (n : Int) := by omega
  go_enter Try.func13, Try.ntmps13
  go_wp2_with fail
  go_loopw [8] (fun v8 wr => v8 = .int .i64 (n : Int) ∧ wr = w) (fun _ _ => 0)
  case atStart => exact ⟨rfl, rfl⟩
  case round =>
    obtain ⟨rfl, rfl⟩ := hrel
    go_wp2
    (try simp only [Exit.inBlock, Exit.then]); refine bodyPost_ret (results_tmp4 rfl _ _ _) rfl ?_
    exact ⟨rfl, rfl⟩

set_option maxHeartbeats 4000000 in
theorem refRecv_in (R n K j f g cc : Nat) (V : Int) (hK : 1 ≤ K ∧ K ≤ 8) (hl : n ≤ 1000) (hj : j < n) (hf : f = max j (n - K)) (w : World) (hRl : R < w.heap.size) (hgl : g < w.heap.size)
    (c0 : w.cell? ⟨R, 0, none⟩ = some (.slice (some ⟨g, 0, none⟩) n cc)) (c1 : w.cell? ⟨R, 1, none⟩ = some (.int .i64 (K : Int))) (cv : w.cell? ⟨g, f, none⟩ = some (.int .i64 V)) :
    Calls Try.prog 13 #[.pointer (some ⟨R, 0, none⟩), .int .i64 (j : Int)] w fun e w' => e = .returned (.tuple #[.int .i64 V, .int .i64 ((f : Int) - (j : Int)), .int .i64 ((f : Int) + 1), .int .i64 0]) ∧ Below w.heap.size w w' := by
  have hfj : j ≤ f ∧ f < n := by omega
  have h1 : ¬ (j : Int) < 0 := by omega
  have h2 : ¬ (n : Int) < (j : Int) := by omega
  have HF := hide hf
  clear hf
  go_enter Try.func13, Try.ntmps13
  go_wp2_with fail
  go_loopw [8] (fun v8 wr => ∃ i : Nat, v8 = .int .i64 (i : Int) ∧ j ≤ i ∧ i ≤ f ∧ Hid (Below w.heap.size w wr)) (fun v8 _ => f + 1 - (intOf v8).toNat)
  case atStart => exact ⟨j, rfl, by omega, by omega, hide (Below.refl _ _)⟩
  case round =>
    obtain ⟨i, rfl, hi1, hi2, HB⟩ := hrel
    have d0 := ((bcell HB.out).1 R 0 hRl).trans c0
    have d1 := ((bcell HB.out).1 R 1 hRl).trans c1
    have dv := ((bcell HB.out).1 g f hgl).trans cv
    have i1 : (i : Int) < (n : Int) := by omega
    have i0 : (0 : Int) ≤ (i : Int) := by omega
    clear c0 c1 cv
    by_cases q : n ≤ i + K
    · have e : i = f := by have := HF.out; omega
      subst e
      have q1 : (n : Int) ≤ (i : Int) + (K : Int) := by omega
      clear HF
      go_wp2_with fail
      go_quiet (fail)
      have hbW : Below w.heap.size w (wr.drewN nq) := below_next HB.out (below_drewN _ _)
      have hb2 : Below wr.heap.size wr (wr.drewN nq) := below_drewN _ _
      have hRl2 := Nat.lt_of_lt_of_le hRl HB.out.size
      have hgl2 := Nat.lt_of_lt_of_le hgl HB.out.size
      generalize wr.drewN nq = w3 at hbW hb2 ⊢
      have b0 := ((bcell hb2).1 R 0 hRl2).trans d0
      have bv := ((bcell hb2).1 g i hgl2).trans dv
      clear d0 d1 dv hb2
      go_wp2
      (try simp only [Exit.inBlock, Exit.then]); refine bodyPost_ret (results_tmp4 rfl _ _ _) rfl ?_
      exact ⟨rfl, hbW⟩
    · have q1 : ¬ (n : Int) ≤ (i : Int) + (K : Int) := by omega
      have q2 : i < f := by have := HF.out; omega
      go_wp2_with fail
      go_quiet (fail)
      have HB2 := hide (below_next HB.out (below_drewN wr nq))
      generalize wr.drewN nq = w3 at HB2 ⊢
      clear d0 d1 dv HF
      go_wp2_with fail
      go_roundw
      case rel => exact ⟨i + 1, by go_num, by omega, by omega, HB2⟩
      case measure => simp [intOf]; omega

theorem refRecv_any (R base : Nat) (u : Value) (s : Ps) (hO : Okp s) (hl : s.l.length ≤ 1000) (x : Int) (w : World) (hR : AtR w R base u s) :
    Calls Try.prog 13 #[.pointer (some ⟨R, 0, none⟩), .int .i64 x] w fun e w' => e = .returned (.tuple #[.int .i64 (rcvV s x), .int .i64 (rcvL s x), .int .i64 (rcvA s x), .int .i64 (rcvE s x)]) ∧ Below w.heap.size w w' := by
  obtain ⟨c0, c1, _⟩ := hR.cells
  cases hb : inP s x
  · obtain ⟨a0, cc, hv⟩ := owns_slice hR.row
    subst hv
    by_cases h3 : x = (s.l.length : Int)
    · obtain ⟨e1, e2, e3, e4⟩ := rcv_end h3
      rw [e1, e2, e3, e4]
      subst h3
      exact (refRecv_end R _ a0 cc w c0).mono fun _ _ k => ⟨k.1, by rw [k.2]; exact Below.refl _ _⟩
    · have h4 := in_no hb
      obtain ⟨e1, e2, e3, e4⟩ := rcv_no (s := s) (x := x) (by omega)
      rw [e1, e2, e3, e4]
      exact (refRecv_low R _ x a0 cc w c0 (by omega)).mono fun _ _ k => ⟨k.1, by rw [k.2]; exact Below.refl _ _⟩
  · obtain ⟨e1, e2, e3, e4⟩ := rcv_yes hb
    rw [e1, e2, e3, e4]
    obtain ⟨j, rfl, hj, hF⟩ := in_yes hb
    have hfl : rcvF s (j : Int) < s.l.length := by have := hO.1; omega
    obtain ⟨g, cc, rfl, _, hgl, hc, _⟩ := row_open hR.row (by omega)
    exact refRecv_in R _ s.k j (rcvF s (j : Int)) g cc _ hO hl hj hF w hR.lt hgl c0 c1 (hc _ hfl).1

end Go.Proofs.Ytkjiompjfolipaa
