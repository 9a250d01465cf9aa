/-
  What the law RwDrops asks comes out true at any byte.
-/
import Derived.Test.YtggfndokmdpaeaaUp
import Derived.Deep.DeepCutAuto
namespace Go.Proofs.Ytggfndokmdpaeaa
open Go.RowKit

def sD (k : Nat) : St := ⟨0, [1], [2], upZ 10 k⟩
def sE (k : Nat) : St := ⟨0, 1 :: upZ 10 k, [], []⟩
theorem sD_len {k : Nat} (h : k ≤ 8) : (sD k).len ≤ 1000 := by
  show 1 + 1 + (upZ 10 k).length ≤ 1000
  rw [up_len]; omega
theorem sE_len {k : Nat} (h : k ≤ 8) : (sE k).len ≤ 1000 := by
  show (1 :: upZ 10 k).length + 0 + 0 ≤ 1000
  rw [List.length_cons, up_len]; omega
theorem sD_nds (k : Nat) : Nds (sD k) := ⟨by show [1].Nodup; simp, by show [2].Nodup; simp, up_nodup _ _⟩
theorem sE_nds (k : Nat) : Nds (sE k) := ⟨List.nodup_cons.2 ⟨fun h => by have := (up_mem _ _ _).1 h; omega, up_nodup _ _⟩, List.nodup_nil, List.nodup_nil⟩
theorem sD_rlock {k : Nat} {t : Int} (ht : t = 10 + (k : Int)) : readE 14 (sD k) t = 14 ∧ rlockS (sD k) t = sD (k + 1) := by
  have h1 : ¬ t < 1 := by omega
  have hh : here (sD k) t = false := by
    unfold here
    have a : decide (t = (sD k).w) = false := decide_eq_false (by show ¬ t = 0; omega)
    have b : inZ (sD k).rs t = false := inZ_false.2 (by show t ∉ [1]; simp; omega)
    have c : inZ (sD k).tw t = false := inZ_false.2 (by show t ∉ [2]; simp; omega)
    have d : inZ (sD k).tr t = false := up_out (by omega)
    rw [a, b, c, d]
    rfl
  have hw : wrongE (sD k) t = 0 := by unfold wrongE; rw [if_neg h1, hh]; rfl
  obtain ⟨e1, _, e3⟩ := readE_busy (E := 14) hw (Or.inr (by show [2] ≠ []; simp))
  refine ⟨e1, e3.trans ?_⟩
  show (⟨0, [1], [2], upZ 10 k ++ [t]⟩ : St) = ⟨0, [1], [2], upZ 10 (k + 1)⟩
  rw [up_snoc, ht]
theorem sD_drop (k : Nat) : dropB (sD k) 2 = true ∧ dropO (sD k) 2 = upZ 10 k ∧ dropS (sD k) 2 = sE k := by
  have b : dropB (sD k) 2 = true := rfl
  have l : lessD (sD k) 2 = ⟨0, [1], [], upZ 10 k⟩ := rfl
  refine ⟨b, ?_, ?_⟩
  · unfold dropO; rw [b, l]; rfl
  · unfold dropS; rw [b, l]; rfl
theorem sE_drop (k : Nat) : dropB (sE k) 2 = false ∧ dropO (sE k) 2 = [] ∧ dropS (sE k) 2 = sE k := by
  have b : dropB (sE k) 2 = false := rfl
  exact ⟨b, by unfold dropO; rw [b]; rfl, by unfold dropS; rw [b]; rfl⟩

/-- The program's, beside a row of the law's own. -/
def XW (W0 : World) (M : Nat) (s : St) (q : List Int) (v : Value) (w : World) : Prop :=
  Xs W0 M (fun k => v.ownBlock = some k) s w ∧ w.ownsRow W0.heap.size 3 1 v q.length (cZ q)
theorem XW.kept {W0 : World} {M : Nat} {s s2 : St} {q : List Int} {v : Value} {w w' : World} (h : XW W0 M s q v w) (k : Xs W0 M (fun k => v.ownBlock = some k) s2 w') (hk : Kept (fun k => v.ownBlock = some k) w w') : XW W0 M s2 q v w' :=
  ⟨k, owns_far h.2 fun j hj => hk.1 j hj⟩
theorem XW.app {W0 : World} {M : Nat} {s : St} {q : List Int} {v v' : Value} {t : Int} {w w3 : World} {o : Obj} (h : XW W0 M s q v w) (hg : (w.alloc o).grownBy w3 v.ownBlock) (ho : w3.ownsRow W0.heap.size 3 1 v' (q ++ [t]).length (cZ (q ++ [t]))) (hat : v'.ownBlock = v.ownBlock ∨ v'.ownBlock = some (w.heap.size + 1)) : XW W0 M s (q ++ [t]) v' w3 := by
  obtain ⟨⟨h1, ⟨x, h2, h3⟩, h4⟩, h5⟩ := h
  have hm := grown_mov hg
  refine ⟨⟨h1, ⟨x, h2.keep fun j hj => hm.block j (h2.mine_lt hj) (fun e => (h3 j e).2 hj), fun j hj => ⟨(ho.lt j hj).2, fun m => ?_⟩⟩, ?_⟩, ho⟩
  · rcases hat with e | e
    · exact (h3 j (e.symm.trans hj)).2 m
    · have e2 := Option.some.inj (e.symm.trans hj)
      have := h2.mine_lt m
      omega
  · exact (h4.alloc h4.size o).grown hg (by have := h4.size; simp; omega) (fun j hj => (h5.lt j hj).1)
theorem Xs.xw {W0 : World} {M : Nat} {s : St} {w : World} (h : Xs W0 M (fun _ => False) s w) : XW W0 M s [] (.slice (some ⟨w.heap.size, 0, none⟩) 0 0) (w.alloc (.cells #[] 3)) := by
  obtain ⟨h1, ⟨x, h2, h3⟩, h4⟩ := h
  refine ⟨⟨h1, ⟨x, h2.below (below1 _ _), fun j hj => ?_⟩, h4.alloc h4.size _⟩, owns_base (lit0 w) h4.size⟩
  have e : w.heap.size = j := by simpa [Value.ownBlock] using hj
  exact ⟨by rw [← e]; simp, fun m => by have := h2.mine_lt m; omega⟩

theorem x_readersB {W0 w : World} {M : Nat} {F : Nat → Prop} {s : St} (hl : s.len ≤ 1000) (h : Xs W0 M F s w) : Calls Try.prog 13 #[.pointer (some ⟨M, 0, none⟩)] w fun e w' => ∃ a c, e = .returned (.slice a s.rs.length c) ∧ RowZ w' a s.rs ∧ Below w.heap.size w w' := by
  obtain ⟨h1, ⟨v, h2, h3⟩, h4⟩ := h
  refine (readers_any M _ v s hl w h2).mono fun e w' k => ?_
  obtain ⟨r, rfl, k2, k3⟩ := k
  obtain ⟨a, c, rfl, hz⟩ := owned_form k2
  exact ⟨a, c, rfl, hz, k3⟩
theorem lit1 (w : World) (x : Int) : (w.alloc (.cells #[.int .i64 x] 3)).ownsRow w.heap.size 3 1 (.slice (some ⟨w.heap.size, 0, none⟩) 1 1) 1 (cZ [x]) := World.ownsRow_lit w #[.int .i64 x] 1 (Nat.le_refl _) (by unfold maxLen; omega) rfl
/-- .. of which there are k numbers. -/
def XK (W0 : World) (M : Nat) (s : St) (k : Nat) (a : Option Addr) (d : Nat) (w : World) : Prop :=
  Xs W0 M (fun j => (Value.slice a k d).ownBlock = some j) s w ∧ w.ownsRow W0.heap.size 3 1 (.slice a k d) k (cZ (upZ 10 k))
theorem XK.xw {W0 : World} {M : Nat} {s : St} {k : Nat} {a : Option Addr} {d : Nat} {w : World} (h : XK W0 M s k a d w) : XW W0 M s (upZ 10 k) (.slice a k d) w := ⟨h.1, by rw [up_len]; exact h.2⟩
theorem XW.xk {W0 : World} {M : Nat} {s : St} {k : Nat} {a : Option Addr} {d : Nat} {w : World} (h : XW W0 M s (upZ 10 k) (.slice a k d) w) : XK W0 M s k a d w := ⟨h.1, by have := h.2; rw [up_len] at this; exact this⟩
theorem up_wrap {k : Nat} (h : k ≤ 8) : wrap64 (10 + (k : Int)) = 10 + (k : Int) ∧ IntKind.i64.wrap (10 + (k : Int)) = 10 + (k : Int) := by
  refine ⟨by unfold wrap64; omega, wrapB (by omega)⟩

theorem wpList_append_za (w : World) {ops : Array Oper} {rest : List Oper} {o : Oper} {a : Act} {Q : Exit → Act → World → Prop} (hgd : Region.wanted o (yielded ops a.tmps) = true) (s x : Operand)
    (ho : o.op = .call { callee := .builtin .append, args := #[s, x], argTypes := #[35, 35] })
    (base : Nat) (v : Value) (n : Nat) (xs : List Int) (hs : a.eval s = v) (hown : w.ownsRow base 3 1 v n (cZ xs))
    (b : Option Addr) (m c : Nat) (ys : List Int) (hx : a.eval x = .slice b m c) (hm : ys.length = m) (hz : RowZ w b ys)
    (h63 : n + m ≤ 100000) (hbase : base ≤ w.heap.size)
    (h : ∀ ad' cap' w', w'.ownsRow base 3 1 (.slice ad' (n + m) cap') (n + m) (cZ (xs ++ ys)) → w.grownBy w' v.ownBlock → wpList Try.prog ops Q rest (a.put o.dst (.slice ad' (n + m) cap')) w') :
    wpList Try.prog ops Q (o :: rest) a w := by
  obtain ⟨ad', cap', w', hr, h2, h3, _⟩ := run_append_z w o.type base v n xs hown b c m ys hm hz h63 hbase
  refine wpList_step fun K hK => ?_
  rw [if_pos hgd]
  unfold Oper.wp execOp
  simp only [ho, resolve, invoke, builtin, Sem.run_bind, Sem.run_pure, Result.andThen_ok, List.map_toArray, List.map_cons, List.map_nil, hs, hx, hr]
  exact hK _ _ (h ad' cap' w' h2 h3)

set_option maxRecDepth 20000 in
set_option maxHeartbeats 8000000 in
theorem drops_walk (x : Int) (hx : 0 ≤ x ∧ x ≤ 255) (w : World) : Calls Try.prog 6 #[.int .u8 x] w fun e w' => e = .returned (.bool true) ∧ Below w.heap.size w w' := by
  obtain ⟨i3, hi, hz0, hz1, hz2⟩ := info_parts info3
  obtain ⟨m, hm, hm8, hm3, hm64⟩ := u8_mod hx 8 (by omega) (by omega)
  have HM : Hid (x.tmod 8 = (m : Int) ∧ wrap64 (m : Int) = (m : Int)) := ⟨hm, hm64⟩
  clear hm hm3 hm64
  have N0 := hide (x_new (w := w))
  have T1 : Hid (∀ M W, Xs w M (fun _ => False) St.nil W → Calls Try.prog 16 #[.pointer (some ⟨M, 0, none⟩), .int .i64 1] W fun e w' => e = .returned (.int .i64 0) ∧ Xs w M (fun _ => False) sA1 w' ∧ Kept (fun _ => False) W w') := fun M W h =>
    x_rlock (by decide) 1 h
  have T2 : Hid (∀ M W, Xs w M (fun _ => False) sA1 W → Calls Try.prog 15 #[.pointer (some ⟨M, 0, none⟩), .int .i64 2] W fun e w' => e = .returned (.int .i64 14) ∧ Xs w M (fun _ => False) (sD 0) w' ∧ Kept (fun _ => False) W w') := fun M W h =>
    x_lock (by decide) 2 h
  go_enter Try.func6, Try.ntmps6
  go_wp2_with fail
  refine N0.out.mono ?_
  rintro e w1 ⟨rfl, hA⟩
  have HA := hide hA
  clear hA N0
  obtain ⟨M, hMe⟩ : ∃ M, M = w.heap.size := ⟨_, rfl⟩
  rw [← hMe] at HA ⊢
  clear hMe
  go_wp2_with fail
  refine (T1.out _ _ HA.out).mono ?_
  rintro e w2 ⟨rfl, hA, _⟩
  have HA2 := hide hA
  clear hA T1 HA
  go_wp2_with fail
  refine (T2.out _ _ HA2.out).mono ?_
  rintro e w3 ⟨rfl, hA, _⟩
  have HX0 := hide (Xs.xw hA)
  have hz3 := hA.size
  clear hA T2 HA2
  go_wp2_with fail
  have HX1 : Hid (XK w M (sD 0) 0 (some ⟨w3.heap.size, 0, none⟩) 0 (w3.alloc (.cells #[] 3))) := hide (XW.xk HX0.out)
  clear HX0
  go_loopw [6, 7] (fun v i wr => ∃ k : Nat, ∃ a d, i = .int .i64 k ∧ k ≤ m ∧ v = .slice a k d ∧ Hid (XK w M (sD k) k a d wr)) (fun _ i _ => m - (intOf i).toNat)
  case atStart => exact ⟨0, _, _, rfl, by omega, rfl, HX1⟩
  case round =>
    clear HX1 hz3
    obtain ⟨k, a, d, rfl, hk, rfl, HX⟩ := hrel
    by_cases hlt : k < m
    · have i1 : (k : Int) < (m : Int) := by omega
      obtain ⟨e1, e2⟩ := sD_rlock (k := k) rfl
      have L := x_rlock (sD_len (k := k) (by omega)) (10 + (k : Int)) HX.out.1
      rw [e1, e2] at L
      have HL := hide L
      have hk8 : k ≤ 8 := by omega
      have b1 : k + 1 ≤ maxLen := by unfold maxLen; omega
      have b2 : (k + 1) * 8 ≤ 140737488355328 := by omega
      have HUW := hide (up_wrap hk8)
      have HUP : Hid (upZ 10 (k + 1) = upZ 10 k ++ [10 + (k : Int)]) := up_snoc 10 k
      have hbn : w.heap.size ≤ wr.heap.size := HX.out.1.size
      obtain ⟨hm1, hm2⟩ := HM.out
      obtain ⟨hw1, hw2⟩ := HUW.out
      clear L e1 e2
      go_wp2_with fail
      refine HL.out.mono ?_
      rintro e w4 ⟨rfl, hx4, hk4⟩
      have HX4 := hide (XW.kept HX.out.xw hx4 hk4)
      have hR : w4.ownsRow w.heap.size 3 1 (.slice a k d) k (cZ (upZ 10 k)) := by have := HX4.out.2; rw [up_len] at this; exact this
      have hz4 := hx4.size
      clear hx4 hk4 HL HX hm1 hm2
      go_wp2_with (at_builtin; refine wpList_append_own_at _ rfl _ _ 35 rfl w.heap.size 3 i3 (.int .i64 0) 1 8 Try.underlying35 hi hz0 hz1 hz2 rfl (by decide) _ _ _ rfl (hR.alloc _) ⟨w4.heap.size, 0, none⟩ 1 1 [.int .i64 (10 + (k : Int))] rfl rfl (newsI (by simp [go_sem])) (onesI _) b1 b2 (by clear hw1 hw2; simp; omega) ?_)
      intro v' w5 hown hgrow _ hat
      obtain ⟨av', ac', rfl⟩ := owns_slice hown
      have HX5 : Hid (XK w M (sD (k + 1)) (k + 1) av' ac' w5) := hide (XW.xk (by
        rw [HUP.out]
        exact XW.app HX4.out hgrow (by rw [List.length_append, up_len, cZ_snoc]; exact hown) (by simpa using hat)))
      clear hown hgrow hat hR HX4 HUP hw1 hw2 hz4
      go_wp2_with fail
      go_roundw
      case rel => exact ⟨k + 1, av', ac', by go_num, by omega, rfl, HX5⟩
      case measure => simp [intOf]; omega
    · have ek : m ≤ k := by omega
      have i1 : ¬ (k : Int) < (m : Int) := by omega
      have hk8 : k ≤ 7 := by omega
      obtain ⟨f1, f2, f3⟩ := sD_drop k
      obtain ⟨g1, g2, g3⟩ := sE_drop k
      have D1 := x_drop (sD_len (k := k) (by omega)) (sD_nds k) 2 HX.out.1
      rw [f1, f2, f3, up_len] at D1
      have HD1 := hide D1
      have HD2 : Hid (∀ F W, Xs w M F (sE k) W → Calls Try.prog 21 #[.pointer (some ⟨M, 0, none⟩), .int .i64 2] W fun e w' => ∃ a c, e = .returned (.tuple #[.slice a 0 c, .bool false]) ∧ Xs w M F (sE k) w' ∧ Kept F W w') := hide fun F W h => by
        have := x_drop (sE_len (k := k) (by omega)) (sE_nds k) 2 h
        rw [g1, g2, g3] at this
        refine this.mono fun e w' q => ?_
        obtain ⟨a, c, q1, _, q3, q4⟩ := q
        exact ⟨a, c, q1, q3.mono fun i hi => Or.inl hi, q4⟩
      have HD3 : Hid (∀ F W, Xs w M F (sE k) W → Calls Try.prog 13 #[.pointer (some ⟨M, 0, none⟩)] W fun e w' => ∃ a c, e = .returned (.slice a (k + 1) c) ∧ RowZ w' a (1 :: upZ 10 k) ∧ Below W.heap.size W w') := hide fun F W h => by
        have := x_readersB (sE_len (k := k) (by omega)) h
        have e : (sE k).rs.length = k + 1 := by show (1 :: upZ 10 k).length = k + 1; rw [List.length_cons, up_len]
        rw [e] at this
        exact this
      have HOW := hide HX.out.2
      obtain ⟨hm1, hm2⟩ := HM.out
      have HUL : Hid ((upZ 10 k).length = k) := up_len 10 k
      clear f1 f2 f3 g1 g2 g3 D1 HX
      go_wp2_with fail
      clear hm1 hm2 i1 hlt hk ek
      refine HD1.out.mono ?_
      rintro e w4 ⟨a4, c4, rfl, hr4, hx4, hk4⟩
      have HX4 := hide hx4
      have HR4 := hide hr4
      have HO4 := hide (owns_far HOW.out fun j hj => hk4.1 j hj)
      clear hr4 hx4 hk4 HD1 HOW
      go_wp2_with fail
      refine (HD2.out _ _ HX4.out).mono ?_
      rintro e w5 ⟨a5, c5, rfl, hx5, hk5⟩
      have HX5 := hide hx5
      have HR5 := hide (HR4.out.kept hk5).row
      have HO5 := hide (owns_far HO4.out fun j hj => hk5.1 j (Or.inl hj))
      clear hx5 hk5 HX4 HR4 HO4 HD2
      go_wp2_with fail
      refine (awake_any _).mono ?_
      rintro e w6 ⟨rfl, hb6⟩
      have HX6 := hide (HX5.out.below hb6)
      have HO6 := hide (owns_below HO5.out hb6)
      have hz6 : RowZ w6 a (upZ 10 k) := owns_rowZ (a := a) (c := d) (l := upZ 10 k) (by rw [HUL.out]; exact HO6.out)
      have HZ6 := hide hz6
      have HI : Hid (Calls Try.prog 20 #[.slice a4 k c4, .slice a k d] w6 fun e w' => e = .returned (.bool true) ∧ Below w6.heap.size w6 w') := hide (by
        have := same_ints a4 a c4 d (upZ 10 k) w6 (by rw [up_len]; omega) (HR5.out.below hb6) hz6
        rw [up_len] at this
        exact this)
      clear hb6 HX5 HR5 HO5 hz6 HO6
      go_wp2_with fail
      refine HI.out.mono ?_
      rintro e w7 ⟨rfl, hb7⟩
      have HX7 := hide (HX6.out.below hb7)
      have HZ7 := hide (HZ6.out.below hb7)
      clear hb7 HX6 HZ6 HI
      go_wp2_with fail
      refine (HD3.out _ _ HX7.out).mono ?_
      rintro e w8 ⟨a8, c8, rfl, hz8, hb8⟩
      have HX8 := hide (HX7.out.below hb8)
      have HZ7b := hide (HZ7.out.below hb8)
      have HZ8 := hide hz8
      have hl1 := lit1 w8 1
      have hbl := below1 w8 (.cells #[.int .i64 1] 3)
      clear hz8 hb8 HX7 HZ7 HD3
      go_wp2_with (at_builtin; refine wpList_append_za _ (by rfl) _ _ rfl w8.heap.size _ 1 [1] rfl hl1 a k d (upZ 10 k) rfl HUL.out (HZ7b.out.below hbl) (by omega) (by simp) ?_)
      intro a9 c9 w9 ho9 hg9
      have hb9 : Below w8.heap.size w8 w9 := hbl.grown hg9 hbl.size (fun j hj => (hl1.lt j hj).1)
      have HX9 := hide (HX8.out.below hb9)
      have hln : (1 :: upZ 10 k).length = k + 1 := by rw [List.length_cons, up_len]
      have HI9 : Hid (Calls Try.prog 20 #[.slice a8 (k + 1) c8, .slice a9 (1 + k) c9] w9 fun e w' => e = .returned (.bool true) ∧ Below w9.heap.size w9 w') := hide (by
        have e1 : (1 + k : Nat) = k + 1 := by omega
        rw [e1] at ho9 ⊢
        have hz9 : RowZ w9 a9 (1 :: upZ 10 k) := owns_rowZ (a := a9) (c := c9) (l := 1 :: upZ 10 k) (by rw [hln]; exact ho9)
        have := same_ints a8 a9 c8 c9 (1 :: upZ 10 k) w9 (by rw [hln]; omega) (HZ8.out.below hb9) hz9
        rw [hln] at this
        exact this)
      clear ho9 hg9 hb9 HX8 HZ8 HZ7b hl1 hbl hln HUL
      go_wp2_with fail
      refine HI9.out.mono ?_
      rintro e w10 ⟨rfl, hb10⟩
      have HX10 := hide (HX9.out.below hb10)
      clear HI9 HX9 hb10
      go_wp2
      go_ret
      exact ⟨rfl, HX10.out.2.2⟩

end Go.Proofs.Ytggfndokmdpaeaa
