/-
  What policy.Print comes to: the text of a policy that may be, or why it may not.
-/
import Derived.Test.YtmhjoomkeidcaaaDoorPText
import Derived.Deep.RegionHeld3
namespace Go.Proofs.YtmhjoomkeidcaaaDoor
open Go.RowKit L2

/-- Where Print stands: what is gathered so far. -/
structure PrAt (w1 : World) (acc : List UInt8) (wr : World) : Prop where
  bld : Lib.IsBuilderF 78 5 w1.heap.size w1.heap.size (Lib.byteCells acc) wr
  below : Below w1.heap.size w1 wr
  size : w1.heap.size ≤ wr.heap.size
theorem PrAt.next {w1 wr w' : World} {acc : List UInt8} (h : PrAt w1 acc wr) (k : Below wr.heap.size wr w') : PrAt w1 acc w' :=
  ⟨builder_below h.bld k, h.below.trans (k.mono h.size), Nat.le_trans h.size k.size⟩
theorem PrAt.write {w1 wr w' : World} {acc t : List UInt8} (h : PrAt w1 acc wr) (k : Lib.BuilderAtF 78 5 w1.heap.size w1.heap.size (.pointer (some ⟨w1.heap.size, 0, none⟩)) (Lib.byteCells acc ++ Lib.strCells ⟨t.toArray⟩) w' ∧ Below w1.heap.size wr w' ∧ Lib.OthersKept 5 (some w1.heap.size) wr w') : PrAt w1 (acc ++ t) w' :=
  ⟨by rw [Lib.byteCells_append, ← strCells_bytes t]; exact Or.inr k.1, h.below.trans k.2.1, Nat.le_trans h.size k.2.1.size⟩
theorem PrAt.writes {w1 wr : World} {acc t : List UInt8} (h : PrAt w1 acc wr) (hl : acc.length + t.length ≤ 100000) :
    Calls Tryd.prog 38 #[.pointer (some ⟨w1.heap.size, 0, none⟩), .string ⟨t.toArray⟩] wr fun e w' => (∃ v, e = .returned (.tuple #[v, .nilIface])) ∧ PrAt w1 (acc ++ t) w' ∧ Below w1.heap.size wr w' ∧ Lib.OthersKept 5 (some w1.heap.size) wr w' :=
  (writeString w1.heap.size w1.heap.size _ ⟨t.toArray⟩ wr h.bld (by
    rw [Lib.byteCells_length]
    show acc.length + t.toArray.size ≤ _
    rw [List.size_toArray]; omega) h.size).mono fun e w' ⟨he, hk⟩ => ⟨⟨_, he⟩, h.write hk, hk.2.1, hk.2.2⟩

theorem print_check {p : Pol} (h : checkOf p ≠ 0) : printOf p = ([], checkOf p) := if_neg h
theorem print_text {p : Pol} (h : checkOf p = 0) : printOf p = (polText p, 0) := if_pos h

/-- Words and numbers that were just laid, as printRow takes them. -/
theorem laid_words {w : World} (xs : List ByteArray) (ns : List Nat) (hx : xs.length ≤ 100) :
    ((w.alloc (.cells (cT xs).toArray 9)).alloc (.cells (ns.map fun n : Nat => Value.int .i64 (n : Int)).toArray 3)).ownsRow w.heap.size 9 1 (.slice (some ⟨w.heap.size, 0, none⟩) xs.length xs.length) xs.length (cT xs) :=
  (World.ownsRow_lit (base := w.heap.size) (e := 9) (size := 1) w (cT xs).toArray xs.length (Nat.le_refl _) (by unfold maxLen; omega) (by simp [cT])).alloc _

theorem laid_words2 {w : World} (xs : List ByteArray) (ns : List Nat) (hx : xs.length ≤ 100) :
    ((w.alloc (.cells (ns.map fun n : Nat => Value.int .i64 (n : Int)).toArray 3)).alloc (.cells (cT xs).toArray 9)).ownsRow w.heap.size 9 1 (.slice (some ⟨w.heap.size + 1, 0, none⟩) xs.length xs.length) xs.length (cT xs) := by
  have := World.ownsRow_lit (base := w.heap.size) (e := 9) (size := 1) (w.alloc (.cells (ns.map fun n : Nat => Value.int .i64 (n : Int)).toArray 3)) (cT xs).toArray xs.length (by simp) (by unfold maxLen; omega) (by simp [cT])
  rwa [show (w.alloc (.cells (ns.map fun n : Nat => Value.int .i64 (n : Int)).toArray 3)).heap.size = w.heap.size + 1 by simp] at this
theorem PrAt.lt {w1 wr : World} {acc : List UInt8} (h : PrAt w1 acc wr) : w1.heap.size < wr.heap.size := by
  rcases h.bld with h | h <;> exact h.lt
/-- Behind a call that was handed two new lists: what lay ahead of them stays, and what was laid just ahead of them. -/
theorem laid_keep {wr w3 : World} {s o1 o2 : Obj} (hb : Below (wr.alloc s).heap.size (((wr.alloc s).alloc o1).alloc o2).drew w3) : Below wr.heap.size wr w3 ∧ w3.heap[wr.heap.size]? = some s := by
  have h1 : Below wr.heap.size wr (((wr.alloc s).alloc o1).alloc o2).drew := (below3 wr s o1 o2).drew
  refine ⟨h1.trans (hb.mono (by simp)), (hb.block wr.heap.size (by simp)).trans ?_⟩
  show (((wr.alloc s).alloc o1).alloc o2).heap[wr.heap.size]? = some s
  rw [Lib.alloc_old _ _ _ (by simp; omega), Lib.alloc_old _ _ _ (by simp)]
  exact alloc_at _ _
theorem slotS {w wr w3 : World} {b off : Nat} {v : Value} {NM : ByteArray} {a q : Int} (h1 : w.heap.size < wr.heap.size) (h2 : b < wr.heap.size) (m0 : wr.cell? ⟨w.heap.size, 0, none⟩ = some v) (m1 : wr.cell? ⟨b, off, none⟩ = some (.string NM)) (hb : Below wr.heap.size wr w3) (hk : w3.heap[wr.heap.size]? = some (.cells #[.int .i64 a, .int .i64 q] 39 (0, 0))) :
    w3.cell? ⟨w.heap.size, 0, none⟩ = some v ∧ w3.cell? ⟨wr.heap.size, 0, none⟩ = some (.int .i64 a) ∧ w3.cell? ⟨wr.heap.size, 1, none⟩ = some (.int .i64 q) ∧ w3.cell? ⟨b, off, none⟩ = some (.string NM) :=
  ⟨(hb.cell (p := ⟨w.heap.size, 0, none⟩) h1).trans m0, Lib.cell_of_heap hk 0, Lib.cell_of_heap hk 1, (hb.cell (p := ⟨b, off, none⟩) h2).trans m1⟩
theorem slotK0 {w wr : World} {b off : Nat} {v : Value} {NM : ByteArray} {a q : Int} (h1 : w.heap.size < wr.heap.size) (h2 : b < wr.heap.size) (m0 : wr.cell? ⟨w.heap.size, 0, none⟩ = some v) (m1 : wr.cell? ⟨b, off, none⟩ = some (.string NM)) : (wr.alloc (.cells #[.int .i64 a, .int .i64 q] 39)).drew.cell? ⟨w.heap.size, 0, none⟩ = some v ∧ (wr.alloc (.cells #[.int .i64 a, .int .i64 q] 39)).drew.cell? ⟨wr.heap.size, 0, none⟩ = some (.int .i64 a) ∧ (wr.alloc (.cells #[.int .i64 a, .int .i64 q] 39)).drew.cell? ⟨wr.heap.size, 1, none⟩ = some (.int .i64 q) ∧ (wr.alloc (.cells #[.int .i64 a, .int .i64 q] 39)).drew.cell? ⟨b, off, none⟩ = some (.string NM) :=
  slotS h1 h2 m0 m1 (below1 _ _).drew (alloc_at _ _)
theorem slotK1 {w wr : World} {b off : Nat} {v : Value} {NM : ByteArray} {a q : Int} (h1 : w.heap.size < wr.heap.size) (h2 : b < wr.heap.size) (m0 : wr.cell? ⟨w.heap.size, 0, none⟩ = some v) (m1 : wr.cell? ⟨b, off, none⟩ = some (.string NM)) (o1 : Obj) : ((wr.alloc (.cells #[.int .i64 a, .int .i64 q] 39)).alloc o1).drew.cell? ⟨w.heap.size, 0, none⟩ = some v ∧ ((wr.alloc (.cells #[.int .i64 a, .int .i64 q] 39)).alloc o1).drew.cell? ⟨wr.heap.size, 0, none⟩ = some (.int .i64 a) ∧ ((wr.alloc (.cells #[.int .i64 a, .int .i64 q] 39)).alloc o1).drew.cell? ⟨wr.heap.size, 1, none⟩ = some (.int .i64 q) ∧ ((wr.alloc (.cells #[.int .i64 a, .int .i64 q] 39)).alloc o1).drew.cell? ⟨b, off, none⟩ = some (.string NM) :=
  slotS h1 h2 m0 m1 (below2 _ _ _).drew ((Lib.alloc_old _ _ _ (by simp)).trans (alloc_at _ _))
theorem slotK2 {w wr : World} {b off : Nat} {v : Value} {NM : ByteArray} {a q : Int} (h1 : w.heap.size < wr.heap.size) (h2 : b < wr.heap.size) (m0 : wr.cell? ⟨w.heap.size, 0, none⟩ = some v) (m1 : wr.cell? ⟨b, off, none⟩ = some (.string NM)) (o1 o2 : Obj) : (((wr.alloc (.cells #[.int .i64 a, .int .i64 q] 39)).alloc o1).alloc o2).drew.cell? ⟨w.heap.size, 0, none⟩ = some v ∧ (((wr.alloc (.cells #[.int .i64 a, .int .i64 q] 39)).alloc o1).alloc o2).drew.cell? ⟨wr.heap.size, 0, none⟩ = some (.int .i64 a) ∧ (((wr.alloc (.cells #[.int .i64 a, .int .i64 q] 39)).alloc o1).alloc o2).drew.cell? ⟨wr.heap.size, 1, none⟩ = some (.int .i64 q) ∧ (((wr.alloc (.cells #[.int .i64 a, .int .i64 q] 39)).alloc o1).alloc o2).drew.cell? ⟨b, off, none⟩ = some (.string NM) :=
  slotS h1 h2 m0 m1 (below3 _ _ _ _).drew ((Lib.alloc_old _ _ _ (by simp; omega)).trans ((Lib.alloc_old _ _ _ (by simp)).trans (alloc_at _ _)))
theorem slotS4 {w w1 wr w3 w4 : World} {b off : Nat} {v : Value} {NM : ByteArray} {a q : Int} (h0 : w1.heap.size < wr.heap.size) (h1 : w.heap.size < w1.heap.size) (h2 : b < w1.heap.size) (m0 : wr.cell? ⟨w.heap.size, 0, none⟩ = some v) (m1 : wr.cell? ⟨b, off, none⟩ = some (.string NM)) (hb : Below wr.heap.size wr w3) (hk : w3.heap[wr.heap.size]? = some (.cells #[.int .i64 a, .int .i64 q] 39 (0, 0)))
    (h4 : Below w1.heap.size w3 w4) (o4 : Lib.OthersKept 5 (some w1.heap.size) w3 w4) :
    w4.cell? ⟨w.heap.size, 0, none⟩ = some v ∧ w4.cell? ⟨wr.heap.size, 0, none⟩ = some (.int .i64 a) ∧ w4.cell? ⟨wr.heap.size, 1, none⟩ = some (.int .i64 q) ∧ w4.cell? ⟨b, off, none⟩ = some (.string NM) := by
  have hk4 := o4 _ _ hk (fun e => by injection e with e; omega) (fun c fz e => by injection e with _ e; exact absurd e (by decide))
  exact ⟨(h4.cell (p := ⟨w.heap.size, 0, none⟩) h1).trans ((hb.cell (p := ⟨w.heap.size, 0, none⟩) (by simp only; omega)).trans m0), Lib.cell_of_heap hk4 0, Lib.cell_of_heap hk4 1, (h4.cell (p := ⟨b, off, none⟩) h2).trans ((hb.cell (p := ⟨b, off, none⟩) (by simp only; omega)).trans m1)⟩
theorem slot_nats {nd : Nat} {s : Sl} (h : slotB nd s = true) : ∃ a q : Nat, s.dom = a ∧ s.len = q ∧ a < nd ∧ q < 100 := by
  have := of_decide_eq_true h
  exact ⟨s.dom.toNat, s.len.toNat, by omega, by omega, by omega, by omega⟩
theorem slot_zero {nd : Nat} {ss : List Sl} {i : Nat} (h : slotE nd ss i = 0) : slotB nd (sl ss i) = true := by
  cases hb : slotB nd (sl ss i)
  · rw [slotE_bad hb] at h; cases h
  · rfl

theorem linkS {w wr w3 : World} {b off off' : Nat} {v : Value} {N1 N2 : ByteArray} {x a c q : Int} (h1 : w.heap.size < wr.heap.size) (h2 : b < wr.heap.size) (m0 : wr.cell? ⟨w.heap.size, 0, none⟩ = some v) (m1 : wr.cell? ⟨b, off, none⟩ = some (.string N1)) (m2 : wr.cell? ⟨b, off', none⟩ = some (.string N2)) (hb : Below wr.heap.size wr w3) (hk : w3.heap[wr.heap.size]? = some (.cells #[.int .i64 x, .int .i64 a, .int .i64 c, .int .i64 q] 32 (0, 0))) :
    w3.cell? ⟨w.heap.size, 0, none⟩ = some v ∧ w3.cell? ⟨wr.heap.size, 0, none⟩ = some (.int .i64 x) ∧ w3.cell? ⟨wr.heap.size, 1, none⟩ = some (.int .i64 a) ∧ w3.cell? ⟨wr.heap.size, 2, none⟩ = some (.int .i64 c) ∧ w3.cell? ⟨b, off, none⟩ = some (.string N1) ∧ w3.cell? ⟨b, off', none⟩ = some (.string N2) :=
  ⟨(hb.cell (p := ⟨w.heap.size, 0, none⟩) h1).trans m0, Lib.cell_of_heap hk 0, Lib.cell_of_heap hk 1, Lib.cell_of_heap hk 2, (hb.cell (p := ⟨b, off, none⟩) h2).trans m1, (hb.cell (p := ⟨b, off', none⟩) h2).trans m2⟩
theorem linkK0 {w wr : World} {b off off' : Nat} {v : Value} {N1 N2 : ByteArray} {x a c q : Int} (h1 : w.heap.size < wr.heap.size) (h2 : b < wr.heap.size) (m0 : wr.cell? ⟨w.heap.size, 0, none⟩ = some v) (m1 : wr.cell? ⟨b, off, none⟩ = some (.string N1)) (m2 : wr.cell? ⟨b, off', none⟩ = some (.string N2)) : (wr.alloc (.cells #[.int .i64 x, .int .i64 a, .int .i64 c, .int .i64 q] 32)).drew.cell? ⟨w.heap.size, 0, none⟩ = some v ∧ (wr.alloc (.cells #[.int .i64 x, .int .i64 a, .int .i64 c, .int .i64 q] 32)).drew.cell? ⟨wr.heap.size, 0, none⟩ = some (.int .i64 x) ∧ (wr.alloc (.cells #[.int .i64 x, .int .i64 a, .int .i64 c, .int .i64 q] 32)).drew.cell? ⟨wr.heap.size, 1, none⟩ = some (.int .i64 a) ∧ (wr.alloc (.cells #[.int .i64 x, .int .i64 a, .int .i64 c, .int .i64 q] 32)).drew.cell? ⟨wr.heap.size, 2, none⟩ = some (.int .i64 c) ∧ (wr.alloc (.cells #[.int .i64 x, .int .i64 a, .int .i64 c, .int .i64 q] 32)).drew.cell? ⟨b, off, none⟩ = some (.string N1) ∧ (wr.alloc (.cells #[.int .i64 x, .int .i64 a, .int .i64 c, .int .i64 q] 32)).drew.cell? ⟨b, off', none⟩ = some (.string N2) :=
  linkS h1 h2 m0 m1 m2 (below1 _ _).drew (alloc_at _ _)
theorem linkK1 {w wr : World} {b off off' : Nat} {v : Value} {N1 N2 : ByteArray} {x a c q : Int} (h1 : w.heap.size < wr.heap.size) (h2 : b < wr.heap.size) (m0 : wr.cell? ⟨w.heap.size, 0, none⟩ = some v) (m1 : wr.cell? ⟨b, off, none⟩ = some (.string N1)) (m2 : wr.cell? ⟨b, off', none⟩ = some (.string N2)) (o1 : Obj) : ((wr.alloc (.cells #[.int .i64 x, .int .i64 a, .int .i64 c, .int .i64 q] 32)).alloc o1).drew.cell? ⟨w.heap.size, 0, none⟩ = some v ∧ ((wr.alloc (.cells #[.int .i64 x, .int .i64 a, .int .i64 c, .int .i64 q] 32)).alloc o1).drew.cell? ⟨wr.heap.size, 0, none⟩ = some (.int .i64 x) ∧ ((wr.alloc (.cells #[.int .i64 x, .int .i64 a, .int .i64 c, .int .i64 q] 32)).alloc o1).drew.cell? ⟨wr.heap.size, 1, none⟩ = some (.int .i64 a) ∧ ((wr.alloc (.cells #[.int .i64 x, .int .i64 a, .int .i64 c, .int .i64 q] 32)).alloc o1).drew.cell? ⟨wr.heap.size, 2, none⟩ = some (.int .i64 c) ∧ ((wr.alloc (.cells #[.int .i64 x, .int .i64 a, .int .i64 c, .int .i64 q] 32)).alloc o1).drew.cell? ⟨b, off, none⟩ = some (.string N1) ∧ ((wr.alloc (.cells #[.int .i64 x, .int .i64 a, .int .i64 c, .int .i64 q] 32)).alloc o1).drew.cell? ⟨b, off', none⟩ = some (.string N2) :=
  linkS h1 h2 m0 m1 m2 (below2 _ _ _).drew ((Lib.alloc_old _ _ _ (by simp)).trans (alloc_at _ _))
theorem link_nats {nd : Nat} {l : Lk} (h : endsB nd l = true) (h' : sizeB l = true) : ∃ a c q : Nat, l.src = a ∧ l.dst = c ∧ l.size = q ∧ a < nd ∧ c < nd ∧ q < 100 := by
  have h1 := of_decide_eq_true h
  have h2 := of_decide_eq_true h'
  exact ⟨l.src.toNat, l.dst.toNat, l.size.toNat, by omega, by omega, by omega, by omega, by omega, by omega⟩

set_option maxHeartbeats 8000000 in
set_option maxRecDepth 100000 in
theorem policyPrint_any (a1 a2 a3 : Option Addr) (nd ns nl c1 c2 c3 : Nat) (p : Pol) (w : World) (h1 : p.ds.length = nd) (h2 : p.ss.length = ns) (h3 : p.ls.length = nl) (hh : Held w a1 a2 a3 c1 c2 c3 p) :
    Calls Tryd.prog 18 #[.agg #[.slice a1 nd c1, .slice a2 ns c2, .slice a3 nl c3]] w fun e w' => e = .returned (.tuple #[.string ⟨(printOf p).1.toArray⟩, .int .i64 ((printOf p).2 : Nat)]) ∧ Below w.heap.size w w' := by
  have hC := fun W hW => check_any a1 a2 a3 nd ns nl c1 c2 c3 p W h1 h2 h3 hW
  have HH : Hid (Held w a1 a2 a3 c1 c2 c3 p) := hh
  clear hh
  by_cases hck : checkOf p = 0
  · obtain ⟨z0, z1, z2, z3, z4⟩ := check_zero hck
    have HT : Hid (printOf p = (p.ds.flatMap domText ++ (p.ss.flatMap (slotText p.ds) ++ p.ls.flatMap (linkText p.ds)), 0)) := print_text hck
    rw [HT.out]
    rw [hck] at hC
    clear HT hck
    rw [h1] at z1 z2 z3
    rw [h2] at z2
    rw [h3] at z4
    rw [countB_of, h1, h2, h3] at z0
    have hbd := countB_bounds z0
    have HOK : Hid (∀ i, i < nd → OkD (dm p.ds i)) := fun i hi => okD_of (z1 i hi)
    have HSL : Hid (∀ i, i < ns → slotE nd p.ss i = 0) := z2
    have HLK : Hid (∀ i, i < nl → linkE p.ds p.ls i = 0) := z4
    clear z0 z1 z2 z3 z4
    obtain ⟨ds, ss, ls⟩ := p
    dsimp only at *
    go_enter Tryd.func18, Tryd.ntmps18
    go_wp2_with fail
    refine (hC _ (HH.out.below (below1 _ _))).mono ?_
    rintro e w1 ⟨rfl, hB1⟩
    obtain ⟨hz1, x0, x1, x2⟩ := pol_cells hB1
    have hBw : Below w.heap.size w w1 := (below1 _ _).trans (hB1.mono (by simp))
    have HH1 : Hid (Held w1 a1 a2 a3 c1 c2 c3 ⟨ds, ss, ls⟩) := HH.out.below hBw
    have HX : Hid (w1.cell? ⟨w.heap.size, 0, none⟩ = some (.slice a1 nd c1) ∧ w1.cell? ⟨w.heap.size, 1, none⟩ = some (.slice a2 ns c2) ∧ w1.cell? ⟨w.heap.size, 2, none⟩ = some (.slice a3 nl c3)) := ⟨x0, x1, x2⟩
    clear HH hC hB1
    have g0 : ∀ o, (w1.alloc o).cell? ⟨w.heap.size, 0, none⟩ = some (.slice a1 nd c1) := fun o => kept_old (below1 w1 o) hz1 0 x0
    have HP0 : Hid (PrAt w1 [] (w1.alloc (.cells #[.pointer none, .slice none 0 0] 78))) := ⟨Lib.IsBuilderF.of (Lib.fresh_isBuilder 78 5 w1), below1 _ _, by simp⟩
    go_wp2_with fail
    clear g0 x0 x1 x2
    go_loopw [23] (fun i wr => ∃ k : Nat, k ≤ nd ∧ i = .int .i64 k ∧ PrAt w1 ((ds.take k).flatMap domText) wr ∧ ((ds.take k).flatMap domText).length ≤ k * 100) (fun i _ => nd - (intOf i).toNat)
    case atStart => exact ⟨0, Nat.zero_le _, rfl, HP0.out, Nat.le_refl _⟩
    case round =>
      clear HP0
      obtain ⟨k, hk, rfl, hP, hal⟩ := hrel
      have HPA : Hid (PrAt w1 ((ds.take k).flatMap domText) wr) := hP
      have hsz := hP.size
      have hbl := hP.below
      clear hP
      by_cases hlt : k < nd
      · obtain ⟨b, off, rfl, hb, q0, q1, q2, q3, q4, q5⟩ := (HH1.out.below hbl).d.dom (dm_at (i := k) (by show k < ds.length; omega))
        have hok := HOK.out k hlt
        have HSN : Hid ((ds.take (k + 1)).flatMap domText = (ds.take k).flatMap domText ++ domText (dm ds k)) := flat_snoc domText (dm_at (by omega))
        generalize (ds.take k).flatMap domText = acc at *
        generalize dm ds k = d at *
        obtain ⟨L, K, hL, hK, hL7, hK6⟩ := hok.lab
        obtain ⟨qa, qb, qc, ha, hb', hc, la, lb, lc⟩ := hok.quo
        have hwl := domWords_len hok
        have HDW : Hid (domWords d = [kwDomain, d.name, textB L K].map (·.data.toList) ++ [qa, qb, qc].map Lib.decDigits) := by
          unfold domWords
          rw [hL, hK, ha, hb', hc]
          simp only [Int.toNat_natCast, List.map_cons, List.map_nil]
          rw [textB_list]; exact rfl
        rw [hL] at q1
        rw [hK] at q2
        rw [ha] at q3
        rw [hb'] at q4
        rw [hc] at q5
        have HTX : Hid (domText d = rowText ([kwDomain, d.name, textB L K].map (·.data.toList) ++ [qa, qb, qc].map Lib.decDigits)) := by unfold domText; rw [HDW.out]; exact rfl
        have htl : (domText d).length ≤ 100 := by unfold domText rowText; rw [List.length_append]; simp; omega
        rw [HDW.out] at hwl
        have hPr := fun W => print_yes L K hL7 hK6 W
        have hR := fun (W : World) => printRow_any W.heap.size W.heap.size 3 (W.heap.size + 1) [kwDomain, d.name, textB L K] [qa, qb, qc] ((W.alloc (.cells (cT [kwDomain, d.name, textB L K]).toArray 9)).alloc (.cells ([qa, qb, qc].map fun n : Nat => Value.int .i64 (n : Int)).toArray 3)) rfl (by omega) (laid_words _ _ (by simp)) (by simp; omega) (alloc_at2 _ _ _) (by intro n hn; simp at hn; omega) (by simp) (by omega)
        rw [← HTX.out] at hR
        have HR : Hid (∀ W : World, Calls Tryd.prog 39 #[.slice (some ⟨W.heap.size, 0, none⟩) 3 3, .slice (some ⟨W.heap.size + 1, 0, none⟩) 3 3] ((W.alloc (.cells #[.string kwDomain, .string d.name, .string (textB L K)] 9)).alloc (.cells #[.int .i64 (qa : Int), .int .i64 (qb : Int), .int .i64 (qc : Int)] 3)) fun e w' => e = .returned (.string ⟨(domText d).toArray⟩) ∧ Below W.heap.size ((W.alloc (.cells #[.string kwDomain, .string d.name, .string (textB L K)] 9)).alloc (.cells #[.int .i64 (qa : Int), .int .i64 (qb : Int), .int .i64 (qc : Int)] 3)) w') := hR
        clear hR hwl HDW HTX hok hL hK ha hb' hc
        generalize domText d = TX at *
        generalize textB L K = TL at *
        generalize d.name = NM at *
        generalize (L : Int) = LI at *
        generalize (K : Int) = KI at *
        go_wp2_with fail
        refine (hPr _).mono ?_
        rintro e w2 ⟨rfl, hB2⟩
        obtain ⟨hy, y0, y1, y2, y3, y4, y5⟩ := dom_cells (d := ⟨NM, LI, KI, (qa : Int), (qb : Int), (qc : Int)⟩) hB2
        dsimp only at y0 y1 y2 y3 y4 y5
        have hPA2 : PrAt w1 acc w2 := HPA.out.next ((below1 _ _).trans (hB2.mono (by simp)))
        have HPA2 : Hid (PrAt w1 acc w2) := hPA2
        clear hPA2 hB2 hPr
        go_wp2_with fail
        refine (HR.out w2).mono ?_
        rintro e w3 ⟨rfl, hB3⟩
        have hPA3 : PrAt w1 acc w3 := HPA2.out.next ((below2 _ _ _).trans hB3)
        go_wp2_with fail
        refine (hPA3.writes (t := TX) (by omega)).mono ?_
        rintro e w4 ⟨⟨v, rfl⟩, hPA4, _, _⟩
        have HPA4 : Hid (PrAt w1 (acc ++ TX) w4) := hPA4
        clear hPA3 hPA4 hB3
        go_wp2_with fail
        go_roundw
        case rel => exact ⟨k + 1, by omega, by go_num, by rw [HSN.out]; exact HPA4.out, by rw [HSN.out, List.length_append]; omega⟩
        case measure => simp [intOf]; omega
      · have ht : ds.take k = ds := List.take_of_length_le (by omega)
        rw [ht] at HPA hal
        have HX2 := HX.out.2.1
        have m1 : wr.cell? ⟨w.heap.size, 1, none⟩ = some (.slice a2 ns c2) := (hbl.cell (p := ⟨w.heap.size, 1, none⟩) hz1).trans HX2
        have hzr : w.heap.size < wr.heap.size := by omega
        have HAD : Hid ((ds.flatMap domText).length ≤ 800) := by show _ ≤ 800; omega
        clear ht HX2
        go_wp2_with fail
        clear m1 hal hk hlt hsz hbl hzr
        go_loopw [50] (fun i wr => ∃ k : Nat, k ≤ ns ∧ i = .int .i64 k ∧ PrAt w1 (ds.flatMap domText ++ (ss.take k).flatMap (slotText ds)) wr ∧ ((ss.take k).flatMap (slotText ds)).length ≤ k * 100) (fun i _ => ns - (intOf i).toNat)
        case atStart => exact ⟨0, Nat.zero_le _, rfl, by rw [List.take_zero, List.flatMap_nil, List.append_nil]; exact HPA.out, Nat.le_refl _⟩
        case round =>
          clear HPA
          obtain ⟨k, hk, rfl, hP, hal⟩ := hrel
          have HPA : Hid (PrAt w1 (ds.flatMap domText ++ (ss.take k).flatMap (slotText ds)) wr) := hP
          have hsz := hP.size
          have hbl := hP.below
          clear hP
          by_cases hlt : k < ns
          · obtain ⟨b, off, rfl, hb, q0, q1⟩ := (HH1.out.below hbl).s.slot (sl_at (i := k) (by show k < ss.length; omega))
            obtain ⟨a, q, ha, hq, hal', hq9⟩ := slot_nats (slot_zero (HSL.out k hlt))
            obtain ⟨b2, off2, rfl, hb2, n0, _⟩ := (HH1.out).d.dom (dm_at (i := a) (by show a < ds.length; omega))
            have hok := HOK.out a hal'
            have HSN : Hid ((ss.take (k + 1)).flatMap (slotText ds) = (ss.take k).flatMap (slotText ds) ++ slotText ds (sl ss k)) := flat_snoc (slotText ds) (sl_at (by omega))
            have hwl := slotWords_len (ds := ds) (s := sl ss k) (by rw [ha]; simp only [Int.toNat_natCast]; exact hok) (by rw [hq]; simp only [Int.toNat_natCast]; exact hq9)
            have hdw : slotWords ds (sl ss k) = [kwSlot, (dm ds a).name].map (·.data.toList) ++ [q].map Lib.decDigits := by
              unfold slotWords
              rw [ha, hq]
              simp only [Int.toNat_natCast, List.map_cons, List.map_nil]
            have HDW : Hid (slotWords ds (sl ss k) = [kwSlot, (dm ds a).name].map (·.data.toList) ++ [q].map Lib.decDigits) := hdw
            clear hdw
            have HTX : Hid (slotText ds (sl ss k) = rowText ([kwSlot, (dm ds a).name].map (·.data.toList) ++ [q].map Lib.decDigits)) := by unfold slotText; rw [HDW.out]; exact rfl
            have htl : (slotText ds (sl ss k)).length ≤ 100 := by unfold slotText rowText; rw [List.length_append]; simp; omega
            rw [HDW.out] at hwl
            rw [ha] at q0
            rw [hq] at q1
            generalize (dm ds a).name = NM at *
            have hRa := fun (W : World) => printRow_any W.heap.size W.heap.size 2 (W.heap.size + 1) [kwSlot, NM] [q] ((W.alloc (.cells (cT [kwSlot, NM]).toArray 9)).alloc (.cells ([q].map fun n : Nat => Value.int .i64 (n : Int)).toArray 3)).drew rfl (by omega) (laid_words (w := W) _ _ (by simp)) (by simp; omega) (alloc_at2 _ _ _) (by intro n hn; simp at hn; omega) (by simp) (by omega)
            have hRb := fun (W : World) => printRow_any W.heap.size (W.heap.size + 1) 2 W.heap.size [kwSlot, NM] [q] ((W.alloc (.cells ([q].map fun n : Nat => Value.int .i64 (n : Int)).toArray 3)).alloc (.cells (cT [kwSlot, NM]).toArray 9)).drew rfl (by omega) (laid_words2 (w := W) _ _ (by simp)) (by simp; omega) ((Lib.alloc_old _ _ _ (by simp)).trans (alloc_at _ _)) (by intro n hn; simp at hn; omega) (by simp) (by omega)
            rw [← HTX.out] at hRa hRb
            have hszs : (wr.alloc (.cells #[.int .i64 (a : Int), .int .i64 (q : Int)] 39)).heap.size = wr.heap.size + 1 := by simp
            have hA : Calls Tryd.prog 39 #[.slice (some ⟨wr.heap.size + 1, 0, none⟩) 2 2, .slice (some ⟨wr.heap.size + 1 + 1, 0, none⟩) 1 1] (((wr.alloc (.cells #[.int .i64 (a : Int), .int .i64 (q : Int)] 39)).alloc (.cells #[.string ⟨#[115, 108, 111, 116]⟩, .string NM] 9)).alloc (.cells #[.int .i64 (q : Int)] 3)).drew fun e w' => e = .returned (.string ⟨(slotText ds (sl ss k)).toArray⟩) ∧ Below (wr.alloc (.cells #[.int .i64 (a : Int), .int .i64 (q : Int)] 39)).heap.size (((wr.alloc (.cells #[.int .i64 (a : Int), .int .i64 (q : Int)] 39)).alloc (.cells #[.string ⟨#[115, 108, 111, 116]⟩, .string NM] 9)).alloc (.cells #[.int .i64 (q : Int)] 3)).drew w' := by
              have := hRa (wr.alloc (.cells #[.int .i64 (a : Int), .int .i64 (q : Int)] 39))
              rw [hszs] at this ⊢
              exact this
            have hBB : Calls Tryd.prog 39 #[.slice (some ⟨wr.heap.size + 1 + 1, 0, none⟩) 2 2, .slice (some ⟨wr.heap.size + 1, 0, none⟩) 1 1] (((wr.alloc (.cells #[.int .i64 (a : Int), .int .i64 (q : Int)] 39)).alloc (.cells #[.int .i64 (q : Int)] 3)).alloc (.cells #[.string ⟨#[115, 108, 111, 116]⟩, .string NM] 9)).drew fun e w' => e = .returned (.string ⟨(slotText ds (sl ss k)).toArray⟩) ∧ Below (wr.alloc (.cells #[.int .i64 (a : Int), .int .i64 (q : Int)] 39)).heap.size (((wr.alloc (.cells #[.int .i64 (a : Int), .int .i64 (q : Int)] 39)).alloc (.cells #[.int .i64 (q : Int)] 3)).alloc (.cells #[.string ⟨#[115, 108, 111, 116]⟩, .string NM] 9)).drew w' := by
              have := hRb (wr.alloc (.cells #[.int .i64 (a : Int), .int .i64 (q : Int)] 39))
              rw [hszs] at this ⊢
              exact this
            have HA : Hid (Calls Tryd.prog 39 #[.slice (some ⟨wr.heap.size + 1, 0, none⟩) 2 2, .slice (some ⟨wr.heap.size + 1 + 1, 0, none⟩) 1 1] (((wr.alloc (.cells #[.int .i64 (a : Int), .int .i64 (q : Int)] 39)).alloc (.cells #[.string ⟨#[115, 108, 111, 116]⟩, .string NM] 9)).alloc (.cells #[.int .i64 (q : Int)] 3)).drew fun e w' => e = .returned (.string ⟨(slotText ds (sl ss k)).toArray⟩) ∧ Below (wr.alloc (.cells #[.int .i64 (a : Int), .int .i64 (q : Int)] 39)).heap.size (((wr.alloc (.cells #[.int .i64 (a : Int), .int .i64 (q : Int)] 39)).alloc (.cells #[.string ⟨#[115, 108, 111, 116]⟩, .string NM] 9)).alloc (.cells #[.int .i64 (q : Int)] 3)).drew w') := hA
            have HBB : Hid (Calls Tryd.prog 39 #[.slice (some ⟨wr.heap.size + 1 + 1, 0, none⟩) 2 2, .slice (some ⟨wr.heap.size + 1, 0, none⟩) 1 1] (((wr.alloc (.cells #[.int .i64 (a : Int), .int .i64 (q : Int)] 39)).alloc (.cells #[.int .i64 (q : Int)] 3)).alloc (.cells #[.string ⟨#[115, 108, 111, 116]⟩, .string NM] 9)).drew fun e w' => e = .returned (.string ⟨(slotText ds (sl ss k)).toArray⟩) ∧ Below (wr.alloc (.cells #[.int .i64 (a : Int), .int .i64 (q : Int)] 39)).heap.size (((wr.alloc (.cells #[.int .i64 (a : Int), .int .i64 (q : Int)] 39)).alloc (.cells #[.int .i64 (q : Int)] 3)).alloc (.cells #[.string ⟨#[115, 108, 111, 116]⟩, .string NM] 9)).drew w') := hBB
            clear hA hBB hszs
            clear hRa hRb hwl HDW HTX hok ha hq hb
            have hacc : (ds.flatMap domText ++ (ss.take k).flatMap (slotText ds)).length ≤ 800 + k * 100 := by rw [List.length_append]; have := HAD.out; omega
            have HEQ : Hid (ds.flatMap domText ++ (ss.take (k + 1)).flatMap (slotText ds) = (ds.flatMap domText ++ (ss.take k).flatMap (slotText ds)) ++ slotText ds (sl ss k) ∧ ((ss.take (k + 1)).flatMap (slotText ds)).length ≤ (k + 1) * 100) := ⟨by rw [HSN.out, List.append_assoc], by rw [HSN.out, List.length_append]; omega⟩
            clear HSN hal
            generalize ds.flatMap domText ++ (ss.take k).flatMap (slotText ds) = acc at *
            generalize slotText ds (sl ss k) = TX at *
            have hlt1 := HPA.out.lt
            have m0 : wr.cell? ⟨w.heap.size, 0, none⟩ = some (.slice (some ⟨b2, off2, none⟩) nd c1) := (hbl.cell (p := ⟨w.heap.size, 0, none⟩) hz1).trans HX.out.1
            have m1 : wr.cell? ⟨b2, off2 + a * 6, none⟩ = some (.string NM) := (hbl.cell (p := ⟨b2, off2 + a * 6, none⟩) hb2).trans n0
            have hzr : w.heap.size < wr.heap.size := by omega
            have hb2r : b2 < wr.heap.size := by omega
            have g1 : (0 : Int) ≤ (a : Int) := by omega
            have g2 : (a : Int) < (nd : Int) := by omega
            have j1 : w.heap.size < wr.heap.size + 1 := by omega
            have j2 : w.heap.size < wr.heap.size + 1 + 1 := by omega
            have j3 : b2 < wr.heap.size + 1 := by omega
            have j4 : b2 < wr.heap.size + 1 + 1 := by omega
            have j5 : wr.heap.size < wr.heap.size + 1 + 1 := by omega
            clear n0
            go_wp2_with fail
            go_region_held3 (fun w' => w'.cell? ⟨w.heap.size, 0, none⟩ = some (.slice (some ⟨b2, off2, none⟩) nd c1) ∧ w'.cell? ⟨wr.heap.size, 0, none⟩ = some (.int .i64 (a : Int)) ∧ w'.cell? ⟨wr.heap.size, 1, none⟩ = some (.int .i64 (q : Int)) ∧ w'.cell? ⟨b2, off2 + a * 6, none⟩ = some (.string NM))
              (first | (with_reducible exact hS4) | (with_reducible exact hS3) | (with_reducible exact slotK2 hzr hb2r m0 m1 _ _) | (with_reducible exact slotK1 hzr hb2r m0 m1 _) | (with_reducible exact slotK0 hzr hb2r m0 m1) | go_keep)
              (first
                | (go_at_call 39; (with_reducible refine HA.out.mono ?_); rintro e w3 ⟨rfl, hb3⟩; obtain ⟨hbw3, hk3⟩ := laid_keep hb3; have hS3 := slotS hzr hb2r m0 m1 hbw3 hk3; have hPA3 := HPA.out.next hbw3)
                | (go_at_call 39; (with_reducible refine HBB.out.mono ?_); rintro e w3 ⟨rfl, hb3⟩; obtain ⟨hbw3, hk3⟩ := laid_keep hb3; have hS3 := slotS hzr hb2r m0 m1 hbw3 hk3; have hPA3 := HPA.out.next hbw3)
                | (go_at_call 38; refine (hPA3.writes (t := TX) (by omega)).mono ?_; rintro e w4 ⟨⟨v, rfl⟩, hPA4, hB4, hO4⟩; have hS4 := slotS4 hlt1 hz1 hb2 m0 m1 hbw3 hk3 hB4 hO4))
            all_goals
              have HPA4 : Hid (PrAt w1 (acc ++ TX) w4) := hPA4
              clear hPA4 hB4 hO4 hPA3
              go_wp2_with fail
              go_roundw
              case rel => exact ⟨k + 1, by omega, by go_num, by rw [HEQ.out.1]; exact HPA4.out, HEQ.out.2⟩
              case measure => simp [intOf]; omega
          · have ht : ss.take k = ss := List.take_of_length_le (by omega)
            rw [ht] at HPA hal
            have m2 : wr.cell? ⟨w.heap.size, 2, none⟩ = some (.slice a3 nl c3) := (hbl.cell (p := ⟨w.heap.size, 2, none⟩) hz1).trans HX.out.2.2
            have hzr : w.heap.size < wr.heap.size := by omega
            have hacc : (ds.flatMap domText ++ ss.flatMap (slotText ds)).length ≤ 2400 := by rw [List.length_append]; have := HAD.out; omega
            have HAC : Hid ((ds.flatMap domText ++ ss.flatMap (slotText ds)).length ≤ 2400) := hacc
            clear ht hacc HAD
            go_wp2_with fail
            clear m2 hal hk hlt hsz hbl hzr
            go_loopw [71] (fun i wr => ∃ k : Nat, k ≤ nl ∧ i = .int .i64 k ∧ PrAt w1 ((ds.flatMap domText ++ ss.flatMap (slotText ds)) ++ (ls.take k).flatMap (linkText ds)) wr ∧ ((ls.take k).flatMap (linkText ds)).length ≤ k * 100) (fun i _ => nl - (intOf i).toNat)
            case atStart => exact ⟨0, Nat.zero_le _, rfl, by rw [List.take_zero, List.flatMap_nil, List.append_nil]; exact HPA.out, Nat.le_refl _⟩
            case round =>
              clear HPA
              obtain ⟨k, hk, rfl, hP, hal⟩ := hrel
              have HPA : Hid (PrAt w1 ((ds.flatMap domText ++ ss.flatMap (slotText ds)) ++ (ls.take k).flatMap (linkText ds)) wr) := hP
              have hsz := hP.size
              have hbl := hP.below
              clear hP
              by_cases hlt : k < nl
              · obtain ⟨b, off, rfl, hb, q0, q1, q2, q3⟩ := (HH1.out.below hbl).l.link (lk_at (i := k) (by show k < ls.length; omega))
                obtain ⟨y1, y2, y3⟩ := link_zero (HLK.out k hlt)
                rw [h1] at y1
                obtain ⟨a, c, q, ha, hc, hq, hal', hcl', hq9⟩ := link_nats y1 y2
                obtain ⟨b2, off2, rfl, hb2, n0, _⟩ := (HH1.out).d.dom (dm_at (i := a) (by show a < ds.length; omega))
                obtain ⟨b3, off3, he3, _, n1, _⟩ := (HH1.out).d.dom (dm_at (i := c) (by show c < ds.length; omega))
                injection he3 with he3
                injection he3 with e5 e6
                subst e5 e6
                have hok := HOK.out a hal'
                have hok2 := HOK.out c hcl'
                have HSN : Hid ((ls.take (k + 1)).flatMap (linkText ds) = (ls.take k).flatMap (linkText ds) ++ linkText ds (lk ls k)) := flat_snoc (linkText ds) (lk_at (by omega))
                have hwl := linkWords_len (ds := ds) (l := lk ls k) (by rw [ha]; simp only [Int.toNat_natCast]; exact hok) (by rw [hc]; simp only [Int.toNat_natCast]; exact hok2) (by rw [hq]; simp only [Int.toNat_natCast]; exact hq9)
                have hdw : linkWords ds (lk ls k) = [kwOf (lk ls k), (dm ds a).name, (dm ds c).name].map (·.data.toList) ++ [q].map Lib.decDigits := by
                  unfold linkWords
                  rw [ha, hc, hq]
                  simp only [Int.toNat_natCast, List.map_cons, List.map_nil]
                have HDW : Hid (linkWords ds (lk ls k) = [kwOf (lk ls k), (dm ds a).name, (dm ds c).name].map (·.data.toList) ++ [q].map Lib.decDigits) := hdw
                have HTX : Hid (linkText ds (lk ls k) = rowText ([kwOf (lk ls k), (dm ds a).name, (dm ds c).name].map (·.data.toList) ++ [q].map Lib.decDigits)) := by unfold linkText; rw [HDW.out]; exact rfl
                have htl : (linkText ds (lk ls k)).length ≤ 100 := by unfold linkText rowText; rw [List.length_append]; simp; omega
                rw [HDW.out] at hwl
                have hKD : ∀ W, Calls Tryd.prog 40 #[.int .i64 (lk ls k).kind] W fun e w' => e = .returned (.string (kwOf (lk ls k))) ∧ w' = W := fun W => kind_any (lk ls k) W
                rw [ha] at q1
                rw [hc] at q2
                rw [hq] at q3
                clear ha hc hq y1 y2 y3 hdw HDW
                generalize (dm ds a).name = NM at *
                generalize (dm ds c).name = NN at *
                generalize kwOf (lk ls k) = KW at *
                generalize (lk ls k).kind = lk0 at *
                have hRa := fun (W : World) => printRow_any W.heap.size W.heap.size 3 (W.heap.size + 1) [KW, NM, NN] [q] ((W.alloc (.cells (cT [KW, NM, NN]).toArray 9)).alloc (.cells ([q].map fun n : Nat => Value.int .i64 (n : Int)).toArray 3)).drew rfl (by omega) (laid_words (w := W) _ _ (by simp)) (by simp; omega) (alloc_at2 _ _ _) (by intro n hn; simp at hn; omega) (by simp) (by omega)
                rw [← HTX.out] at hRa
                have hszs : (wr.alloc (.cells #[.int .i64 lk0, .int .i64 (a : Int), .int .i64 (c : Int), .int .i64 (q : Int)] 32)).heap.size = wr.heap.size + 1 := by simp
                have hA : Calls Tryd.prog 39 #[.slice (some ⟨wr.heap.size + 1, 0, none⟩) 3 3, .slice (some ⟨wr.heap.size + 1 + 1, 0, none⟩) 1 1] (((wr.alloc (.cells #[.int .i64 lk0, .int .i64 (a : Int), .int .i64 (c : Int), .int .i64 (q : Int)] 32)).alloc (.cells #[.string KW, .string NM, .string NN] 9)).alloc (.cells #[.int .i64 (q : Int)] 3)).drew fun e w' => e = .returned (.string ⟨(linkText ds (lk ls k)).toArray⟩) ∧ Below (wr.alloc (.cells #[.int .i64 lk0, .int .i64 (a : Int), .int .i64 (c : Int), .int .i64 (q : Int)] 32)).heap.size (((wr.alloc (.cells #[.int .i64 lk0, .int .i64 (a : Int), .int .i64 (c : Int), .int .i64 (q : Int)] 32)).alloc (.cells #[.string KW, .string NM, .string NN] 9)).alloc (.cells #[.int .i64 (q : Int)] 3)).drew w' := by
                  have := hRa (wr.alloc (.cells #[.int .i64 lk0, .int .i64 (a : Int), .int .i64 (c : Int), .int .i64 (q : Int)] 32))
                  rw [hszs] at this ⊢
                  exact this
                have HA : Hid (Calls Tryd.prog 39 #[.slice (some ⟨wr.heap.size + 1, 0, none⟩) 3 3, .slice (some ⟨wr.heap.size + 1 + 1, 0, none⟩) 1 1] (((wr.alloc (.cells #[.int .i64 lk0, .int .i64 (a : Int), .int .i64 (c : Int), .int .i64 (q : Int)] 32)).alloc (.cells #[.string KW, .string NM, .string NN] 9)).alloc (.cells #[.int .i64 (q : Int)] 3)).drew fun e w' => e = .returned (.string ⟨(linkText ds (lk ls k)).toArray⟩) ∧ Below (wr.alloc (.cells #[.int .i64 lk0, .int .i64 (a : Int), .int .i64 (c : Int), .int .i64 (q : Int)] 32)).heap.size (((wr.alloc (.cells #[.int .i64 lk0, .int .i64 (a : Int), .int .i64 (c : Int), .int .i64 (q : Int)] 32)).alloc (.cells #[.string KW, .string NM, .string NN] 9)).alloc (.cells #[.int .i64 (q : Int)] 3)).drew w') := hA
                clear hA hszs hRa hwl HTX hok hok2 hb
                have hacc : ((ds.flatMap domText ++ ss.flatMap (slotText ds)) ++ (ls.take k).flatMap (linkText ds)).length ≤ 2400 + k * 100 := by rw [List.length_append]; have := HAC.out; omega
                have HEQ : Hid ((ds.flatMap domText ++ ss.flatMap (slotText ds)) ++ (ls.take (k + 1)).flatMap (linkText ds) = ((ds.flatMap domText ++ ss.flatMap (slotText ds)) ++ (ls.take k).flatMap (linkText ds)) ++ linkText ds (lk ls k) ∧ ((ls.take (k + 1)).flatMap (linkText ds)).length ≤ (k + 1) * 100) := ⟨by rw [HSN.out]; simp only [List.append_assoc], by rw [HSN.out, List.length_append]; omega⟩
                clear HSN hal
                generalize (ds.flatMap domText ++ ss.flatMap (slotText ds)) ++ (ls.take k).flatMap (linkText ds) = acc at *
                generalize linkText ds (lk ls k) = TX at *
                have hlt1 := HPA.out.lt
                have m0 : wr.cell? ⟨w.heap.size, 0, none⟩ = some (.slice (some ⟨b2, off2, none⟩) nd c1) := (hbl.cell (p := ⟨w.heap.size, 0, none⟩) hz1).trans HX.out.1
                have m1 : wr.cell? ⟨b2, off2 + a * 6, none⟩ = some (.string NM) := (hbl.cell (p := ⟨b2, off2 + a * 6, none⟩) hb2).trans n0
                have m2 : wr.cell? ⟨b2, off2 + c * 6, none⟩ = some (.string NN) := (hbl.cell (p := ⟨b2, off2 + c * 6, none⟩) hb2).trans n1
                have hzr : w.heap.size < wr.heap.size := by omega
                have hb2r : b2 < wr.heap.size := by omega
                have g1 : (0 : Int) ≤ (a : Int) := by omega
                have g2 : (a : Int) < (nd : Int) := by omega
                have g3 : (0 : Int) ≤ (c : Int) := by omega
                have g4 : (c : Int) < (nd : Int) := by omega
                have j5 : wr.heap.size < wr.heap.size + 1 + 1 := by omega
                clear n0 n1
                go_wp2_with fail
                go_region_held3 (fun w' => w'.cell? ⟨w.heap.size, 0, none⟩ = some (.slice (some ⟨b2, off2, none⟩) nd c1) ∧ w'.cell? ⟨wr.heap.size, 0, none⟩ = some (.int .i64 lk0) ∧ w'.cell? ⟨wr.heap.size, 1, none⟩ = some (.int .i64 (a : Int)) ∧ w'.cell? ⟨wr.heap.size, 2, none⟩ = some (.int .i64 (c : Int)) ∧ w'.cell? ⟨b2, off2 + a * 6, none⟩ = some (.string NM) ∧ w'.cell? ⟨b2, off2 + c * 6, none⟩ = some (.string NN))
                  (first | (with_reducible exact linkK1 hzr hb2r m0 m1 m2 _) | (with_reducible exact linkK0 hzr hb2r m0 m1 m2) | go_keep)
                  (first | (go_at_call 40; refine (hKD _).mono ?_; rintro e w2 ⟨rfl, rfl⟩))
                go_wp2_with fail
                refine HA.out.mono ?_
                rintro e w3 ⟨rfl, hb3⟩
                obtain ⟨hbw3, hk3⟩ := laid_keep hb3
                have hPA3 := HPA.out.next hbw3
                go_wp2_with fail
                refine (hPA3.writes (t := TX) (by omega)).mono ?_
                rintro e w4 ⟨⟨v, rfl⟩, hPA4, _, _⟩
                have HPA4 : Hid (PrAt w1 (acc ++ TX) w4) := hPA4
                clear hPA4 hPA3 hbw3 hk3 hb3
                go_wp2_with fail
                go_roundw
                case rel => exact ⟨k + 1, by omega, by go_num, by rw [HEQ.out.1]; exact HPA4.out, HEQ.out.2⟩
                case measure => simp [intOf]; omega
              · have ht : ls.take k = ls := List.take_of_length_le (by omega)
                rw [ht, List.append_assoc] at HPA
                clear ht hal
                obtain ⟨acc, hac⟩ : ∃ acc, acc = ds.flatMap domText ++ (ss.flatMap (slotText ds) ++ ls.flatMap (linkText ds)) := ⟨_, rfl⟩
                rw [← hac] at HPA
                have HACC : Hid (acc = ds.flatMap domText ++ (ss.flatMap (slotText ds) ++ ls.flatMap (linkText ds))) := hac
                clear hac
                go_wp2_with fail
                refine (builderString w1.heap.size w1.heap.size acc _ HPA.out.bld hsz).mono ?_
                rintro e w5 ⟨rfl, _, hb5, _⟩
                go_wp2
                go_ret2
                exact ⟨by rw [← HACC.out]; rfl, hBw.trans ((hbl.trans hb5).mono hBw.size)⟩
  · have hne : ((checkOf p : Int) != 0) = true := by simp; exact hck
    rw [print_check hck]
    clear hck
    generalize checkOf p = ck at *
    go_enter Tryd.func18, Tryd.ntmps18
    go_wp2_with fail
    refine (hC _ (HH.out.below (below1 _ _))).mono ?_
    rintro e w1 ⟨rfl, hB1⟩
    go_wp2
    go_ret2
    exact ⟨rfl, (below1 _ _).trans (hB1.mono (by simp))⟩

end Go.Proofs.YtmhjoomkeidcaaaDoor
