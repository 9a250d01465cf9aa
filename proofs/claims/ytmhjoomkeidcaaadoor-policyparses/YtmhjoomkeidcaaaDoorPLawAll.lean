/-
  The walk of the law PolicyParses, of what the document's own Parse comes to.
-/
import Derived.Test.YtmhjoomkeidcaaaDoorParse2
import Derived.Test.YtmhjoomkeidcaaaDoorRefCheck
import Derived.Test.YtmhjoomkeidcaaaDoorPRow
import Derived.Test.YtmhjoomkeidcaaaDoorPSpec
import Derived.Deep.RegionHeld3
import Derived.Test.YtmhjoomkeidcaaaDoorRefSmall
import Derived.BigQuiet
import Derived.Deep.DeepCutAuto
/-
  The fixed fact that each statement asks comes out true.
-/
namespace Go.Proofs.YtmhjoomkeidcaaaDoor
open Go.RowKit L2
open L3 (Wd cellsW ansOf chop)

def text1 : List UInt8 := [100, 111, 109, 97, 105, 110, 32, 97, 32, 48, 123, 125, 32, 49, 32, 48, 32, 49, 10, 100, 111, 109, 97, 105, 110, 32, 98, 32, 49, 123, 125, 32, 50, 32, 51, 32, 52, 10, 115, 108, 111, 116, 32, 98, 32, 50, 10, 115, 108, 111, 116, 32, 97, 32, 49, 10, 112, 117, 109, 112, 32, 97, 32, 98, 32, 51]
def words1 : List Wd := [⟨[100, 111, 109, 97, 105, 110], 1, 1⟩, ⟨[97], 1, 8⟩, ⟨[48, 123, 125], 1, 10⟩, ⟨[49], 1, 14⟩, ⟨[48], 1, 16⟩, ⟨[49], 1, 18⟩, ⟨[100, 111, 109, 97, 105, 110], 2, 1⟩, ⟨[98], 2, 8⟩, ⟨[49, 123, 125], 2, 10⟩, ⟨[50], 2, 14⟩, ⟨[51], 2, 16⟩, ⟨[52], 2, 18⟩, ⟨[115, 108, 111, 116], 3, 1⟩, ⟨[98], 3, 6⟩, ⟨[50], 3, 8⟩, ⟨[115, 108, 111, 116], 4, 1⟩, ⟨[97], 4, 6⟩, ⟨[49], 4, 8⟩, ⟨[112, 117, 109, 112], 5, 1⟩, ⟨[97], 5, 6⟩, ⟨[98], 5, 8⟩, ⟨[51], 5, 10⟩]
theorem chop_text1 : chop text1 = [[100], [111], [109], [97], [105], [110], [32], [97], [32], [48], [123], [125], [32], [49], [32], [48], [32], [49], [10], [100], [111], [109], [97], [105], [110], [32], [98], [32], [49], [123], [125], [32], [50], [32], [51], [32], [52], [10], [115], [108], [111], [116], [32], [98], [32], [50], [10], [115], [108], [111], [116], [32], [97], [32], [49], [10], [112], [117], [109], [112], [32], [97], [32], [98], [32], [51]] := by
  unfold text1
  repeat rw [L3.chop_low _ (by decide)]
  rw [L3.chop_nil]
theorem ans_text1 : ansOf text1 = ⟨words1, 0, 0, 0⟩ := by
  unfold ansOf L3.wordsOf
  rw [chop_text1]
  kernel_rfl
def text2 : List UInt8 := [100, 111, 109, 97, 105, 110, 32, 97, 32, 48, 123, 125, 32, 49, 32, 48, 32, 49, 10, 100, 111, 109, 97, 105, 110, 32, 98, 32, 49, 123, 125, 32, 50, 32, 51, 32, 52, 10, 115, 108, 111, 116, 32, 98, 32, 50, 10, 115, 108, 111, 116, 32, 97, 32, 49, 10, 112, 117, 109, 112, 32, 98, 32, 97, 32, 51]
def words2 : List Wd := [⟨[100, 111, 109, 97, 105, 110], 1, 1⟩, ⟨[97], 1, 8⟩, ⟨[48, 123, 125], 1, 10⟩, ⟨[49], 1, 14⟩, ⟨[48], 1, 16⟩, ⟨[49], 1, 18⟩, ⟨[100, 111, 109, 97, 105, 110], 2, 1⟩, ⟨[98], 2, 8⟩, ⟨[49, 123, 125], 2, 10⟩, ⟨[50], 2, 14⟩, ⟨[51], 2, 16⟩, ⟨[52], 2, 18⟩, ⟨[115, 108, 111, 116], 3, 1⟩, ⟨[98], 3, 6⟩, ⟨[50], 3, 8⟩, ⟨[115, 108, 111, 116], 4, 1⟩, ⟨[97], 4, 6⟩, ⟨[49], 4, 8⟩, ⟨[112, 117, 109, 112], 5, 1⟩, ⟨[98], 5, 6⟩, ⟨[97], 5, 8⟩, ⟨[51], 5, 10⟩]
theorem chop_text2 : chop text2 = [[100], [111], [109], [97], [105], [110], [32], [97], [32], [48], [123], [125], [32], [49], [32], [48], [32], [49], [10], [100], [111], [109], [97], [105], [110], [32], [98], [32], [49], [123], [125], [32], [50], [32], [51], [32], [52], [10], [115], [108], [111], [116], [32], [98], [32], [50], [10], [115], [108], [111], [116], [32], [97], [32], [49], [10], [112], [117], [109], [112], [32], [98], [32], [97], [32], [51]] := by
  unfold text2
  repeat rw [L3.chop_low _ (by decide)]
  rw [L3.chop_nil]
theorem ans_text2 : ansOf text2 = ⟨words2, 0, 0, 0⟩ := by
  unfold ansOf L3.wordsOf
  rw [chop_text2]
  kernel_rfl
def text3 : List UInt8 := [115, 108, 111, 116, 32, 99, 32, 49]
def words3 : List Wd := [⟨[115, 108, 111, 116], 1, 1⟩, ⟨[99], 1, 6⟩, ⟨[49], 1, 8⟩]
theorem chop_text3 : chop text3 = [[115], [108], [111], [116], [32], [99], [32], [49]] := by
  unfold text3
  repeat rw [L3.chop_low _ (by decide)]
  rw [L3.chop_nil]
theorem ans_text3 : ansOf text3 = ⟨words3, 0, 0, 0⟩ := by
  unfold ansOf L3.wordsOf
  rw [chop_text3]
  kernel_rfl
def pol1 : Pol := ⟨[⟨⟨#[97]⟩, 0, 0, 1, 0, 1⟩, ⟨⟨#[98]⟩, 1, 0, 2, 3, 4⟩], [⟨1, 2⟩, ⟨0, 1⟩], [⟨2, 0, 1, 3⟩]⟩
theorem parse_text1 : parseOf text1 = (0, 0, pol1) := by
  rw [parse_rows (by rw [ans_text1]), ans_text1]
  kernel_rfl
theorem parse_text2 : parseOf text2 = (10, 0, pol0) := by
  rw [parse_rows (by rw [ans_text2]), ans_text2]
  kernel_rfl
theorem parse_text3 : parseOf text3 = (4, 1, pol0) := by
  rw [parse_rows (by rw [ans_text3]), ans_text3]
  kernel_rfl
theorem check_pol1 : checkOf pol1 = 0 := by kernel_rfl
theorem check_pol0 : checkOf pol0 = 1 := by kernel_rfl

end Go.Proofs.YtmhjoomkeidcaaaDoor

/-
  The fixed fact that each statement asks comes out true: the walk.
-/
namespace Go.Proofs.YtmhjoomkeidcaaaDoor
open Go.RowKit L2

theorem parse1 (w : World) : Calls Tryd.prog 15 #[.string ⟨text1.toArray⟩] w fun e w' => ∃ a1 a2 a3 c1 c2 c3, e = .returned (.tuple #[.agg #[.slice a1 2 c1, .slice a2 2 c2, .slice a3 1 c3], .int .i64 0, .int .i64 0]) ∧ Held w' a1 a2 a3 c1 c2 c3 pol1 ∧ Below w.heap.size w w' := by
  have := parse_any ⟨text1.toArray⟩ w
  rw [show (⟨text1.toArray⟩ : ByteArray).data.toList = text1 from rfl, parse_text1] at this
  exact this
theorem parse2 (w : World) : Calls Tryd.prog 15 #[.string ⟨text2.toArray⟩] w fun e w' => ∃ a1 a2 a3 c1 c2 c3, e = .returned (.tuple #[.agg #[.slice a1 0 c1, .slice a2 0 c2, .slice a3 0 c3], .int .i64 0, .int .i64 10]) ∧ Below w.heap.size w w' := by
  have := parse_any ⟨text2.toArray⟩ w
  rw [show (⟨text2.toArray⟩ : ByteArray).data.toList = text2 from rfl, parse_text2] at this
  exact this.mono fun e w' ⟨a1, a2, a3, c1, c2, c3, he, _, hb⟩ => ⟨a1, a2, a3, c1, c2, c3, he, hb⟩
theorem parse3 (w : World) : Calls Tryd.prog 15 #[.string ⟨text3.toArray⟩] w fun e w' => ∃ a1 a2 a3 c1 c2 c3, e = .returned (.tuple #[.agg #[.slice a1 0 c1, .slice a2 0 c2, .slice a3 0 c3], .int .i64 1, .int .i64 4]) ∧ Below w.heap.size w w' := by
  have := parse_any ⟨text3.toArray⟩ w
  rw [show (⟨text3.toArray⟩ : ByteArray).data.toList = text3 from rfl, parse_text3] at this
  exact this.mono fun e w' ⟨a1, a2, a3, c1, c2, c3, he, _, hb⟩ => ⟨a1, a2, a3, c1, c2, c3, he, hb⟩

set_option maxHeartbeats 4000000 in
theorem awake_any (w : World) : Calls Tryd.prog 11 #[] w fun e w' => e = .returned (.bool true) ∧ Below w.heap.size w w' := by
  go_enter Tryd.func11, Tryd.ntmps11
  go_wp2_with fail
  refine (parse1 _).mono ?_
  rintro e w1 ⟨a1, a2, a3, c1, c2, c3, rfl, hH, hB1⟩
  obtain ⟨b2, o2, rfl, hb2, s0, s1⟩ := hH.s.slot (i := 0) (s := ⟨1, 2⟩) rfl
  obtain ⟨b3, o3, rfl, hb3, l0, l1, l2, l3⟩ := hH.l.link (i := 0) (l := ⟨2, 0, 1, 3⟩) rfl
  simp only [Nat.zero_mul, Nat.add_zero] at s0 s1 l0 l1 l2 l3
  have HH : Hid (Held w1 a1 (some ⟨b2, o2, none⟩) (some ⟨b3, o3, none⟩) c1 c2 c3 pol1) := hH
  clear hH
  go_wp2_with fail
  refine (parse2 _).mono ?_
  rintro e w2 ⟨d1, d2, d3, f1, f2, f3, rfl, hB2⟩
  go_wp2_with fail
  refine (parse3 _).mono ?_
  rintro e w3 ⟨g1, g2, g3, k1, k2, k3, rfl, hB3⟩
  have hB12 : Below w1.heap.size w1 w2 := (below1 _ _).trans (hB2.mono (by simp))
  have hz2 := hB2.size
  simp at hz2
  have hB23 : Below w2.heap.size w2 w3 := (below1 _ _).trans (hB3.mono (by simp))
  have hz3 := hB3.size
  simp at hz3
  have hB13 := below_next hB12 hB23
  obtain ⟨cc, _⟩ := bcell hB13
  have s0' := (cc b2 _ hb2).trans s0
  have s1' := (cc b2 _ hb2).trans s1
  have l0' := (cc b3 _ hb3).trans l0
  have l1' := (cc b3 _ hb3).trans l1
  have l2' := (cc b3 _ hb3).trans l2
  have l3' := (cc b3 _ hb3).trans l3
  have hbk : w3.heap[w1.heap.size]? = some (.cells #[.slice a1 2 c1, .slice (some ⟨b2, o2, none⟩) 2 c2, .slice (some ⟨b3, o3, none⟩) 1 c3] 26 (0, 0)) :=
    (hB23.block _ (by omega)).trans ((hB2.block _ (by simp)).trans (alloc_at _ _))
  obtain ⟨p0, p1, p2, _, _, _⟩ := blk_cells hbk
  have HH3 : Hid (Held w3 a1 (some ⟨b2, o2, none⟩) (some ⟨b3, o3, none⟩) c1 c2 c3 pol1) := HH.out.below hB13
  have hBw : Below w.heap.size w w3 := below_next hB1 hB13
  have hC := fun W hh => check_any a1 (some ⟨b2, o2, none⟩) (some ⟨b3, o3, none⟩) 2 2 1 c1 c2 c3 pol1 W rfl rfl rfl hh
  rw [check_pol1] at hC
  have hC0 := fun W => check_any none none none 0 0 0 0 0 0 pol0 W rfl rfl rfl (held_none W)
  rw [check_pol0] at hC0
  have y1 : w1.heap.size < w3.heap.size := by omega
  have y2 : b2 < w3.heap.size := by omega
  have y3 : b3 < w3.heap.size := by omega
  clear cc s0 s1 l0 l1 l2 l3 HH hB1 hB2 hB3 hB12 hB23 hB13 hbk
  go_wp2_with fail
  refine (hC _ (HH3.out.below (below1 _ _))).mono ?_
  rintro e w4 ⟨rfl, hB4⟩
  go_wp2_with fail
  refine (hC0 _).mono ?_
  rintro e w5 ⟨rfl, hB5⟩
  go_wp2
  go_ret
  exact ⟨rfl, below_next (below_next (below_next hBw (below1 _ _)) hB4) hB5⟩

end Go.Proofs.YtmhjoomkeidcaaaDoor

/-
  What the law's own cap on lists comes to, and what a policy that may be keeps to.
-/
namespace Go.Proofs.YtmhjoomkeidcaaaDoor
open Go.RowKit L2

/-- n capped at most: m. -/
def Capped (most n m : Nat) : Prop := n ≤ most ∧ m = n ∨ most < n ∧ m = most

/-- What few hands back out of its box. -/
theorem few_ret {w W : World} {B : Nat} {t : Array Value} {x y z : Value} (h : W.heap[B]? = some (.cells #[x, y, z] 26 (0, 0))) (hb : Below w.heap.size w W) (e2 : t[2]? = some (.pointer (some ⟨B, 0, none⟩)) := by rfl) :
    bodyPost Tryd.prog Tryd.f9 (fun e w' => e = .returned (.agg #[x, y, z]) ∧ Below w.heap.size w w') Exit.ret { tmps := t, defers := [] } W := by
  obtain ⟨q0, q1, q2, _⟩ := blk_cells h
  exact bodyPost_ret (v := .agg #[x, y, z]) (by simp [results, Tryd.results9, go_sem, e2, q0, q1, q2]) rfl ⟨rfl, hb⟩

theorem alloc_at2 (w : World) (o o2 : Obj) : ((w.alloc o).alloc o2).heap[w.heap.size + 1]? = some o2 := by
  have := alloc_at (w.alloc o) o2
  rwa [show (w.alloc o).heap.size = w.heap.size + 1 by simp] at this

set_option maxHeartbeats 4000000 in
theorem few_any (a1 a2 a3 : Option Addr) (n1 n2 n3 m1 m2 m3 c1 c2 c3 : Nat) (h1 : Capped 12 n1 m1) (h2 : Capped 20 n2 m2) (h3 : Capped 12 n3 m3) (k1 : n1 ≤ c1) (k2 : n2 ≤ c2) (k3 : n3 ≤ c3) (w : World) :
    Calls Tryd.prog 9 #[.agg #[.slice a1 n1 c1, .slice a2 n2 c2, .slice a3 n3 c3]] w fun e w' => e = .returned (.agg #[.slice a1 m1 c1, .slice a2 m2 c2, .slice a3 m3 c3]) ∧ Below w.heap.size w w' := by
  rcases h1 with ⟨h1, rfl⟩ | ⟨h1, rfl⟩ <;> rcases h2 with ⟨h2, rfl⟩ | ⟨h2, rfl⟩ <;> rcases h3 with ⟨h3, rfl⟩ | ⟨h3, rfl⟩
  all_goals
    go_enter Tryd.func9, Tryd.ntmps9
    go_wp2
    exact few_ret (alloc_at2 _ _ _) (below2 _ _ _)

theorem check_zero {p : Pol} (h : checkOf p = 0) : countsB p = true ∧ (∀ i, i < p.ds.length → domE p.ds i = 0) ∧ (∀ i, i < p.ss.length → slotE p.ds.length p.ss i = 0) ∧ (∀ i, i < p.ds.length → hasE p.ss i = 0) ∧ (∀ i, i < p.ls.length → linkE p.ds p.ls i = 0) := by
  unfold checkOf at h
  cases hc : countsB p
  · rw [hc] at h; cases h
  · rw [hc, if_pos rfl] at h
    by_cases hd : domsE p.ds = 0
    · rw [if_neg (fun hh => hh hd)] at h
      by_cases hs : slotsE p.ds.length p.ss = 0
      · rw [if_neg (fun hh => hh hs)] at h
        have hs1 : scan (slotE p.ds.length p.ss) p.ss.length 0 = 0 := by
          unfold slotsE at hs
          by_cases hq : scan (slotE p.ds.length p.ss) p.ss.length 0 = 0
          · exact hq
          · rw [if_pos hq] at hs; cases hs
        have hs2 : scan (hasE p.ss) p.ds.length 0 = 0 := by
          unfold slotsE at hs
          rwa [if_neg (fun hh => hh hs1)] at hs
        exact ⟨rfl, fun i hi => scan_zero hd i (Nat.zero_le _) (by omega), fun i hi => scan_zero hs1 i (Nat.zero_le _) (by omega), fun i hi => scan_zero hs2 i (Nat.zero_le _) (by omega), fun i hi => scan_zero h i (Nat.zero_le _) (by omega)⟩
      · rw [if_pos hs] at h; exact (hs h).elim
    · rw [if_pos hd] at h; exact (hd h).elim

theorem link_zero {ds : List Dm} {ls : List Lk} {i : Nat} (h : linkE ds ls i = 0) : endsB ds.length (lk ls i) = true ∧ sizeB (lk ls i) = true ∧ upB ds (lk ls i) = true := by
  unfold linkE at h
  cases h1 : endsB ds.length (lk ls i) <;> cases h2 : sizeB (lk ls i) <;> cases h3 : upB ds (lk ls i) <;> rw [h1, h2] at h <;> simp [h3] at h
  exact ⟨rfl, rfl, rfl⟩
theorem dom_zero {ds : List Dm} {i : Nat} (h : domE ds i = 0) : nameBad ds i = false ∧ goodB (dm ds i).lev (dm ds i).cat = true ∧ quotaB (dm ds i) = true := by
  unfold domE at h
  cases h1 : nameBad ds i <;> cases h2 : goodB (dm ds i).lev (dm ds i).cat <;> cases h3 : quotaB (dm ds i) <;> rw [h1] at h <;> simp [h2, h3] at h
  exact ⟨rfl, rfl, rfl⟩
theorem has_zero {ss : List Sl} {i : Nat} (h : hasE ss i = 0) : (ss.any fun s => s.dom == (i : Int)) = true := by
  cases h1 : ss.any fun s => s.dom == (i : Int)
  · rw [hasE_bad h1] at h; cases h
  · rfl

/-- How many of the first slots are a domain's. -/
def cntS (ss : List Sl) (i : Nat) (k : Nat) : Nat := (ss.take k).countP fun s => s.dom == (i : Int)
theorem cntS_le (ss : List Sl) (i k : Nat) : cntS ss i k ≤ k := by
  unfold cntS
  refine Nat.le_trans List.countP_le_length ?_
  rw [List.length_take]; omega
theorem cntS_next {ss : List Sl} {i k : Nat} (h : k < ss.length) : cntS ss i (k + 1) = cntS ss i k + (if (sl ss k).dom == (i : Int) then 1 else 0) := by
  unfold cntS
  rw [List.take_add_one, sl_at h, List.countP_append]
  simp [List.countP_cons]
theorem cntS_pos {ss : List Sl} {i : Nat} (h : (ss.any fun s => s.dom == (i : Int)) = true) : 0 < cntS ss i ss.length := by
  unfold cntS
  rw [List.take_length]
  obtain ⟨x, hx, hp⟩ := List.any_eq_true.1 h
  exact List.countP_pos_iff.2 ⟨x, hx, hp⟩

end Go.Proofs.YtmhjoomkeidcaaaDoor

/-
  A policy's text, line by line, as the document has it; how long its lines are at most.
-/
namespace Go.Proofs.YtmhjoomkeidcaaaDoor
open Go.RowKit L2

def kwOf (l : Lk) : ByteArray := if l.kind = 1 then kwCell else kwPump
def domWords (d : Dm) : List (List UInt8) := [kwDomain.data.toList, d.name.data.toList, textOf d.lev.toNat d.cat.toNat] ++ [d.tasks.toNat, d.objs.toNat, d.ring.toNat].map Lib.decDigits
def slotWords (ds : List Dm) (s : Sl) : List (List UInt8) := [kwSlot.data.toList, (dm ds s.dom.toNat).name.data.toList] ++ [s.len.toNat].map Lib.decDigits
def linkWords (ds : List Dm) (l : Lk) : List (List UInt8) := [(kwOf l).data.toList, (dm ds l.src.toNat).name.data.toList, (dm ds l.dst.toNat).name.data.toList] ++ [l.size.toNat].map Lib.decDigits
def domText (d : Dm) : List UInt8 := rowText (domWords d)
def slotText (ds : List Dm) (s : Sl) : List UInt8 := rowText (slotWords ds s)
def linkText (ds : List Dm) (l : Lk) : List UInt8 := rowText (linkWords ds l)
def polText (p : Pol) : List UInt8 := p.ds.flatMap domText ++ (p.ss.flatMap (slotText p.ds) ++ p.ls.flatMap (linkText p.ds))
/-- What Print says: the text, and the error. -/
def printOf (p : Pol) : List UInt8 × Nat := if checkOf p = 0 then (polText p, 0) else ([], checkOf p)

theorem letters_len : ∀ (l : List UInt8) (k : Nat), letters l = some k → l.length ≤ 2 * k
  | [], k, _ => Nat.zero_le _
  | [a], k, h => by
    simp only [letters] at h
    split at h
    · injection h with h; subst h; simp
    · cases h
  | a :: b :: r, k, h => by
    by_cases h1 : 97 ≤ a.toNat ∧ a.toNat ≤ 122
    · rw [letters_latin a _ h1] at h
      cases h2 : letters (b :: r) with
      | none => rw [h2] at h; cases h
      | some j =>
        rw [h2] at h
        have := letters_len (b :: r) j h2
        simp only [Option.map_some, Option.some.injEq] at h
        simp at this ⊢
        omega
    · by_cases hg : 0 ≤ greekB a.toNat b.toNat ∧ greekB a.toNat b.toNat ≤ 24
      · rw [letters_greek a b r h1 hg] at h
        cases h2 : letters r with
        | none => rw [h2] at h; cases h
        | some j =>
          rw [h2] at h
          have := letters_len r j h2
          simp only [Option.map_some, Option.some.injEq] at h
          simp
          omega
      · rw [letters_other a b r h1 hg] at h; cases h
theorem name_short {s : ByteArray} (h : nameB s = true) : s.data.toList.length ≤ 24 := by
  unfold nameB at h
  cases hl : letters s.data.toList with
  | none => rw [hl] at h; cases h
  | some k =>
    rw [hl] at h
    have := of_decide_eq_true h
    have := letters_len _ _ hl
    omega
theorem signs_len (c : Nat) : ∀ (n k : Nat), (signsFrom c n k).length ≤ 2 * n
  | 0, _ => Nat.le_refl _
  | n + 1, k => by
    have := signs_len c n (k + 1)
    rw [signsFrom, List.length_append]
    split
    · simp [signOf]; omega
    · simp; omega
theorem text_len (l c : Nat) : (textOf l c).length ≤ 35 := by
  have := signs_len c 16 0
  simp [textOf]; omega
theorem dec_len {n : Nat} (h : n < 100) : (Lib.decDigits n).length ≤ 2 := by
  rw [Lib.decDigits]
  split
  · simp
  · rw [Lib.decDigits, dif_pos (by omega)]; simp
theorem joinTail_len (r : List (List UInt8)) : (Lib.joinTail [32] r).length = (r.map (·.length + 1)).sum := by
  unfold Lib.joinTail
  induction r with
  | nil => rfl
  | cons x r ih => simp only [List.map_cons, List.flatten_cons, List.length_append, List.sum_cons, ih]; simp; omega
theorem join_len (r : List (List UInt8)) : (Lib.join r [32]).length ≤ (r.map (·.length + 1)).sum := by
  cases r with
  | nil => simp [Lib.join]
  | cons x r =>
    rw [Lib.join_cons, List.length_append, joinTail_len]
    simp

/-- What is asked of each part of a policy that may be. -/
structure OkD (d : Dm) : Prop where
  name : nameB d.name = true
  lab : ∃ l c : Nat, d.lev = l ∧ d.cat = c ∧ l ≤ 7 ∧ c < 65536
  quo : ∃ a b c : Nat, d.tasks = a ∧ d.objs = b ∧ d.ring = c ∧ a < 100 ∧ b < 100 ∧ c < 100
theorem okD_of {ds : List Dm} {i : Nat} (h : domE ds i = 0) : OkD (dm ds i) := by
  obtain ⟨h1, h2, h3⟩ := dom_zero h
  refine ⟨?_, ?_, ?_⟩
  · unfold nameBad at h1
    cases hn : nameB (dm ds i).name
    · rw [hn] at h1; cases h1
    · rfl
  · have := of_decide_eq_true h2
    exact ⟨(dm ds i).lev.toNat, (dm ds i).cat.toNat, by omega, by omega, by omega, by omega⟩
  · have := of_decide_eq_true h3
    exact ⟨(dm ds i).tasks.toNat, (dm ds i).objs.toNat, (dm ds i).ring.toNat, by omega, by omega, by omega, by omega, by omega, by omega⟩
theorem domWords_len {d : Dm} (h : OkD d) : (Lib.join (domWords d) [32]).length ≤ 90 := by
  have h1 := join_len (domWords d)
  have h2 := name_short h.name
  have h3 := text_len d.lev.toNat d.cat.toNat
  obtain ⟨a, b, c, ha, hb, hc, la, lb, lc⟩ := h.quo
  have h4 := dec_len (n := d.tasks.toNat) (by omega)
  have h5 := dec_len (n := d.objs.toNat) (by omega)
  have h6 := dec_len (n := d.ring.toNat) (by omega)
  have h7 : kwDomain.data.toList.length = 6 := rfl
  refine Nat.le_trans h1 ?_
  simp only [domWords, List.map_cons, List.map_nil, List.cons_append, List.nil_append, List.sum_cons, List.sum_nil]
  omega
theorem slotWords_len {ds : List Dm} {s : Sl} (h : OkD (dm ds s.dom.toNat)) (hl : s.len.toNat < 100) : (Lib.join (slotWords ds s) [32]).length ≤ 90 := by
  have h1 := join_len (slotWords ds s)
  have h2 := name_short h.name
  have h4 := dec_len hl
  have h7 : kwSlot.data.toList.length = 4 := rfl
  refine Nat.le_trans h1 ?_
  simp only [slotWords, List.map_cons, List.map_nil, List.cons_append, List.nil_append, List.sum_cons, List.sum_nil]
  omega
theorem kw_len (l : Lk) : (kwOf l).data.toList.length = 4 := by unfold kwOf; split <;> rfl
theorem linkWords_len {ds : List Dm} {l : Lk} (h : OkD (dm ds l.src.toNat)) (h' : OkD (dm ds l.dst.toNat)) (hl : l.size.toNat < 100) : (Lib.join (linkWords ds l) [32]).length ≤ 90 := by
  have h1 := join_len (linkWords ds l)
  have h2 := name_short h.name
  have h3 := name_short h'.name
  have h4 := dec_len hl
  have h7 := kw_len l
  refine Nat.le_trans h1 ?_
  simp only [linkWords, List.map_cons, List.map_nil, List.cons_append, List.nil_append, List.sum_cons, List.sum_nil]
  omega
theorem flat_snoc {α : Type} (f : α → List UInt8) {xs : List α} {k : Nat} {x : α} (h : xs[k]? = some x) : (xs.take (k + 1)).flatMap f = (xs.take k).flatMap f ++ f x := by
  rw [List.take_add_one, h]; simp
theorem strCells_bytes (l : List UInt8) : Lib.strCells ⟨l.toArray⟩ = Lib.byteCells l := by
  simp [Lib.strCells, Lib.byteCells]

theorem builder_below {T e : TypeId} {B b : Nat} {bs : List Value} {W W' : World} (h : Lib.IsBuilderF T e B b bs W) (hb : Below W.heap.size W W') : Lib.IsBuilderF T e B b bs W' := by
  have go : ∀ p, Lib.BuilderAtF T e B b p bs W → Lib.BuilderAtF T e B b p bs W' := fun p h => by
    have hlt := h.lt
    obtain ⟨hB, v, hv, hown, hne⟩ := h
    exact ⟨hB, v, (hb.block b hlt).trans hv, hown.kept (row := none) ⟨hb.os, hb.tape, hb.output, hb.size, fun k hk _ => hb.block k hk⟩ (Classical.em _), hne⟩
  exact h.elim (fun x => .inl (go _ x)) (fun x => .inr (go _ x))

end Go.Proofs.YtmhjoomkeidcaaaDoor

/-
  Plain facts on texts of lines: lines of words that are laid together by blanks and line ends have just these words, line by line; and what policy is read of them.
-/
namespace Go.Proofs.YtmhjoomkeidcaaaDoor
open Go.RowKit L2
open L3 (Wd ansOf chop okAll okC wide run step St oneOf wordsOf)

/-- Runes that may be, none of them a blank, a line's end or a remark's sign. -/
def Runes (l : List UInt8) : Prop := ∃ cs : List (List UInt8), l = cs.flatten ∧ ∀ c ∈ cs, okC c = true ∧ wide c = c.length ∧ c ≠ [] ∧ (32 : UInt8) ∉ c ∧ (35 : UInt8) ∉ c ∧ (10 : UInt8) ∉ c

theorem Runes.nil : Runes [] := ⟨[], rfl, fun _ h => by cases h⟩
theorem Runes.append {a b : List UInt8} (h : Runes a) (k : Runes b) : Runes (a ++ b) := by
  obtain ⟨cs, rfl, h1⟩ := h
  obtain ⟨ds, rfl, h2⟩ := k
  refine ⟨cs ++ ds, by simp, fun c hc => ?_⟩
  rcases List.mem_append.1 hc with hc | hc
  · exact h1 c hc
  · exact h2 c hc
theorem Runes.one {c : List UInt8} (h : okC c = true ∧ wide c = c.length ∧ c ≠ [] ∧ (32 : UInt8) ∉ c ∧ (35 : UInt8) ∉ c ∧ (10 : UInt8) ∉ c) : Runes c := ⟨[c], by simp, fun d hd => by simp at hd; subst hd; exact h⟩
theorem ne8 {x y : UInt8} (h : x.toNat ≠ y.toNat) : x ≠ y := fun e => h (by rw [e])
theorem runes_low (x : UInt8) (h : 36 ≤ x.toNat) (h' : x.toNat ≤ 126) : Runes [x] := by
  refine Runes.one ⟨?_, L3.wide_low (by omega), by simp, ?_, ?_, ?_⟩
  · simp only [okC, L3.wide_low (show x.toNat < 128 by omega)]
    rw [decide_eq_false (show ¬ x.toNat < 32 by omega), decide_eq_false (show ¬ x.toNat = 127 by omega)]
    rfl
  all_goals
    simp only [List.mem_singleton]
    exact ne8 (by simp; omega)
theorem runes_two (a b : UInt8) (h : 194 ≤ a.toNat) (h' : a.toNat ≤ 223) (h1 : 128 ≤ b.toNat) (h1' : b.toNat ≤ 191) : Runes [a, b] := by
  have hw := L3.wide_two a b [] h h' h1 h1'
  refine Runes.one ⟨?_, hw, by simp, ?_, ?_, ?_⟩
  · simp only [okC, hw]
    rw [decide_eq_false (show ¬ a.toNat < 32 by omega), decide_eq_false (show ¬ a.toNat = 127 by omega)]
    rfl
  all_goals
    simp only [List.mem_cons, List.not_mem_nil, or_false, not_or]
    exact ⟨ne8 (by simp; omega), ne8 (by simp; omega)⟩

theorem Runes.chop {l : List UInt8} (h : Runes l) : okAll (chop l) ∧ (∀ c ∈ chop l, c ≠ [32] ∧ c ≠ [35] ∧ c ≠ [10]) ∧ (32 : UInt8) ∉ l ∧ (35 : UInt8) ∉ l ∧ (10 : UInt8) ∉ l := by
  obtain ⟨cs, rfl, hc⟩ := h
  rw [L3.chop_back cs (fun c h => ⟨(hc c h).2.1, (hc c h).2.2.1⟩)]
  have no : ∀ x : UInt8, (∀ c ∈ cs, x ∉ c) → x ∉ cs.flatten := fun x hx hm => by
    obtain ⟨c, h1, h2⟩ := List.mem_flatten.1 hm
    exact hx c h1 h2
  refine ⟨fun c h => (hc c h).1, fun c h => ⟨?_, ?_, ?_⟩, no 32 fun c h => (hc c h).2.2.2.1, no 35 fun c h => (hc c h).2.2.2.2.1, no 10 fun c h => (hc c h).2.2.2.2.2⟩
  · intro e; exact (hc c h).2.2.2.1 (by rw [e]; simp)
  · intro e; exact (hc c h).2.2.2.2.1 (by rw [e]; simp)
  · intro e; exact (hc c h).2.2.2.2.2 (by rw [e]; simp)

/-- A word that stands in a text as it is. -/
def GoodW (u : List UInt8) : Prop := u ≠ [] ∧ Runes u

theorem run_chunks (line : Nat) : ∀ (cs : List (List UInt8)) (D : List Wd) (x : Wd) (col : Nat), (∀ c ∈ cs, c ≠ [32] ∧ c ≠ [35] ∧ c ≠ [10]) →
    ∃ col', run ⟨D, some x, line, col, false⟩ cs = ⟨D, some ⟨x.text ++ cs.flatten, x.line, x.col⟩, line, col', false⟩
  | [], D, x, col, _ => ⟨col, by simp [L3.run_nil]⟩
  | c :: cs, D, x, col, h => by
    obtain ⟨h1, h2, h3⟩ := h c (by simp)
    obtain ⟨col', e⟩ := run_chunks line cs D ⟨x.text ++ c, x.line, x.col⟩ (col + 1) (fun d hd => h d (by simp [hd]))
    refine ⟨col', ?_⟩
    rw [L3.run_sign D (some x) line col c cs h2 h3 h1]
    simp only [L3.more]
    rw [e]
    simp
theorem run_word {u : List UInt8} (h : GoodW u) (D : List Wd) (line col : Nat) : ∃ col', run ⟨D, none, line, col, false⟩ (chop u) = ⟨D, some ⟨u, line, col⟩, line, col', false⟩ := by
  have hc := h.2.chop
  have hj := L3.chop_join _ u (Nat.le_refl _)
  cases hcs : chop u with
  | nil => rw [hcs] at hj; exact (h.1 hj.symm).elim
  | cons c cs =>
    rw [hcs] at hc hj
    obtain ⟨h1, h2, h3⟩ := hc.2.1 c (by simp)
    obtain ⟨col', e⟩ := run_chunks line cs D ⟨c, line, col⟩ (col + 1) (fun d hd => hc.2.1 d (by simp [hd]))
    refine ⟨col', ?_⟩
    rw [L3.run_sign D none line col c cs h2 h3 h1]
    simp only [L3.more]
    rw [e]
    simp at hj ⊢
    exact hj

theorem join_two (u v : List UInt8) (r : List (List UInt8)) : Lib.join (u :: v :: r) [32] = u ++ 32 :: Lib.join (v :: r) [32] := by
  rw [Lib.join_cons, Lib.join_cons]
  simp [Lib.joinTail]

/-- The words of a line are those that were laid together. -/
theorem run_join (line : Nat) : ∀ (ws : List (List UInt8)) (D : List Wd) (col : Nat), ws ≠ [] → (∀ u ∈ ws, GoodW u) →
    ∃ L : List Wd, (run ⟨D, none, line, col, false⟩ (chop (Lib.join ws [32]))).all = D ++ L ∧ L.map (·.text) = ws ∧ ∀ x ∈ L, x.line = line
  | [], _, _, h, _ => (h rfl).elim
  | [u], D, col, _, h => by
    obtain ⟨c', e⟩ := run_word (h u (by simp)) D line col
    refine ⟨[⟨u, line, col⟩], ?_, rfl, fun x hx => by simp at hx; subst hx; rfl⟩
    rw [Lib.join_one, e]
    simp [St.all]
  | u :: v :: r, D, col, _, h => by
    obtain ⟨c', e⟩ := run_word (h u (by simp)) D line col
    obtain ⟨L, e2, e3, e4⟩ := run_join line (v :: r) (D ++ [⟨u, line, col⟩]) (c' + 1) (by simp) (fun x hx => h x (by simp [hx]))
    refine ⟨⟨u, line, col⟩ :: L, ?_, by simp [e3], fun x hx => ?_⟩
    · rw [join_two, L3.chop_at 32 (by decide), L3.run_append, e, L3.run_blank]
      simp only [Option.toList_some]
      rw [e2]; simp
    · rcases List.mem_cons.1 hx with rfl | hx
      · rfl
      · exact e4 x hx
theorem join_no (x : UInt8) (hx : x ≠ 32) : ∀ (ws : List (List UInt8)), (∀ u ∈ ws, x ∉ u) → x ∉ Lib.join ws [32]
  | [], _ => by simp [Lib.join_nil]
  | [u], h => by rw [Lib.join_one]; exact h u (by simp)
  | u :: v :: r, h => by
    rw [join_two]
    simp only [List.mem_append, List.mem_cons, not_or]
    exact ⟨h u (by simp), hx, join_no x hx (v :: r) (fun y hy => h y (by simp [hy]))⟩
theorem okAll_join : ∀ (ws : List (List UInt8)), (∀ u ∈ ws, GoodW u) → okAll (chop (Lib.join ws [32]))
  | [], _ => by rw [Lib.join_nil, L3.chop_nil]; intro c hc; cases hc
  | [u], h => by rw [Lib.join_one]; exact (h u (by simp)).2.chop.1
  | u :: v :: r, h => by
    rw [join_two, L3.chop_at 32 (by decide), L3.okAll_append, L3.okAll_cons]
    exact ⟨(h u (by simp)).2.chop.1, by decide, okAll_join (v :: r) (fun y hy => h y (by simp [hy]))⟩

/-- A text of lines of words. -/
def linesText (rows : List (List (List UInt8))) : List UInt8 := rows.flatMap rowText
/-- Lines that have words, each of which stands as it is. -/
def GoodR (rows : List (List (List UInt8))) : Prop := ∀ r ∈ rows, r ≠ [] ∧ ∀ u ∈ r, GoodW u

/-- Words by lines, from a line on. -/
def Grp : Nat → List (List (List UInt8)) → List Wd → Prop
  | _, [], G => G = []
  | line, r :: rs, G => ∃ L G', G = L ++ G' ∧ L.map (·.text) = r ∧ (∀ x ∈ L, x.line = line) ∧ Grp (line + 1) rs G'

theorem lines_words : ∀ (rows : List (List (List UInt8))) (D : List Wd) (line : Nat), GoodR rows → ∃ G, (run ⟨D, none, line, 1, false⟩ (chop (linesText rows))).all = D ++ G ∧ Grp line rows G
  | [], D, line, _ => ⟨[], by simp [linesText, L3.chop_nil, L3.run_nil, St.all], rfl⟩
  | r :: rs, D, line, h => by
    obtain ⟨h1, h2⟩ := h r (by simp)
    have hno : (10 : UInt8) ∉ Lib.join r [32] := join_no 10 (by decide) r (fun u hu => (h2 u hu).2.chop.2.2.2.2)
    obtain ⟨L, e1, e2, e3⟩ := run_join line r [] 1 h1 h2
    have hone : oneOf (Lib.join r [32]) line = L := by
      have := L3.run_one (Lib.join r [32]) hno [] line
      rw [e1] at this
      simpa using this.symm
    obtain ⟨G, e4, e5⟩ := lines_words rs (D ++ L) (line + 1) (fun x hx => h x (by simp [hx]))
    refine ⟨L ++ G, ?_, L, G, rfl, e2, e3, e5⟩
    have e : linesText (r :: rs) = Lib.join r [32] ++ 10 :: linesText rs := by simp [linesText, rowText]
    rw [e, L3.run_more _ _ hno, hone, e4, List.append_assoc]
theorem okAll_lines : ∀ (rows : List (List (List UInt8))), GoodR rows → okAll (chop (linesText rows))
  | [], _ => by simp only [linesText, List.flatMap_nil, L3.chop_nil]; intro c hc; cases hc
  | r :: rs, h => by
    have e : linesText (r :: rs) = Lib.join r [32] ++ 10 :: linesText rs := by simp [linesText, rowText]
    rw [e, L3.chop_at 10 (by decide), L3.okAll_append, L3.okAll_cons]
    exact ⟨okAll_join r (h r (by simp)).2, by decide, okAll_lines rs (fun x hx => h x (by simp [hx]))⟩

theorem grp_lines : ∀ (rows : List (List (List UInt8))) (line : Nat) (G : List Wd), Grp line rows G → ∀ x ∈ G, line ≤ x.line
  | [], _, G, h, x, hx => by rw [show G = [] from h] at hx; cases hx
  | r :: rs, line, G, ⟨L, G', e, _, h3, h4⟩, x, hx => by
    subst e
    rcases List.mem_append.1 hx with hx | hx
    · rw [h3 x hx]; exact Nat.le_refl _
    · have := grp_lines rs (line + 1) G' h4 x hx; omega

theorem runLen_all (K : Nat) : ∀ (L G : List Wd), (∀ x ∈ L, x.line = K) → (∀ x ∈ G, x.line ≠ K) → runLen K (L ++ G) = L.length
  | [], [], _, _ => rfl
  | [], y :: G, _, h => by simp only [List.nil_append, runLen, List.length_nil]; rw [if_neg (h y (by simp))]
  | x :: L, G, h, h' => by
    simp only [List.cons_append, runLen, List.length_cons]
    rw [if_pos (h x (by simp)), runLen_all K L G (fun y hy => h y (by simp [hy])) h']
    omega

/-- Line by line, without the words' places. -/
def foldRows : Pol → Nat → List (List ByteArray) → Nat × Nat × Pol
  | p, _, [] => (0, 0, p)
  | p, line, r :: rs => if (lineOf p r).1 ≠ 0 then ((lineOf p r).1, line, pol0) else foldRows (lineOf p r).2 (line + 1) rs

/-- Words as texts of their own. -/
def mkB (r : List (List UInt8)) : List ByteArray := r.map fun u => ⟨u.toArray⟩
theorem txt_mk (L : List Wd) : txt L = mkB (L.map (·.text)) := by simp [txt, mkB]

theorem rows_fold : ∀ (rows : List (List (List UInt8))) (line : Nat) (G : List Wd) (n : Nat) (p : Pol), (∀ r ∈ rows, r ≠ []) → Grp line rows G → G.length ≤ n → rowsN n p G = foldRows p line (rows.map mkB)
  | [], line, G, n, p, _, h, _ => by
    rw [show G = [] from h, rowsN_nil]; rfl
  | r :: rs, line, G, n, p, hr, ⟨L, G', e, h2, h3, h4⟩, hn => by
    subst e
    have hL : L ≠ [] := fun e => hr r (by simp) (by rw [← h2, e]; rfl)
    obtain ⟨x, L', rfl⟩ : ∃ x L', L = x :: L' := by
      cases L with
      | nil => exact (hL rfl).elim
      | cons x L' => exact ⟨x, L', rfl⟩
    have hx : x.line = line := h3 x (by simp)
    have hlen : rowLen (x :: L' ++ G') = (x :: L').length := by
      simp only [List.cons_append, rowLen, List.length_cons]
      rw [runLen_all x.line L' G' (fun y hy => by rw [h3 y (by simp [hy]), hx]) (fun y hy => by have := grp_lines rs _ G' h4 y hy; omega)]
      omega
    have htake : (x :: L' ++ G').take (rowLen (x :: L' ++ G')) = x :: L' := by rw [hlen, List.take_left']; rfl
    have hdrop : (x :: L' ++ G').drop (rowLen (x :: L' ++ G')) = G' := by rw [hlen, List.drop_left']; rfl
    have htx : txt (x :: L') = mkB r := by rw [txt_mk, h2]
    simp only [List.map_cons, foldRows]
    by_cases he : (lineOf p (mkB r)).1 = 0
    · rw [rowsN_next (by simp) hn (by rw [htake, htx]; exact he), htake, hdrop, htx, if_neg (fun hh => hh he)]
      exact rows_fold rs (line + 1) G' (n - 1) _ (fun q hq => hr q (by simp [hq])) h4 (by simp at hn; omega)
    · rw [rowsN_bad (by simp) hn (by rw [htake, htx]; exact he), htake, htx, if_pos he]
      simp [wd, hx]

theorem parse_lines {rows : List (List (List UInt8))} (h : GoodR rows) (hl : (linesText rows).length ≤ 4096) : parseOf (linesText rows) = finish (foldRows pol0 1 (rows.map mkB)) := by
  have hk := okAll_lines rows h
  have ha := L3.ans_ok hl hk
  obtain ⟨G, e1, e2⟩ := lines_words rows [] 1 h
  have e3 : wordsOf (linesText rows) = G := by
    unfold wordsOf L3.start
    rw [e1]; rfl
  unfold parseOf
  rw [ha]
  simp only [ne_eq, not_true_eq_false, if_false]
  rw [e3, rows_fold rows 1 G G.length pol0 (fun r hr => (h r hr).1) e2 (Nat.le_refl _)]

theorem fold_append : ∀ (a b : List (List ByteArray)) (p : Pol) (line : Nat), (foldRows p line a).1 = 0 → foldRows p line (a ++ b) = foldRows (foldRows p line a).2.2 (line + a.length) b
  | [], b, p, line, _ => by simp [foldRows]
  | r :: a, b, p, line, h => by
    simp only [foldRows, List.cons_append] at h ⊢
    by_cases he : (lineOf p r).1 = 0
    · rw [if_neg (fun hh => hh he)] at h ⊢
      rw [if_neg (fun hh => hh he), fold_append a b _ _ h, List.length_cons, show line + (a.length + 1) = line + 1 + a.length by omega]
    · rw [if_pos he] at h; exact (he h).elim
theorem fold_prefix : ∀ (a b : List (List ByteArray)) (p : Pol) (line : Nat), (foldRows p line (a ++ b)).1 = 0 → (foldRows p line a).1 = 0
  | [], _, _, _, _ => rfl
  | r :: a, b, p, line, h => by
    simp only [foldRows, List.cons_append] at h ⊢
    by_cases he : (lineOf p r).1 = 0
    · rw [if_neg (fun hh => hh he)] at h ⊢
      exact fold_prefix a b _ _ h
    · rw [if_pos he] at h; exact (he h).elim

end Go.Proofs.YtmhjoomkeidcaaaDoor

/-
  What policy.Print comes to: the text of a policy that may be, or why it may not.
-/
namespace Go.Proofs.YtmhjoomkeidcaaaDoor
open Go.RowKit L2

/-- Where Print stands: what is gathered so far. -/
structure PrAt (w1 : World) (acc : List UInt8) (wr : World) : Prop where
  bld : Lib.IsBuilderF 78 5 w1.heap.size w1.heap.size (Lib.byteCells acc) wr
  below : Below w1.heap.size w1 wr
  size : w1.heap.size ≤ wr.heap.size
theorem PrAt.next {w1 wr w' : World} {acc : List UInt8} (h : PrAt w1 acc wr) (k : Below wr.heap.size wr w') : PrAt w1 acc w' :=
  ⟨builder_below h.bld k, h.below.trans (k.mono h.size), Nat.le_trans h.size k.size⟩
theorem PrAt.write {w1 wr w' : World} {acc t : List UInt8} (h : PrAt w1 acc wr) (k : Lib.BuilderAtF 78 5 w1.heap.size w1.heap.size (.pointer (some ⟨w1.heap.size, 0, none⟩)) (Lib.byteCells acc ++ Lib.strCells ⟨t.toArray⟩) w' ∧ Below w1.heap.size wr w' ∧ Lib.OthersKept 5 (some w1.heap.size) wr w') : PrAt w1 (acc ++ t) w' :=
  ⟨by rw [Lib.byteCells_append, ← strCells_bytes t]; exact Or.inr k.1, h.below.trans k.2.1, Nat.le_trans h.size k.2.1.size⟩
theorem PrAt.writes {w1 wr : World} {acc t : List UInt8} (h : PrAt w1 acc wr) (hl : acc.length + t.length ≤ 100000) :
    Calls Tryd.prog 38 #[.pointer (some ⟨w1.heap.size, 0, none⟩), .string ⟨t.toArray⟩] wr fun e w' => (∃ v, e = .returned (.tuple #[v, .nilIface])) ∧ PrAt w1 (acc ++ t) w' ∧ Below w1.heap.size wr w' ∧ Lib.OthersKept 5 (some w1.heap.size) wr w' :=
  (writeString w1.heap.size w1.heap.size _ ⟨t.toArray⟩ wr h.bld (by
    rw [Lib.byteCells_length]
    show acc.length + t.toArray.size ≤ _
    rw [List.size_toArray]; omega) h.size).mono fun e w' ⟨he, hk⟩ => ⟨⟨_, he⟩, h.write hk, hk.2.1, hk.2.2⟩

theorem print_check {p : Pol} (h : checkOf p ≠ 0) : printOf p = ([], checkOf p) := if_neg h
theorem print_text {p : Pol} (h : checkOf p = 0) : printOf p = (polText p, 0) := if_pos h

/-- Words and numbers that were just laid, as printRow takes them. -/
theorem laid_words {w : World} (xs : List ByteArray) (ns : List Nat) (hx : xs.length ≤ 100) :
    ((w.alloc (.cells (cT xs).toArray 9)).alloc (.cells (ns.map fun n : Nat => Value.int .i64 (n : Int)).toArray 3)).ownsRow w.heap.size 9 1 (.slice (some ⟨w.heap.size, 0, none⟩) xs.length xs.length) xs.length (cT xs) :=
  (World.ownsRow_lit (base := w.heap.size) (e := 9) (size := 1) w (cT xs).toArray xs.length (Nat.le_refl _) (by unfold maxLen; omega) (by simp [cT])).alloc _

theorem laid_words2 {w : World} (xs : List ByteArray) (ns : List Nat) (hx : xs.length ≤ 100) :
    ((w.alloc (.cells (ns.map fun n : Nat => Value.int .i64 (n : Int)).toArray 3)).alloc (.cells (cT xs).toArray 9)).ownsRow w.heap.size 9 1 (.slice (some ⟨w.heap.size + 1, 0, none⟩) xs.length xs.length) xs.length (cT xs) := by
  have := World.ownsRow_lit (base := w.heap.size) (e := 9) (size := 1) (w.alloc (.cells (ns.map fun n : Nat => Value.int .i64 (n : Int)).toArray 3)) (cT xs).toArray xs.length (by simp) (by unfold maxLen; omega) (by simp [cT])
  rwa [show (w.alloc (.cells (ns.map fun n : Nat => Value.int .i64 (n : Int)).toArray 3)).heap.size = w.heap.size + 1 by simp] at this
theorem PrAt.lt {w1 wr : World} {acc : List UInt8} (h : PrAt w1 acc wr) : w1.heap.size < wr.heap.size := by
  rcases h.bld with h | h <;> exact h.lt
/-- Behind a call that was handed two new lists: what lay ahead of them stays, and what was laid just ahead of them. -/
theorem laid_keep {wr w3 : World} {s o1 o2 : Obj} (hb : Below (wr.alloc s).heap.size (((wr.alloc s).alloc o1).alloc o2).drew w3) : Below wr.heap.size wr w3 ∧ w3.heap[wr.heap.size]? = some s := by
  have h1 : Below wr.heap.size wr (((wr.alloc s).alloc o1).alloc o2).drew := (below3 wr s o1 o2).drew
  refine ⟨h1.trans (hb.mono (by simp)), (hb.block wr.heap.size (by simp)).trans ?_⟩
  show (((wr.alloc s).alloc o1).alloc o2).heap[wr.heap.size]? = some s
  rw [Lib.alloc_old _ _ _ (by simp; omega), Lib.alloc_old _ _ _ (by simp)]
  exact alloc_at _ _
theorem slotS {w wr w3 : World} {b off : Nat} {v : Value} {NM : ByteArray} {a q : Int} (h1 : w.heap.size < wr.heap.size) (h2 : b < wr.heap.size) (m0 : wr.cell? ⟨w.heap.size, 0, none⟩ = some v) (m1 : wr.cell? ⟨b, off, none⟩ = some (.string NM)) (hb : Below wr.heap.size wr w3) (hk : w3.heap[wr.heap.size]? = some (.cells #[.int .i64 a, .int .i64 q] 39 (0, 0))) :
    w3.cell? ⟨w.heap.size, 0, none⟩ = some v ∧ w3.cell? ⟨wr.heap.size, 0, none⟩ = some (.int .i64 a) ∧ w3.cell? ⟨wr.heap.size, 1, none⟩ = some (.int .i64 q) ∧ w3.cell? ⟨b, off, none⟩ = some (.string NM) :=
  ⟨(hb.cell (p := ⟨w.heap.size, 0, none⟩) h1).trans m0, Lib.cell_of_heap hk 0, Lib.cell_of_heap hk 1, (hb.cell (p := ⟨b, off, none⟩) h2).trans m1⟩
theorem slotK0 {w wr : World} {b off : Nat} {v : Value} {NM : ByteArray} {a q : Int} (h1 : w.heap.size < wr.heap.size) (h2 : b < wr.heap.size) (m0 : wr.cell? ⟨w.heap.size, 0, none⟩ = some v) (m1 : wr.cell? ⟨b, off, none⟩ = some (.string NM)) : (wr.alloc (.cells #[.int .i64 a, .int .i64 q] 39)).drew.cell? ⟨w.heap.size, 0, none⟩ = some v ∧ (wr.alloc (.cells #[.int .i64 a, .int .i64 q] 39)).drew.cell? ⟨wr.heap.size, 0, none⟩ = some (.int .i64 a) ∧ (wr.alloc (.cells #[.int .i64 a, .int .i64 q] 39)).drew.cell? ⟨wr.heap.size, 1, none⟩ = some (.int .i64 q) ∧ (wr.alloc (.cells #[.int .i64 a, .int .i64 q] 39)).drew.cell? ⟨b, off, none⟩ = some (.string NM) :=
  slotS h1 h2 m0 m1 (below1 _ _).drew (alloc_at _ _)
theorem slotK1 {w wr : World} {b off : Nat} {v : Value} {NM : ByteArray} {a q : Int} (h1 : w.heap.size < wr.heap.size) (h2 : b < wr.heap.size) (m0 : wr.cell? ⟨w.heap.size, 0, none⟩ = some v) (m1 : wr.cell? ⟨b, off, none⟩ = some (.string NM)) (o1 : Obj) : ((wr.alloc (.cells #[.int .i64 a, .int .i64 q] 39)).alloc o1).drew.cell? ⟨w.heap.size, 0, none⟩ = some v ∧ ((wr.alloc (.cells #[.int .i64 a, .int .i64 q] 39)).alloc o1).drew.cell? ⟨wr.heap.size, 0, none⟩ = some (.int .i64 a) ∧ ((wr.alloc (.cells #[.int .i64 a, .int .i64 q] 39)).alloc o1).drew.cell? ⟨wr.heap.size, 1, none⟩ = some (.int .i64 q) ∧ ((wr.alloc (.cells #[.int .i64 a, .int .i64 q] 39)).alloc o1).drew.cell? ⟨b, off, none⟩ = some (.string NM) :=
  slotS h1 h2 m0 m1 (below2 _ _ _).drew ((Lib.alloc_old _ _ _ (by simp)).trans (alloc_at _ _))
theorem slotK2 {w wr : World} {b off : Nat} {v : Value} {NM : ByteArray} {a q : Int} (h1 : w.heap.size < wr.heap.size) (h2 : b < wr.heap.size) (m0 : wr.cell? ⟨w.heap.size, 0, none⟩ = some v) (m1 : wr.cell? ⟨b, off, none⟩ = some (.string NM)) (o1 o2 : Obj) : (((wr.alloc (.cells #[.int .i64 a, .int .i64 q] 39)).alloc o1).alloc o2).drew.cell? ⟨w.heap.size, 0, none⟩ = some v ∧ (((wr.alloc (.cells #[.int .i64 a, .int .i64 q] 39)).alloc o1).alloc o2).drew.cell? ⟨wr.heap.size, 0, none⟩ = some (.int .i64 a) ∧ (((wr.alloc (.cells #[.int .i64 a, .int .i64 q] 39)).alloc o1).alloc o2).drew.cell? ⟨wr.heap.size, 1, none⟩ = some (.int .i64 q) ∧ (((wr.alloc (.cells #[.int .i64 a, .int .i64 q] 39)).alloc o1).alloc o2).drew.cell? ⟨b, off, none⟩ = some (.string NM) :=
  slotS h1 h2 m0 m1 (below3 _ _ _ _).drew ((Lib.alloc_old _ _ _ (by simp; omega)).trans ((Lib.alloc_old _ _ _ (by simp)).trans (alloc_at _ _)))
theorem slotS4 {w w1 wr w3 w4 : World} {b off : Nat} {v : Value} {NM : ByteArray} {a q : Int} (h0 : w1.heap.size < wr.heap.size) (h1 : w.heap.size < w1.heap.size) (h2 : b < w1.heap.size) (m0 : wr.cell? ⟨w.heap.size, 0, none⟩ = some v) (m1 : wr.cell? ⟨b, off, none⟩ = some (.string NM)) (hb : Below wr.heap.size wr w3) (hk : w3.heap[wr.heap.size]? = some (.cells #[.int .i64 a, .int .i64 q] 39 (0, 0)))
    (h4 : Below w1.heap.size w3 w4) (o4 : Lib.OthersKept 5 (some w1.heap.size) w3 w4) :
    w4.cell? ⟨w.heap.size, 0, none⟩ = some v ∧ w4.cell? ⟨wr.heap.size, 0, none⟩ = some (.int .i64 a) ∧ w4.cell? ⟨wr.heap.size, 1, none⟩ = some (.int .i64 q) ∧ w4.cell? ⟨b, off, none⟩ = some (.string NM) := by
  have hk4 := o4 _ _ hk (fun e => by injection e with e; omega) (fun c fz e => by injection e with _ e; exact absurd e (by decide))
  exact ⟨(h4.cell (p := ⟨w.heap.size, 0, none⟩) h1).trans ((hb.cell (p := ⟨w.heap.size, 0, none⟩) (by simp only; omega)).trans m0), Lib.cell_of_heap hk4 0, Lib.cell_of_heap hk4 1, (h4.cell (p := ⟨b, off, none⟩) h2).trans ((hb.cell (p := ⟨b, off, none⟩) (by simp only; omega)).trans m1)⟩
theorem slot_nats {nd : Nat} {s : Sl} (h : slotB nd s = true) : ∃ a q : Nat, s.dom = a ∧ s.len = q ∧ a < nd ∧ q < 100 := by
  have := of_decide_eq_true h
  exact ⟨s.dom.toNat, s.len.toNat, by omega, by omega, by omega, by omega⟩
theorem slot_zero {nd : Nat} {ss : List Sl} {i : Nat} (h : slotE nd ss i = 0) : slotB nd (sl ss i) = true := by
  cases hb : slotB nd (sl ss i)
  · rw [slotE_bad hb] at h; cases h
  · rfl

theorem linkS {w wr w3 : World} {b off off' : Nat} {v : Value} {N1 N2 : ByteArray} {x a c q : Int} (h1 : w.heap.size < wr.heap.size) (h2 : b < wr.heap.size) (m0 : wr.cell? ⟨w.heap.size, 0, none⟩ = some v) (m1 : wr.cell? ⟨b, off, none⟩ = some (.string N1)) (m2 : wr.cell? ⟨b, off', none⟩ = some (.string N2)) (hb : Below wr.heap.size wr w3) (hk : w3.heap[wr.heap.size]? = some (.cells #[.int .i64 x, .int .i64 a, .int .i64 c, .int .i64 q] 32 (0, 0))) :
    w3.cell? ⟨w.heap.size, 0, none⟩ = some v ∧ w3.cell? ⟨wr.heap.size, 0, none⟩ = some (.int .i64 x) ∧ w3.cell? ⟨wr.heap.size, 1, none⟩ = some (.int .i64 a) ∧ w3.cell? ⟨wr.heap.size, 2, none⟩ = some (.int .i64 c) ∧ w3.cell? ⟨b, off, none⟩ = some (.string N1) ∧ w3.cell? ⟨b, off', none⟩ = some (.string N2) :=
  ⟨(hb.cell (p := ⟨w.heap.size, 0, none⟩) h1).trans m0, Lib.cell_of_heap hk 0, Lib.cell_of_heap hk 1, Lib.cell_of_heap hk 2, (hb.cell (p := ⟨b, off, none⟩) h2).trans m1, (hb.cell (p := ⟨b, off', none⟩) h2).trans m2⟩
theorem linkK0 {w wr : World} {b off off' : Nat} {v : Value} {N1 N2 : ByteArray} {x a c q : Int} (h1 : w.heap.size < wr.heap.size) (h2 : b < wr.heap.size) (m0 : wr.cell? ⟨w.heap.size, 0, none⟩ = some v) (m1 : wr.cell? ⟨b, off, none⟩ = some (.string N1)) (m2 : wr.cell? ⟨b, off', none⟩ = some (.string N2)) : (wr.alloc (.cells #[.int .i64 x, .int .i64 a, .int .i64 c, .int .i64 q] 32)).drew.cell? ⟨w.heap.size, 0, none⟩ = some v ∧ (wr.alloc (.cells #[.int .i64 x, .int .i64 a, .int .i64 c, .int .i64 q] 32)).drew.cell? ⟨wr.heap.size, 0, none⟩ = some (.int .i64 x) ∧ (wr.alloc (.cells #[.int .i64 x, .int .i64 a, .int .i64 c, .int .i64 q] 32)).drew.cell? ⟨wr.heap.size, 1, none⟩ = some (.int .i64 a) ∧ (wr.alloc (.cells #[.int .i64 x, .int .i64 a, .int .i64 c, .int .i64 q] 32)).drew.cell? ⟨wr.heap.size, 2, none⟩ = some (.int .i64 c) ∧ (wr.alloc (.cells #[.int .i64 x, .int .i64 a, .int .i64 c, .int .i64 q] 32)).drew.cell? ⟨b, off, none⟩ = some (.string N1) ∧ (wr.alloc (.cells #[.int .i64 x, .int .i64 a, .int .i64 c, .int .i64 q] 32)).drew.cell? ⟨b, off', none⟩ = some (.string N2) :=
  linkS h1 h2 m0 m1 m2 (below1 _ _).drew (alloc_at _ _)
theorem linkK1 {w wr : World} {b off off' : Nat} {v : Value} {N1 N2 : ByteArray} {x a c q : Int} (h1 : w.heap.size < wr.heap.size) (h2 : b < wr.heap.size) (m0 : wr.cell? ⟨w.heap.size, 0, none⟩ = some v) (m1 : wr.cell? ⟨b, off, none⟩ = some (.string N1)) (m2 : wr.cell? ⟨b, off', none⟩ = some (.string N2)) (o1 : Obj) : ((wr.alloc (.cells #[.int .i64 x, .int .i64 a, .int .i64 c, .int .i64 q] 32)).alloc o1).drew.cell? ⟨w.heap.size, 0, none⟩ = some v ∧ ((wr.alloc (.cells #[.int .i64 x, .int .i64 a, .int .i64 c, .int .i64 q] 32)).alloc o1).drew.cell? ⟨wr.heap.size, 0, none⟩ = some (.int .i64 x) ∧ ((wr.alloc (.cells #[.int .i64 x, .int .i64 a, .int .i64 c, .int .i64 q] 32)).alloc o1).drew.cell? ⟨wr.heap.size, 1, none⟩ = some (.int .i64 a) ∧ ((wr.alloc (.cells #[.int .i64 x, .int .i64 a, .int .i64 c, .int .i64 q] 32)).alloc o1).drew.cell? ⟨wr.heap.size, 2, none⟩ = some (.int .i64 c) ∧ ((wr.alloc (.cells #[.int .i64 x, .int .i64 a, .int .i64 c, .int .i64 q] 32)).alloc o1).drew.cell? ⟨b, off, none⟩ = some (.string N1) ∧ ((wr.alloc (.cells #[.int .i64 x, .int .i64 a, .int .i64 c, .int .i64 q] 32)).alloc o1).drew.cell? ⟨b, off', none⟩ = some (.string N2) :=
  linkS h1 h2 m0 m1 m2 (below2 _ _ _).drew ((Lib.alloc_old _ _ _ (by simp)).trans (alloc_at _ _))
theorem link_nats {nd : Nat} {l : Lk} (h : endsB nd l = true) (h' : sizeB l = true) : ∃ a c q : Nat, l.src = a ∧ l.dst = c ∧ l.size = q ∧ a < nd ∧ c < nd ∧ q < 100 := by
  have h1 := of_decide_eq_true h
  have h2 := of_decide_eq_true h'
  exact ⟨l.src.toNat, l.dst.toNat, l.size.toNat, by omega, by omega, by omega, by omega, by omega, by omega⟩

set_option maxHeartbeats 8000000 in
set_option maxRecDepth 100000 in
theorem policyPrint_any (a1 a2 a3 : Option Addr) (nd ns nl c1 c2 c3 : Nat) (p : Pol) (w : World) (h1 : p.ds.length = nd) (h2 : p.ss.length = ns) (h3 : p.ls.length = nl) (hh : Held w a1 a2 a3 c1 c2 c3 p) :
    Calls Tryd.prog 18 #[.agg #[.slice a1 nd c1, .slice a2 ns c2, .slice a3 nl c3]] w fun e w' => e = .returned (.tuple #[.string ⟨(printOf p).1.toArray⟩, .int .i64 ((printOf p).2 : Nat)]) ∧ Below w.heap.size w w' := by
  have hC := fun W hW => check_any a1 a2 a3 nd ns nl c1 c2 c3 p W h1 h2 h3 hW
  have HH : Hid (Held w a1 a2 a3 c1 c2 c3 p) := hh
  clear hh
  by_cases hck : checkOf p = 0
  · obtain ⟨z0, z1, z2, z3, z4⟩ := check_zero hck
    have HT : Hid (printOf p = (p.ds.flatMap domText ++ (p.ss.flatMap (slotText p.ds) ++ p.ls.flatMap (linkText p.ds)), 0)) := print_text hck
    rw [HT.out]
    rw [hck] at hC
    clear HT hck
    rw [h1] at z1 z2 z3
    rw [h2] at z2
    rw [h3] at z4
    rw [countB_of, h1, h2, h3] at z0
    have hbd := countB_bounds z0
    have HOK : Hid (∀ i, i < nd → OkD (dm p.ds i)) := fun i hi => okD_of (z1 i hi)
    have HSL : Hid (∀ i, i < ns → slotE nd p.ss i = 0) := z2
    have HLK : Hid (∀ i, i < nl → linkE p.ds p.ls i = 0) := z4
    clear z0 z1 z2 z3 z4
    obtain ⟨ds, ss, ls⟩ := p
    dsimp only at *
    go_enter Tryd.func18, Tryd.ntmps18
    go_wp2_with fail
    refine (hC _ (HH.out.below (below1 _ _))).mono ?_
    rintro e w1 ⟨rfl, hB1⟩
    obtain ⟨hz1, x0, x1, x2⟩ := pol_cells hB1
    have hBw : Below w.heap.size w w1 := (below1 _ _).trans (hB1.mono (by simp))
    have HH1 : Hid (Held w1 a1 a2 a3 c1 c2 c3 ⟨ds, ss, ls⟩) := HH.out.below hBw
    have HX : Hid (w1.cell? ⟨w.heap.size, 0, none⟩ = some (.slice a1 nd c1) ∧ w1.cell? ⟨w.heap.size, 1, none⟩ = some (.slice a2 ns c2) ∧ w1.cell? ⟨w.heap.size, 2, none⟩ = some (.slice a3 nl c3)) := ⟨x0, x1, x2⟩
    clear HH hC hB1
    have g0 : ∀ o, (w1.alloc o).cell? ⟨w.heap.size, 0, none⟩ = some (.slice a1 nd c1) := fun o => kept_old (below1 w1 o) hz1 0 x0
    have HP0 : Hid (PrAt w1 [] (w1.alloc (.cells #[.pointer none, .slice none 0 0] 78))) := ⟨Lib.IsBuilderF.of (Lib.fresh_isBuilder 78 5 w1), below1 _ _, by simp⟩
    go_wp2_with fail
    clear g0 x0 x1 x2
    go_loopw [23] (fun i wr => ∃ k : Nat, k ≤ nd ∧ i = .int .i64 k ∧ PrAt w1 ((ds.take k).flatMap domText) wr ∧ ((ds.take k).flatMap domText).length ≤ k * 100) (fun i _ => nd - (intOf i).toNat)
    case atStart => exact ⟨0, Nat.zero_le _, rfl, HP0.out, Nat.le_refl _⟩
    case round =>
      clear HP0
      obtain ⟨k, hk, rfl, hP, hal⟩ := hrel
      have HPA : Hid (PrAt w1 ((ds.take k).flatMap domText) wr) := hP
      have hsz := hP.size
      have hbl := hP.below
      clear hP
      by_cases hlt : k < nd
      · obtain ⟨b, off, rfl, hb, q0, q1, q2, q3, q4, q5⟩ := (HH1.out.below hbl).d.dom (dm_at (i := k) (by show k < ds.length; omega))
        have hok := HOK.out k hlt
        have HSN : Hid ((ds.take (k + 1)).flatMap domText = (ds.take k).flatMap domText ++ domText (dm ds k)) := flat_snoc domText (dm_at (by omega))
        generalize (ds.take k).flatMap domText = acc at *
        generalize dm ds k = d at *
        obtain ⟨L, K, hL, hK, hL7, hK6⟩ := hok.lab
        obtain ⟨qa, qb, qc, ha, hb', hc, la, lb, lc⟩ := hok.quo
        have hwl := domWords_len hok
        have HDW : Hid (domWords d = [kwDomain, d.name, textB L K].map (·.data.toList) ++ [qa, qb, qc].map Lib.decDigits) := by
          unfold domWords
          rw [hL, hK, ha, hb', hc]
          simp only [Int.toNat_natCast, List.map_cons, List.map_nil]
          rw [textB_list]; exact rfl
        rw [hL] at q1
        rw [hK] at q2
        rw [ha] at q3
        rw [hb'] at q4
        rw [hc] at q5
        have HTX : Hid (domText d = rowText ([kwDomain, d.name, textB L K].map (·.data.toList) ++ [qa, qb, qc].map Lib.decDigits)) := by unfold domText; rw [HDW.out]; exact rfl
        have htl : (domText d).length ≤ 100 := by unfold domText rowText; rw [List.length_append]; simp; omega
        rw [HDW.out] at hwl
        have hPr := fun W => print_yes L K hL7 hK6 W
        have hR := fun (W : World) => printRow_any W.heap.size W.heap.size 3 (W.heap.size + 1) [kwDomain, d.name, textB L K] [qa, qb, qc] ((W.alloc (.cells (cT [kwDomain, d.name, textB L K]).toArray 9)).alloc (.cells ([qa, qb, qc].map fun n : Nat => Value.int .i64 (n : Int)).toArray 3)) rfl (by omega) (laid_words _ _ (by simp)) (by simp; omega) (alloc_at2 _ _ _) (by intro n hn; simp at hn; omega) (by simp) (by omega)
        rw [← HTX.out] at hR
        have HR : Hid (∀ W : World, Calls Tryd.prog 39 #[.slice (some ⟨W.heap.size, 0, none⟩) 3 3, .slice (some ⟨W.heap.size + 1, 0, none⟩) 3 3] ((W.alloc (.cells #[.string kwDomain, .string d.name, .string (textB L K)] 9)).alloc (.cells #[.int .i64 (qa : Int), .int .i64 (qb : Int), .int .i64 (qc : Int)] 3)) fun e w' => e = .returned (.string ⟨(domText d).toArray⟩) ∧ Below W.heap.size ((W.alloc (.cells #[.string kwDomain, .string d.name, .string (textB L K)] 9)).alloc (.cells #[.int .i64 (qa : Int), .int .i64 (qb : Int), .int .i64 (qc : Int)] 3)) w') := hR
        clear hR hwl HDW HTX hok hL hK ha hb' hc
        generalize domText d = TX at *
        generalize textB L K = TL at *
        generalize d.name = NM at *
        generalize (L : Int) = LI at *
        generalize (K : Int) = KI at *
        go_wp2_with fail
        refine (hPr _).mono ?_
        rintro e w2 ⟨rfl, hB2⟩
        obtain ⟨hy, y0, y1, y2, y3, y4, y5⟩ := dom_cells (d := ⟨NM, LI, KI, (qa : Int), (qb : Int), (qc : Int)⟩) hB2
        dsimp only at y0 y1 y2 y3 y4 y5
        have hPA2 : PrAt w1 acc w2 := HPA.out.next ((below1 _ _).trans (hB2.mono (by simp)))
        have HPA2 : Hid (PrAt w1 acc w2) := hPA2
        clear hPA2 hB2 hPr
        go_wp2_with fail
        refine (HR.out w2).mono ?_
        rintro e w3 ⟨rfl, hB3⟩
        have hPA3 : PrAt w1 acc w3 := HPA2.out.next ((below2 _ _ _).trans hB3)
        go_wp2_with fail
        refine (hPA3.writes (t := TX) (by omega)).mono ?_
        rintro e w4 ⟨⟨v, rfl⟩, hPA4, _, _⟩
        have HPA4 : Hid (PrAt w1 (acc ++ TX) w4) := hPA4
        clear hPA3 hPA4 hB3
        go_wp2_with fail
        go_roundw
        case rel => exact ⟨k + 1, by omega, by go_num, by rw [HSN.out]; exact HPA4.out, by rw [HSN.out, List.length_append]; omega⟩
        case measure => simp [intOf]; omega
      · have ht : ds.take k = ds := List.take_of_length_le (by omega)
        rw [ht] at HPA hal
        have HX2 := HX.out.2.1
        have m1 : wr.cell? ⟨w.heap.size, 1, none⟩ = some (.slice a2 ns c2) := (hbl.cell (p := ⟨w.heap.size, 1, none⟩) hz1).trans HX2
        have hzr : w.heap.size < wr.heap.size := by omega
        have HAD : Hid ((ds.flatMap domText).length ≤ 800) := by show _ ≤ 800; omega
        clear ht HX2
        go_wp2_with fail
        clear m1 hal hk hlt hsz hbl hzr
        go_loopw [50] (fun i wr => ∃ k : Nat, k ≤ ns ∧ i = .int .i64 k ∧ PrAt w1 (ds.flatMap domText ++ (ss.take k).flatMap (slotText ds)) wr ∧ ((ss.take k).flatMap (slotText ds)).length ≤ k * 100) (fun i _ => ns - (intOf i).toNat)
        case atStart => exact ⟨0, Nat.zero_le _, rfl, by rw [List.take_zero, List.flatMap_nil, List.append_nil]; exact HPA.out, Nat.le_refl _⟩
        case round =>
          clear HPA
          obtain ⟨k, hk, rfl, hP, hal⟩ := hrel
          have HPA : Hid (PrAt w1 (ds.flatMap domText ++ (ss.take k).flatMap (slotText ds)) wr) := hP
          have hsz := hP.size
          have hbl := hP.below
          clear hP
          by_cases hlt : k < ns
          · obtain ⟨b, off, rfl, hb, q0, q1⟩ := (HH1.out.below hbl).s.slot (sl_at (i := k) (by show k < ss.length; omega))
            obtain ⟨a, q, ha, hq, hal', hq9⟩ := slot_nats (slot_zero (HSL.out k hlt))
            obtain ⟨b2, off2, rfl, hb2, n0, _⟩ := (HH1.out).d.dom (dm_at (i := a) (by show a < ds.length; omega))
            have hok := HOK.out a hal'
            have HSN : Hid ((ss.take (k + 1)).flatMap (slotText ds) = (ss.take k).flatMap (slotText ds) ++ slotText ds (sl ss k)) := flat_snoc (slotText ds) (sl_at (by omega))
            have hwl := slotWords_len (ds := ds) (s := sl ss k) (by rw [ha]; simp only [Int.toNat_natCast]; exact hok) (by rw [hq]; simp only [Int.toNat_natCast]; exact hq9)
            have hdw : slotWords ds (sl ss k) = [kwSlot, (dm ds a).name].map (·.data.toList) ++ [q].map Lib.decDigits := by
              unfold slotWords
              rw [ha, hq]
              simp only [Int.toNat_natCast, List.map_cons, List.map_nil]
            have HDW : Hid (slotWords ds (sl ss k) = [kwSlot, (dm ds a).name].map (·.data.toList) ++ [q].map Lib.decDigits) := hdw
            clear hdw
            have HTX : Hid (slotText ds (sl ss k) = rowText ([kwSlot, (dm ds a).name].map (·.data.toList) ++ [q].map Lib.decDigits)) := by unfold slotText; rw [HDW.out]; exact rfl
            have htl : (slotText ds (sl ss k)).length ≤ 100 := by unfold slotText rowText; rw [List.length_append]; simp; omega
            rw [HDW.out] at hwl
            rw [ha] at q0
            rw [hq] at q1
            generalize (dm ds a).name = NM at *
            have hRa := fun (W : World) => printRow_any W.heap.size W.heap.size 2 (W.heap.size + 1) [kwSlot, NM] [q] ((W.alloc (.cells (cT [kwSlot, NM]).toArray 9)).alloc (.cells ([q].map fun n : Nat => Value.int .i64 (n : Int)).toArray 3)).drew rfl (by omega) (laid_words (w := W) _ _ (by simp)) (by simp; omega) (alloc_at2 _ _ _) (by intro n hn; simp at hn; omega) (by simp) (by omega)
            have hRb := fun (W : World) => printRow_any W.heap.size (W.heap.size + 1) 2 W.heap.size [kwSlot, NM] [q] ((W.alloc (.cells ([q].map fun n : Nat => Value.int .i64 (n : Int)).toArray 3)).alloc (.cells (cT [kwSlot, NM]).toArray 9)).drew rfl (by omega) (laid_words2 (w := W) _ _ (by simp)) (by simp; omega) ((Lib.alloc_old _ _ _ (by simp)).trans (alloc_at _ _)) (by intro n hn; simp at hn; omega) (by simp) (by omega)
            rw [← HTX.out] at hRa hRb
            have hszs : (wr.alloc (.cells #[.int .i64 (a : Int), .int .i64 (q : Int)] 39)).heap.size = wr.heap.size + 1 := by simp
            have hA : Calls Tryd.prog 39 #[.slice (some ⟨wr.heap.size + 1, 0, none⟩) 2 2, .slice (some ⟨wr.heap.size + 1 + 1, 0, none⟩) 1 1] (((wr.alloc (.cells #[.int .i64 (a : Int), .int .i64 (q : Int)] 39)).alloc (.cells #[.string ⟨#[115, 108, 111, 116]⟩, .string NM] 9)).alloc (.cells #[.int .i64 (q : Int)] 3)).drew fun e w' => e = .returned (.string ⟨(slotText ds (sl ss k)).toArray⟩) ∧ Below (wr.alloc (.cells #[.int .i64 (a : Int), .int .i64 (q : Int)] 39)).heap.size (((wr.alloc (.cells #[.int .i64 (a : Int), .int .i64 (q : Int)] 39)).alloc (.cells #[.string ⟨#[115, 108, 111, 116]⟩, .string NM] 9)).alloc (.cells #[.int .i64 (q : Int)] 3)).drew w' := by
              have := hRa (wr.alloc (.cells #[.int .i64 (a : Int), .int .i64 (q : Int)] 39))
              rw [hszs] at this ⊢
              exact this
            have hBB : Calls Tryd.prog 39 #[.slice (some ⟨wr.heap.size + 1 + 1, 0, none⟩) 2 2, .slice (some ⟨wr.heap.size + 1, 0, none⟩) 1 1] (((wr.alloc (.cells #[.int .i64 (a : Int), .int .i64 (q : Int)] 39)).alloc (.cells #[.int .i64 (q : Int)] 3)).alloc (.cells #[.string ⟨#[115, 108, 111, 116]⟩, .string NM] 9)).drew fun e w' => e = .returned (.string ⟨(slotText ds (sl ss k)).toArray⟩) ∧ Below (wr.alloc (.cells #[.int .i64 (a : Int), .int .i64 (q : Int)] 39)).heap.size (((wr.alloc (.cells #[.int .i64 (a : Int), .int .i64 (q : Int)] 39)).alloc (.cells #[.int .i64 (q : Int)] 3)).alloc (.cells #[.string ⟨#[115, 108, 111, 116]⟩, .string NM] 9)).drew w' := by
              have := hRb (wr.alloc (.cells #[.int .i64 (a : Int), .int .i64 (q : Int)] 39))
              rw [hszs] at this ⊢
              exact this
            have HA : Hid (Calls Tryd.prog 39 #[.slice (some ⟨wr.heap.size + 1, 0, none⟩) 2 2, .slice (some ⟨wr.heap.size + 1 + 1, 0, none⟩) 1 1] (((wr.alloc (.cells #[.int .i64 (a : Int), .int .i64 (q : Int)] 39)).alloc (.cells #[.string ⟨#[115, 108, 111, 116]⟩, .string NM] 9)).alloc (.cells #[.int .i64 (q : Int)] 3)).drew fun e w' => e = .returned (.string ⟨(slotText ds (sl ss k)).toArray⟩) ∧ Below (wr.alloc (.cells #[.int .i64 (a : Int), .int .i64 (q : Int)] 39)).heap.size (((wr.alloc (.cells #[.int .i64 (a : Int), .int .i64 (q : Int)] 39)).alloc (.cells #[.string ⟨#[115, 108, 111, 116]⟩, .string NM] 9)).alloc (.cells #[.int .i64 (q : Int)] 3)).drew w') := hA
            have HBB : Hid (Calls Tryd.prog 39 #[.slice (some ⟨wr.heap.size + 1 + 1, 0, none⟩) 2 2, .slice (some ⟨wr.heap.size + 1, 0, none⟩) 1 1] (((wr.alloc (.cells #[.int .i64 (a : Int), .int .i64 (q : Int)] 39)).alloc (.cells #[.int .i64 (q : Int)] 3)).alloc (.cells #[.string ⟨#[115, 108, 111, 116]⟩, .string NM] 9)).drew fun e w' => e = .returned (.string ⟨(slotText ds (sl ss k)).toArray⟩) ∧ Below (wr.alloc (.cells #[.int .i64 (a : Int), .int .i64 (q : Int)] 39)).heap.size (((wr.alloc (.cells #[.int .i64 (a : Int), .int .i64 (q : Int)] 39)).alloc (.cells #[.int .i64 (q : Int)] 3)).alloc (.cells #[.string ⟨#[115, 108, 111, 116]⟩, .string NM] 9)).drew w') := hBB
            clear hA hBB hszs
            clear hRa hRb hwl HDW HTX hok ha hq hb
            have hacc : (ds.flatMap domText ++ (ss.take k).flatMap (slotText ds)).length ≤ 800 + k * 100 := by rw [List.length_append]; have := HAD.out; omega
            have HEQ : Hid (ds.flatMap domText ++ (ss.take (k + 1)).flatMap (slotText ds) = (ds.flatMap domText ++ (ss.take k).flatMap (slotText ds)) ++ slotText ds (sl ss k) ∧ ((ss.take (k + 1)).flatMap (slotText ds)).length ≤ (k + 1) * 100) := ⟨by rw [HSN.out, List.append_assoc], by rw [HSN.out, List.length_append]; omega⟩
            clear HSN hal
            generalize ds.flatMap domText ++ (ss.take k).flatMap (slotText ds) = acc at *
            generalize slotText ds (sl ss k) = TX at *
            have hlt1 := HPA.out.lt
            have m0 : wr.cell? ⟨w.heap.size, 0, none⟩ = some (.slice (some ⟨b2, off2, none⟩) nd c1) := (hbl.cell (p := ⟨w.heap.size, 0, none⟩) hz1).trans HX.out.1
            have m1 : wr.cell? ⟨b2, off2 + a * 6, none⟩ = some (.string NM) := (hbl.cell (p := ⟨b2, off2 + a * 6, none⟩) hb2).trans n0
            have hzr : w.heap.size < wr.heap.size := by omega
            have hb2r : b2 < wr.heap.size := by omega
            have g1 : (0 : Int) ≤ (a : Int) := by omega
            have g2 : (a : Int) < (nd : Int) := by omega
            have j1 : w.heap.size < wr.heap.size + 1 := by omega
            have j2 : w.heap.size < wr.heap.size + 1 + 1 := by omega
            have j3 : b2 < wr.heap.size + 1 := by omega
            have j4 : b2 < wr.heap.size + 1 + 1 := by omega
            have j5 : wr.heap.size < wr.heap.size + 1 + 1 := by omega
            clear n0
            go_wp2_with fail
            go_region_held3 (fun w' => w'.cell? ⟨w.heap.size, 0, none⟩ = some (.slice (some ⟨b2, off2, none⟩) nd c1) ∧ w'.cell? ⟨wr.heap.size, 0, none⟩ = some (.int .i64 (a : Int)) ∧ w'.cell? ⟨wr.heap.size, 1, none⟩ = some (.int .i64 (q : Int)) ∧ w'.cell? ⟨b2, off2 + a * 6, none⟩ = some (.string NM))
              (first | (with_reducible exact hS4) | (with_reducible exact hS3) | (with_reducible exact slotK2 hzr hb2r m0 m1 _ _) | (with_reducible exact slotK1 hzr hb2r m0 m1 _) | (with_reducible exact slotK0 hzr hb2r m0 m1) | go_keep)
              (first
                | (go_at_call 39; (with_reducible refine HA.out.mono ?_); rintro e w3 ⟨rfl, hb3⟩; obtain ⟨hbw3, hk3⟩ := laid_keep hb3; have hS3 := slotS hzr hb2r m0 m1 hbw3 hk3; have hPA3 := HPA.out.next hbw3)
                | (go_at_call 39; (with_reducible refine HBB.out.mono ?_); rintro e w3 ⟨rfl, hb3⟩; obtain ⟨hbw3, hk3⟩ := laid_keep hb3; have hS3 := slotS hzr hb2r m0 m1 hbw3 hk3; have hPA3 := HPA.out.next hbw3)
                | (go_at_call 38; refine (hPA3.writes (t := TX) (by omega)).mono ?_; rintro e w4 ⟨⟨v, rfl⟩, hPA4, hB4, hO4⟩; have hS4 := slotS4 hlt1 hz1 hb2 m0 m1 hbw3 hk3 hB4 hO4))
            all_goals
              have HPA4 : Hid (PrAt w1 (acc ++ TX) w4) := hPA4
              clear hPA4 hB4 hO4 hPA3
              go_wp2_with fail
              go_roundw
              case rel => exact ⟨k + 1, by omega, by go_num, by rw [HEQ.out.1]; exact HPA4.out, HEQ.out.2⟩
              case measure => simp [intOf]; omega
          · have ht : ss.take k = ss := List.take_of_length_le (by omega)
            rw [ht] at HPA hal
            have m2 : wr.cell? ⟨w.heap.size, 2, none⟩ = some (.slice a3 nl c3) := (hbl.cell (p := ⟨w.heap.size, 2, none⟩) hz1).trans HX.out.2.2
            have hzr : w.heap.size < wr.heap.size := by omega
            have hacc : (ds.flatMap domText ++ ss.flatMap (slotText ds)).length ≤ 2400 := by rw [List.length_append]; have := HAD.out; omega
            have HAC : Hid ((ds.flatMap domText ++ ss.flatMap (slotText ds)).length ≤ 2400) := hacc
            clear ht hacc HAD
            go_wp2_with fail
            clear m2 hal hk hlt hsz hbl hzr
            go_loopw [71] (fun i wr => ∃ k : Nat, k ≤ nl ∧ i = .int .i64 k ∧ PrAt w1 ((ds.flatMap domText ++ ss.flatMap (slotText ds)) ++ (ls.take k).flatMap (linkText ds)) wr ∧ ((ls.take k).flatMap (linkText ds)).length ≤ k * 100) (fun i _ => nl - (intOf i).toNat)
            case atStart => exact ⟨0, Nat.zero_le _, rfl, by rw [List.take_zero, List.flatMap_nil, List.append_nil]; exact HPA.out, Nat.le_refl _⟩
            case round =>
              clear HPA
              obtain ⟨k, hk, rfl, hP, hal⟩ := hrel
              have HPA : Hid (PrAt w1 ((ds.flatMap domText ++ ss.flatMap (slotText ds)) ++ (ls.take k).flatMap (linkText ds)) wr) := hP
              have hsz := hP.size
              have hbl := hP.below
              clear hP
              by_cases hlt : k < nl
              · obtain ⟨b, off, rfl, hb, q0, q1, q2, q3⟩ := (HH1.out.below hbl).l.link (lk_at (i := k) (by show k < ls.length; omega))
                obtain ⟨y1, y2, y3⟩ := link_zero (HLK.out k hlt)
                rw [h1] at y1
                obtain ⟨a, c, q, ha, hc, hq, hal', hcl', hq9⟩ := link_nats y1 y2
                obtain ⟨b2, off2, rfl, hb2, n0, _⟩ := (HH1.out).d.dom (dm_at (i := a) (by show a < ds.length; omega))
                obtain ⟨b3, off3, he3, _, n1, _⟩ := (HH1.out).d.dom (dm_at (i := c) (by show c < ds.length; omega))
                injection he3 with he3
                injection he3 with e5 e6
                subst e5 e6
                have hok := HOK.out a hal'
                have hok2 := HOK.out c hcl'
                have HSN : Hid ((ls.take (k + 1)).flatMap (linkText ds) = (ls.take k).flatMap (linkText ds) ++ linkText ds (lk ls k)) := flat_snoc (linkText ds) (lk_at (by omega))
                have hwl := linkWords_len (ds := ds) (l := lk ls k) (by rw [ha]; simp only [Int.toNat_natCast]; exact hok) (by rw [hc]; simp only [Int.toNat_natCast]; exact hok2) (by rw [hq]; simp only [Int.toNat_natCast]; exact hq9)
                have hdw : linkWords ds (lk ls k) = [kwOf (lk ls k), (dm ds a).name, (dm ds c).name].map (·.data.toList) ++ [q].map Lib.decDigits := by
                  unfold linkWords
                  rw [ha, hc, hq]
                  simp only [Int.toNat_natCast, List.map_cons, List.map_nil]
                have HDW : Hid (linkWords ds (lk ls k) = [kwOf (lk ls k), (dm ds a).name, (dm ds c).name].map (·.data.toList) ++ [q].map Lib.decDigits) := hdw
                have HTX : Hid (linkText ds (lk ls k) = rowText ([kwOf (lk ls k), (dm ds a).name, (dm ds c).name].map (·.data.toList) ++ [q].map Lib.decDigits)) := by unfold linkText; rw [HDW.out]; exact rfl
                have htl : (linkText ds (lk ls k)).length ≤ 100 := by unfold linkText rowText; rw [List.length_append]; simp; omega
                rw [HDW.out] at hwl
                have hKD : ∀ W, Calls Tryd.prog 40 #[.int .i64 (lk ls k).kind] W fun e w' => e = .returned (.string (kwOf (lk ls k))) ∧ w' = W := fun W => kind_any (lk ls k) W
                rw [ha] at q1
                rw [hc] at q2
                rw [hq] at q3
                clear ha hc hq y1 y2 y3 hdw HDW
                generalize (dm ds a).name = NM at *
                generalize (dm ds c).name = NN at *
                generalize kwOf (lk ls k) = KW at *
                generalize (lk ls k).kind = lk0 at *
                have hRa := fun (W : World) => printRow_any W.heap.size W.heap.size 3 (W.heap.size + 1) [KW, NM, NN] [q] ((W.alloc (.cells (cT [KW, NM, NN]).toArray 9)).alloc (.cells ([q].map fun n : Nat => Value.int .i64 (n : Int)).toArray 3)).drew rfl (by omega) (laid_words (w := W) _ _ (by simp)) (by simp; omega) (alloc_at2 _ _ _) (by intro n hn; simp at hn; omega) (by simp) (by omega)
                rw [← HTX.out] at hRa
                have hszs : (wr.alloc (.cells #[.int .i64 lk0, .int .i64 (a : Int), .int .i64 (c : Int), .int .i64 (q : Int)] 32)).heap.size = wr.heap.size + 1 := by simp
                have hA : Calls Tryd.prog 39 #[.slice (some ⟨wr.heap.size + 1, 0, none⟩) 3 3, .slice (some ⟨wr.heap.size + 1 + 1, 0, none⟩) 1 1] (((wr.alloc (.cells #[.int .i64 lk0, .int .i64 (a : Int), .int .i64 (c : Int), .int .i64 (q : Int)] 32)).alloc (.cells #[.string KW, .string NM, .string NN] 9)).alloc (.cells #[.int .i64 (q : Int)] 3)).drew fun e w' => e = .returned (.string ⟨(linkText ds (lk ls k)).toArray⟩) ∧ Below (wr.alloc (.cells #[.int .i64 lk0, .int .i64 (a : Int), .int .i64 (c : Int), .int .i64 (q : Int)] 32)).heap.size (((wr.alloc (.cells #[.int .i64 lk0, .int .i64 (a : Int), .int .i64 (c : Int), .int .i64 (q : Int)] 32)).alloc (.cells #[.string KW, .string NM, .string NN] 9)).alloc (.cells #[.int .i64 (q : Int)] 3)).drew w' := by
                  have := hRa (wr.alloc (.cells #[.int .i64 lk0, .int .i64 (a : Int), .int .i64 (c : Int), .int .i64 (q : Int)] 32))
                  rw [hszs] at this ⊢
                  exact this
                have HA : Hid (Calls Tryd.prog 39 #[.slice (some ⟨wr.heap.size + 1, 0, none⟩) 3 3, .slice (some ⟨wr.heap.size + 1 + 1, 0, none⟩) 1 1] (((wr.alloc (.cells #[.int .i64 lk0, .int .i64 (a : Int), .int .i64 (c : Int), .int .i64 (q : Int)] 32)).alloc (.cells #[.string KW, .string NM, .string NN] 9)).alloc (.cells #[.int .i64 (q : Int)] 3)).drew fun e w' => e = .returned (.string ⟨(linkText ds (lk ls k)).toArray⟩) ∧ Below (wr.alloc (.cells #[.int .i64 lk0, .int .i64 (a : Int), .int .i64 (c : Int), .int .i64 (q : Int)] 32)).heap.size (((wr.alloc (.cells #[.int .i64 lk0, .int .i64 (a : Int), .int .i64 (c : Int), .int .i64 (q : Int)] 32)).alloc (.cells #[.string KW, .string NM, .string NN] 9)).alloc (.cells #[.int .i64 (q : Int)] 3)).drew w') := hA
                clear hA hszs hRa hwl HTX hok hok2 hb
                have hacc : ((ds.flatMap domText ++ ss.flatMap (slotText ds)) ++ (ls.take k).flatMap (linkText ds)).length ≤ 2400 + k * 100 := by rw [List.length_append]; have := HAC.out; omega
                have HEQ : Hid ((ds.flatMap domText ++ ss.flatMap (slotText ds)) ++ (ls.take (k + 1)).flatMap (linkText ds) = ((ds.flatMap domText ++ ss.flatMap (slotText ds)) ++ (ls.take k).flatMap (linkText ds)) ++ linkText ds (lk ls k) ∧ ((ls.take (k + 1)).flatMap (linkText ds)).length ≤ (k + 1) * 100) := ⟨by rw [HSN.out]; simp only [List.append_assoc], by rw [HSN.out, List.length_append]; omega⟩
                clear HSN hal
                generalize (ds.flatMap domText ++ ss.flatMap (slotText ds)) ++ (ls.take k).flatMap (linkText ds) = acc at *
                generalize linkText ds (lk ls k) = TX at *
                have hlt1 := HPA.out.lt
                have m0 : wr.cell? ⟨w.heap.size, 0, none⟩ = some (.slice (some ⟨b2, off2, none⟩) nd c1) := (hbl.cell (p := ⟨w.heap.size, 0, none⟩) hz1).trans HX.out.1
                have m1 : wr.cell? ⟨b2, off2 + a * 6, none⟩ = some (.string NM) := (hbl.cell (p := ⟨b2, off2 + a * 6, none⟩) hb2).trans n0
                have m2 : wr.cell? ⟨b2, off2 + c * 6, none⟩ = some (.string NN) := (hbl.cell (p := ⟨b2, off2 + c * 6, none⟩) hb2).trans n1
                have hzr : w.heap.size < wr.heap.size := by omega
                have hb2r : b2 < wr.heap.size := by omega
                have g1 : (0 : Int) ≤ (a : Int) := by omega
                have g2 : (a : Int) < (nd : Int) := by omega
                have g3 : (0 : Int) ≤ (c : Int) := by omega
                have g4 : (c : Int) < (nd : Int) := by omega
                have j5 : wr.heap.size < wr.heap.size + 1 + 1 := by omega
                clear n0 n1
                go_wp2_with fail
                go_region_held3 (fun w' => w'.cell? ⟨w.heap.size, 0, none⟩ = some (.slice (some ⟨b2, off2, none⟩) nd c1) ∧ w'.cell? ⟨wr.heap.size, 0, none⟩ = some (.int .i64 lk0) ∧ w'.cell? ⟨wr.heap.size, 1, none⟩ = some (.int .i64 (a : Int)) ∧ w'.cell? ⟨wr.heap.size, 2, none⟩ = some (.int .i64 (c : Int)) ∧ w'.cell? ⟨b2, off2 + a * 6, none⟩ = some (.string NM) ∧ w'.cell? ⟨b2, off2 + c * 6, none⟩ = some (.string NN))
                  (first | (with_reducible exact linkK1 hzr hb2r m0 m1 m2 _) | (with_reducible exact linkK0 hzr hb2r m0 m1 m2) | go_keep)
                  (first | (go_at_call 40; refine (hKD _).mono ?_; rintro e w2 ⟨rfl, rfl⟩))
                go_wp2_with fail
                refine HA.out.mono ?_
                rintro e w3 ⟨rfl, hb3⟩
                obtain ⟨hbw3, hk3⟩ := laid_keep hb3
                have hPA3 := HPA.out.next hbw3
                go_wp2_with fail
                refine (hPA3.writes (t := TX) (by omega)).mono ?_
                rintro e w4 ⟨⟨v, rfl⟩, hPA4, _, _⟩
                have HPA4 : Hid (PrAt w1 (acc ++ TX) w4) := hPA4
                clear hPA4 hPA3 hbw3 hk3 hb3
                go_wp2_with fail
                go_roundw
                case rel => exact ⟨k + 1, by omega, by go_num, by rw [HEQ.out.1]; exact HPA4.out, HEQ.out.2⟩
                case measure => simp [intOf]; omega
              · have ht : ls.take k = ls := List.take_of_length_le (by omega)
                rw [ht, List.append_assoc] at HPA
                clear ht hal
                obtain ⟨acc, hac⟩ : ∃ acc, acc = ds.flatMap domText ++ (ss.flatMap (slotText ds) ++ ls.flatMap (linkText ds)) := ⟨_, rfl⟩
                rw [← hac] at HPA
                have HACC : Hid (acc = ds.flatMap domText ++ (ss.flatMap (slotText ds) ++ ls.flatMap (linkText ds))) := hac
                clear hac
                go_wp2_with fail
                refine (builderString w1.heap.size w1.heap.size acc _ HPA.out.bld hsz).mono ?_
                rintro e w5 ⟨rfl, _, hb5, _⟩
                go_wp2
                go_ret2
                exact ⟨by rw [← HACC.out]; rfl, hBw.trans ((hbl.trans hb5).mono hBw.size)⟩
  · have hne : ((checkOf p : Int) != 0) = true := by simp; exact hck
    rw [print_check hck]
    clear hck
    generalize checkOf p = ck at *
    go_enter Tryd.func18, Tryd.ntmps18
    go_wp2_with fail
    refine (hC _ (HH.out.below (below1 _ _))).mono ?_
    rintro e w1 ⟨rfl, hB1⟩
    go_wp2
    go_ret2
    exact ⟨rfl, (below1 _ _).trans (hB1.mono (by simp))⟩

end Go.Proofs.YtmhjoomkeidcaaaDoor

/-
  Plain facts on a policy's text: read again it is that policy.
-/
namespace Go.Proofs.YtmhjoomkeidcaaaDoor
open Go.RowKit L2

/-- The lines of a policy, as words. -/
def rowsOf (p : Pol) : List (List (List UInt8)) := p.ds.map domWords ++ (p.ss.map (slotWords p.ds) ++ p.ls.map (linkWords p.ds))
theorem polText_rows (p : Pol) : polText p = linesText (rowsOf p) := by
  simp only [polText, linesText, rowsOf, List.flatMap_append, List.flatMap_map]
  rfl

theorem runes_letters : ∀ (l : List UInt8) (k : Nat), letters l = some k → Runes l
  | [], _, _ => Runes.nil
  | [a], k, h => by
    simp only [letters] at h
    split at h
    · exact runes_low a (by omega) (by omega)
    · cases h
  | a :: b :: r, k, h => by
    by_cases h1 : 97 ≤ a.toNat ∧ a.toNat ≤ 122
    · rw [letters_latin a _ h1] at h
      cases h2 : letters (b :: r) with
      | none => rw [h2] at h; cases h
      | some j => exact Runes.append (a := [a]) (runes_low a (by omega) (by omega)) (runes_letters (b :: r) j h2)
    · by_cases hg : 0 ≤ greekB a.toNat b.toNat ∧ greekB a.toNat b.toNat ≤ 24
      · rw [letters_greek a b r h1 hg] at h
        cases h2 : letters r with
        | none => rw [h2] at h; cases h
        | some j =>
          refine Runes.append (a := [a, b]) ?_ (runes_letters r j h2)
          unfold greekB at hg
          split at hg
          · exact runes_two a b (by omega) (by omega) (by omega) (by omega)
          · split at hg
            · exact runes_two a b (by omega) (by omega) (by omega) (by omega)
            · omega
      · rw [letters_other a b r h1 hg] at h; cases h
theorem good_name {s : ByteArray} (h : nameB s = true) : GoodW s.data.toList := by
  unfold nameB at h
  cases hl : letters s.data.toList with
  | none => rw [hl] at h; cases h
  | some k =>
    refine ⟨fun e => ?_, runes_letters _ k hl⟩
    rw [e] at hl
    simp only [letters, Option.some.injEq] at hl
    subst hl
    rw [e] at h
    exact absurd h (by decide)
theorem runes_signs (c : Nat) : ∀ (k n : Nat), n + k ≤ 16 → Runes (signsFrom c k n)
  | 0, _, _ => Runes.nil
  | k + 1, n, h => by
    rw [signsFrom]
    refine Runes.append ?_ (runes_signs c k (n + 1) (by omega))
    split
    · unfold signOf
      refine runes_two _ _ ?_ ?_ ?_ ?_
      all_goals rw [toUInt8_toNat _ (by omega)]
      all_goals omega
    · exact Runes.nil
theorem good_text {l : Nat} (c : Nat) (hl : l ≤ 7) : GoodW (textOf l c) := by
  refine ⟨by simp [textOf], ?_⟩
  have e : textOf l c = [(48 + l).toUInt8] ++ ([123] ++ (signsFrom c 16 0 ++ [125])) := rfl
  rw [e]
  refine Runes.append (runes_low _ ?_ ?_) (Runes.append (runes_low _ (by decide) (by decide)) (Runes.append (runes_signs c 16 0 (by omega)) (runes_low _ (by decide) (by decide))))
  all_goals rw [toUInt8_toNat _ (by omega)]
  all_goals omega
theorem dec_form {n : Nat} (h : n < 100) : (n < 10 ∧ Lib.decDigits n = [UInt8.ofNat (48 + n)]) ∨ (10 ≤ n ∧ Lib.decDigits n = [UInt8.ofNat (48 + n / 10), UInt8.ofNat (48 + n % 10)]) := by
  by_cases h1 : n < 10
  · left; rw [Lib.decDigits, dif_pos h1]; exact ⟨h1, rfl⟩
  · right; rw [Lib.decDigits, dif_neg h1, Lib.decDigits, dif_pos (by omega)]; exact ⟨by omega, rfl⟩
theorem ofNat_toNat {n : Nat} (h : n < 256) : (UInt8.ofNat n).toNat = n := by simp; omega
theorem good_dec {n : Nat} (h : n < 100) : GoodW (Lib.decDigits n) := by
  rcases dec_form h with ⟨h1, e⟩ | ⟨h1, e⟩
  · rw [e]; exact ⟨by simp, runes_low _ (by rw [ofNat_toNat (by omega)]; omega) (by rw [ofNat_toNat (by omega)]; omega)⟩
  · rw [e]
    refine ⟨by simp, Runes.append (a := [_]) (runes_low _ ?_ ?_) (runes_low _ ?_ ?_)⟩
    all_goals rw [ofNat_toNat (by omega)]
    all_goals omega
theorem num_dec {n : Nat} (h : n < 100) : numOf ⟨(Lib.decDigits n).toArray⟩ = some n := by
  unfold numOf
  rcases dec_form h with ⟨h1, e⟩ | ⟨h1, e⟩
  · rw [e]
    have hf : formB [UInt8.ofNat (48 + n)] = true := by simp [formB]
    simp only [hf, if_true, digs, ofNat_toNat (show 48 + n < 256 by omega)]
    rw [if_pos (by omega)]
    congr 1; omega
  · rw [e]
    have hf : formB [UInt8.ofNat (48 + n / 10), UInt8.ofNat (48 + n % 10)] = true := by
      simp only [formB, List.length_cons, List.length_nil, List.head?_cons, Option.some.injEq]
      refine decide_eq_true ⟨by omega, by omega, fun hh => ?_⟩
      have := congrArg UInt8.toNat hh.2
      rw [ofNat_toNat (by omega)] at this
      simp at this; omega
    simp only [hf, if_true, digs, ofNat_toNat (show 48 + n / 10 < 256 by omega), ofNat_toNat (show 48 + n % 10 < 256 by omega)]
    rw [if_pos (by omega), if_pos (by omega)]
    congr 1; omega
theorem good_low (l : List UInt8) (h : l ≠ []) (h' : ∀ x ∈ l, 36 ≤ x.toNat ∧ x.toNat ≤ 126) : GoodW l := by
  refine ⟨h, ?_⟩
  clear h
  induction l with
  | nil => exact Runes.nil
  | cons x l ih => exact Runes.append (a := [x]) (runes_low x (h' x (by simp)).1 (h' x (by simp)).2) (ih (fun y hy => h' y (by simp [hy])))
theorem good_kw : GoodW kwDomain.data.toList ∧ GoodW kwSlot.data.toList ∧ GoodW kwCell.data.toList ∧ GoodW kwPump.data.toList :=
  ⟨good_low _ (by decide) (by decide), good_low _ (by decide) (by decide), good_low _ (by decide) (by decide), good_low _ (by decide) (by decide)⟩

/-- What is asked of a policy's parts, place by place. -/
theorem parts_ok {p : Pol} (h : checkOf p = 0) : (∀ i, i < p.ds.length → OkD (dm p.ds i)) ∧ (∀ i, i < p.ss.length → slotB p.ds.length (sl p.ss i) = true) ∧ (∀ i, i < p.ls.length → endsB p.ds.length (lk p.ls i) = true ∧ sizeB (lk p.ls i) = true) := by
  obtain ⟨_, h1, h2, _, h4⟩ := check_zero h
  exact ⟨fun i hi => okD_of (h1 i hi), fun i hi => slot_zero (h2 i hi), fun i hi => ⟨(link_zero (h4 i hi)).1, (link_zero (h4 i hi)).2.1⟩⟩

theorem good_rows {p : Pol} (h : checkOf p = 0) : GoodR (rowsOf p) := by
  obtain ⟨h1, h2, h3⟩ := parts_ok h
  obtain ⟨k1, k2, k3, k4⟩ := good_kw
  intro r hr
  simp only [rowsOf, List.mem_append, List.mem_map] at hr
  rcases hr with ⟨d, hd, rfl⟩ | ⟨s, hs, rfl⟩ | ⟨l, hl, rfl⟩
  · obtain ⟨i, hi, e⟩ := List.mem_iff_getElem.1 hd
    have ok := h1 i hi
    rw [show dm p.ds i = d by simp [dm, hi, e]] at ok
    obtain ⟨l, c, e1, e2, e3, _⟩ := ok.lab
    obtain ⟨a, b, c', e4, e5, e6, e7, e8, e9⟩ := ok.quo
    refine ⟨by simp [domWords], fun u hu => ?_⟩
    simp only [domWords, List.map_cons, List.map_nil, List.cons_append, List.nil_append, List.mem_cons, List.not_mem_nil, or_false] at hu
    rcases hu with rfl | rfl | rfl | rfl | rfl | rfl
    · exact k1
    · exact good_name ok.name
    · exact good_text _ (by omega)
    · exact good_dec (by omega)
    · exact good_dec (by omega)
    · exact good_dec (by omega)
  · obtain ⟨i, hi, e⟩ := List.mem_iff_getElem.1 hs
    have ok := of_decide_eq_true (h2 i hi)
    rw [show sl p.ss i = s by simp [sl, hi, e]] at ok
    have od := h1 s.dom.toNat (by omega)
    refine ⟨by simp [slotWords], fun u hu => ?_⟩
    simp only [slotWords, List.map_cons, List.map_nil, List.cons_append, List.nil_append, List.mem_cons, List.not_mem_nil, or_false] at hu
    rcases hu with rfl | rfl | rfl
    · exact k2
    · exact good_name od.name
    · exact good_dec (by omega)
  · obtain ⟨i, hi, e⟩ := List.mem_iff_getElem.1 hl
    have ok := of_decide_eq_true (h3 i hi).1
    have ok2 := of_decide_eq_true (h3 i hi).2
    rw [show lk p.ls i = l by simp [lk, hi, e]] at ok ok2
    have od := h1 l.src.toNat (by omega)
    have od2 := h1 l.dst.toNat (by omega)
    refine ⟨by simp [linkWords], fun u hu => ?_⟩
    simp only [linkWords, List.map_cons, List.map_nil, List.cons_append, List.nil_append, List.mem_cons, List.not_mem_nil, or_false] at hu
    rcases hu with rfl | rfl | rfl | rfl
    · unfold kwOf; split
      · exact k3
      · exact k4
    · exact good_name od.name
    · exact good_name od2.name
    · exact good_dec (by omega)

end Go.Proofs.YtmhjoomkeidcaaaDoor

/-
  Plain facts on a policy's text: each of its lines adds its own thing, so that the text read again is the policy; and a line that is none among its lines is told by its number.
-/
namespace Go.Proofs.YtmhjoomkeidcaaaDoor
open Go.RowKit L2

theorem place_le (nm : ByteArray) : ∀ (ds : List Dm) (i k : Nat) (d : Dm), ds[k]? = some d → d.name = nm → placeFrom nm ds i ≤ ((i + k : Nat) : Int)
  | [], _, _, _, h, _ => by simp at h
  | x :: ds, i, 0, d, h, hn => by
    simp at h
    subst h
    simp only [placeFrom]
    rw [if_pos hn]; simp
  | x :: ds, i, k + 1, d, h, hn => by
    simp at h
    simp only [placeFrom]
    split
    · omega
    · have := place_le nm ds (i + 1) k d h hn
      omega
theorem place_is {ds : List Dm} {k : Nat} (hk : k < ds.length) (h : nameBad ds k = false) : placeOf ds (dm ds k).name = (k : Int) := by
  have h1 := place_le (dm ds k).name ds 0 k _ (dm_at hk) rfl
  rw [nameBad_ref hk] at h
  have h2 : decide (placeOf ds (dm ds k).name < (k : Int)) = false := by
    cases hd : decide (placeOf ds (dm ds k).name < (k : Int))
    · rfl
    · rw [hd] at h; simp at h
  have h3 := of_decide_eq_false h2
  unfold placeOf at h3 ⊢
  rw [Nat.zero_add] at h1
  omega

theorem ba_back (s : ByteArray) : (⟨s.data.toList.toArray⟩ : ByteArray) = s := by simp

theorem nums_of_one {n : Nat} (h : n < 100) : numsOf [⟨(Lib.decDigits n).toArray⟩] 1 = some [n] := by
  simp [numsOf, num_dec h]
theorem nums_of_three {a b c : Nat} (ha : a < 100) (hb : b < 100) (hc : c < 100) : numsOf [⟨(Lib.decDigits a).toArray⟩, ⟨(Lib.decDigits b).toArray⟩, ⟨(Lib.decDigits c).toArray⟩] 3 = some [a, b, c] := by
  simp [numsOf, num_dec ha, num_dec hb, num_dec hc]

theorem dom_line {ds : List Dm} {k : Nat} (ss : List Sl) (ls : List Lk) (hk : k < ds.length) (h : domE ds k = 0) : lineOf ⟨ds.take k, ss, ls⟩ (mkB (domWords (dm ds k))) = (0, ⟨ds.take (k + 1), ss, ls⟩) := by
  have ok := okD_of h
  obtain ⟨hn, _, _⟩ := dom_zero h
  obtain ⟨l, c, e1, e2, e3, e3'⟩ := ok.lab
  obtain ⟨a, b, c', e4, e5, e6, e7, e8, e9⟩ := ok.quo
  have hnext : ds.take (k + 1) = ds.take k ++ [dm ds k] := by rw [List.take_add_one, dm_at hk]; rfl
  rw [hnext]
  generalize hd : dm ds k = d at *
  have hnm : (!nameB d.name || decide (0 ≤ placeOf (ds.take k) d.name)) = false := by
    have := hn
    unfold nameBad at this
    rw [hd] at this
    exact this
  obtain ⟨nm, lev, cat, tk, ob, rg⟩ := d
  simp only at e1 e2 e4 e5 e6 hnm ok
  subst e1 e2 e4 e5 e6
  simp only [domWords, mkB, List.map_cons, List.map_nil, List.cons_append, List.nil_append, lineOf, ba_back, if_true, domLine]
  rw [hnm]
  simp only [Bool.false_eq_true, if_false, Int.toNat_natCast]
  rw [show (⟨(textOf l c).toArray⟩ : ByteArray) = textB l c from rfl, refRead_of l c e3 e3', nums_of_three e7 e8 e9]
theorem slot_line {ds : List Dm} {s : Sl} (ss : List Sl) (ls : List Lk) (h : slotB ds.length s = true) (hd : ∀ i, i < ds.length → domE ds i = 0) : lineOf ⟨ds, ss, ls⟩ (mkB (slotWords ds s)) = (0, ⟨ds, ss ++ [s], ls⟩) := by
  have ok := of_decide_eq_true h
  have hp := place_is (ds := ds) (k := s.dom.toNat) (by omega) (dom_zero (hd _ (by omega))).1
  obtain ⟨dom, len⟩ := s
  simp only at ok hp
  have hp' : placeOf ds (dm ds dom.toNat).name = dom := by rw [hp]; omega
  simp only [slotWords, mkB, List.map_cons, List.map_nil, List.cons_append, List.nil_append, lineOf, ba_back, if_true, slotLine]
  rw [hp', if_neg (by omega), nums_of_one (by omega)]
  simp only [Prod.mk.injEq, true_and, Pol.mk.injEq, List.append_cancel_left_eq, List.cons.injEq, Sl.mk.injEq, and_true]
  omega
theorem link_line {ds : List Dm} {l : Lk} (ss : List Sl) (ls : List Lk) (h : endsB ds.length l = true) (h2 : sizeB l = true) (hd : ∀ i, i < ds.length → domE ds i = 0) : lineOf ⟨ds, ss, ls⟩ (mkB (linkWords ds l)) = (0, ⟨ds, ss, ls ++ [l]⟩) := by
  have ok := of_decide_eq_true h
  have ok2 := of_decide_eq_true h2
  have hp := place_is (ds := ds) (k := l.src.toNat) (by omega) (dom_zero (hd _ (by omega))).1
  have hq := place_is (ds := ds) (k := l.dst.toNat) (by omega) (dom_zero (hd _ (by omega))).1
  obtain ⟨kind, src, dst, size⟩ := l
  simp only at ok ok2 hp hq
  have hp' : placeOf ds (dm ds src.toNat).name = src := by rw [hp]; omega
  have hq' : placeOf ds (dm ds dst.toNat).name = dst := by rw [hq]; omega
  rcases ok2 with ⟨e, s1, s2⟩ | ⟨e, s1, s2⟩
  · subst e
    simp only [linkWords, kwOf, if_true, mkB, List.map_cons, List.map_nil, List.cons_append, List.nil_append, lineOf, ba_back, linkLine]
    rw [hp', hq', if_neg (by omega), nums_of_one (by omega)]
    simp only [Prod.mk.injEq, true_and, Pol.mk.injEq, List.append_cancel_left_eq, List.cons.injEq, Lk.mk.injEq, and_true]
    omega
  · subst e
    have hk : kwOf ⟨2, src, dst, size⟩ = kwPump := rfl
    simp only [linkWords, hk, mkB, List.map_cons, List.map_nil, List.cons_append, List.nil_append, lineOf, ba_back, linkLine]
    rw [if_neg (show ¬ kwPump = kwCell by decide), if_pos trivial, hp', hq', if_neg (by omega), nums_of_one (by omega)]
    simp only [Prod.mk.injEq, true_and, Pol.mk.injEq, List.append_cancel_left_eq, List.cons.injEq, Lk.mk.injEq, and_true]
    omega

/-- Lines each of which adds its thing. -/
theorem fold_build : ∀ (rows : List (List ByteArray)) (f : Nat → Pol) (line : Nat), (∀ k r, rows[k]? = some r → lineOf (f k) r = (0, f (k + 1))) → foldRows (f 0) line rows = (0, 0, f rows.length)
  | [], f, line, _ => rfl
  | r :: rs, f, line, h => by
    have h0 := h 0 r rfl
    simp only [foldRows, h0, List.length_cons]
    rw [if_neg (fun hh => hh rfl)]
    exact fold_build rs (fun k => f (k + 1)) (line + 1) (fun k r' hk => h (k + 1) r' (by simpa using hk))

theorem fold_pol {p : Pol} (h : checkOf p = 0) : foldRows pol0 1 ((rowsOf p).map mkB) = (0, 0, p) := by
  obtain ⟨_, hd, hs, _, hl⟩ := check_zero h
  obtain ⟨_, hs2, hl2⟩ := parts_ok h
  obtain ⟨ds, ss, ls⟩ := p
  simp only at hd hs hl hs2 hl2
  have A := fold_build (ds.map fun d => mkB (domWords d)) (fun k => ⟨ds.take k, [], []⟩) 1 (fun k r hr => by
    rw [List.getElem?_map] at hr
    cases hk : ds[k]? with
    | none => rw [hk] at hr; cases hr
    | some d =>
      rw [hk] at hr
      simp only [Option.map_some, Option.some.injEq] at hr
      have hlt := (List.getElem?_eq_some_iff.1 hk).1
      have e : dm ds k = d := by simp [dm, hk]
      rw [← hr, ← e]
      exact dom_line [] [] hlt (hd k hlt))
  have B := fold_build (ss.map fun s => mkB (slotWords ds s)) (fun k => ⟨ds, ss.take k, []⟩) (1 + (ds.map fun d => mkB (domWords d)).length) (fun k r hr => by
    rw [List.getElem?_map] at hr
    cases hk : ss[k]? with
    | none => rw [hk] at hr; cases hr
    | some s =>
      rw [hk] at hr
      simp only [Option.map_some, Option.some.injEq] at hr
      have hlt := (List.getElem?_eq_some_iff.1 hk).1
      have e : sl ss k = s := by simp [sl, hk]
      rw [← hr, List.take_add_one, hk, ← e]
      exact slot_line _ [] (hs2 k hlt) hd)
  have C := fold_build (ls.map fun l => mkB (linkWords ds l)) (fun k => ⟨ds, ss, ls.take k⟩) (1 + (ds.map fun d => mkB (domWords d)).length + (ss.map fun s => mkB (slotWords ds s)).length) (fun k r hr => by
    rw [List.getElem?_map] at hr
    cases hk : ls[k]? with
    | none => rw [hk] at hr; cases hr
    | some l =>
      rw [hk] at hr
      simp only [Option.map_some, Option.some.injEq] at hr
      have hlt := (List.getElem?_eq_some_iff.1 hk).1
      have e : lk ls k = l := by simp [lk, hk]
      rw [← hr, List.take_add_one, hk, ← e]
      exact link_line ss _ (hl2 k hlt).1 (hl2 k hlt).2 hd)
  simp only [List.length_map, List.take_length, List.take_zero] at A B C
  have e : (rowsOf ⟨ds, ss, ls⟩).map mkB = (ds.map fun d => mkB (domWords d)) ++ ((ss.map fun s => mkB (slotWords ds s)) ++ (ls.map fun l => mkB (linkWords ds l))) := by simp only [rowsOf, List.map_append, List.map_map]; rfl
  have A' : foldRows pol0 1 (ds.map fun d => mkB (domWords d)) = (0, 0, ⟨ds, [], []⟩) := A
  rw [e, fold_append _ _ _ _ (by rw [A']), A', List.length_map, fold_append _ _ _ _ (by rw [B]), B, List.length_map, C]

/-- No line of a policy is long. -/
theorem rows_short {p : Pol} (h : checkOf p = 0) : ∀ r ∈ rowsOf p, (Lib.join r [32]).length ≤ 90 := by
  obtain ⟨h1, h2, h3⟩ := parts_ok h
  intro r hr
  simp only [rowsOf, List.mem_append, List.mem_map] at hr
  rcases hr with ⟨d, hd, rfl⟩ | ⟨s, hs, rfl⟩ | ⟨l, hl, rfl⟩
  · obtain ⟨i, hi, e⟩ := List.mem_iff_getElem.1 hd
    have ok := h1 i hi
    rw [show dm p.ds i = d by simp [dm, hi, e]] at ok
    exact domWords_len ok
  · obtain ⟨i, hi, e⟩ := List.mem_iff_getElem.1 hs
    have ok := of_decide_eq_true (h2 i hi)
    rw [show sl p.ss i = s by simp [sl, hi, e]] at ok
    exact slotWords_len (h1 s.dom.toNat (by omega)) (by omega)
  · obtain ⟨i, hi, e⟩ := List.mem_iff_getElem.1 hl
    have ok := of_decide_eq_true (h3 i hi).1
    have ok2 := of_decide_eq_true (h3 i hi).2
    rw [show lk p.ls i = l by simp [lk, hi, e]] at ok ok2
    exact linkWords_len (h1 l.src.toNat (by omega)) (h1 l.dst.toNat (by omega)) (by omega)
theorem lines_short : ∀ (rows : List (List (List UInt8))), (∀ r ∈ rows, (Lib.join r [32]).length ≤ 90) → (linesText rows).length ≤ 91 * rows.length
  | [], _ => by simp [linesText]
  | r :: rs, h => by
    have h1 := h r (by simp)
    have h2 := lines_short rs (fun x hx => h x (by simp [hx]))
    have e : linesText (r :: rs) = Lib.join r [32] ++ 10 :: linesText rs := by simp [linesText, rowText]
    rw [e]
    simp only [List.length_append, List.length_cons]
    omega
theorem rows_few {p : Pol} (h : checkOf p = 0) : (rowsOf p).length ≤ 32 := by
  have hc := of_decide_eq_true (check_zero h).1
  simp only [rowsOf, List.length_append, List.length_map]
  omega

/-- A policy comes back of its text. -/
theorem parse_back {p : Pol} (h : checkOf p = 0) : parseOf (polText p) = (0, 0, p) := by
  have hl := lines_short (rowsOf p) (rows_short h)
  have hf := rows_few h
  rw [polText_rows, parse_lines (good_rows h) (by omega), fold_pol h]
  simp [finish, h]

/-- What was parsed may be. -/
theorem parse_checked {l : List UInt8} (h : (parseOf l).1 = 0) : checkOf (parseOf l).2.2 = 0 := by
  unfold parseOf at h ⊢
  split
  · rename_i he
    rw [if_pos he] at h
    exact (he h).elim
  · rename_i he
    rw [if_neg he] at h
    unfold finish at h ⊢
    split
    · rename_i h1
      rw [if_pos h1] at h
      exact (h1 h).elim
    · rename_i h1
      rw [if_neg h1] at h
      split
      · rename_i h2
        rw [if_pos h2] at h
        exact (h2 h).elim
      · rename_i h2
        exact Classical.byContradiction h2
/-- What was not parsed is nothing. -/
theorem parse_nothing {l : List UInt8} (h : (parseOf l).1 ≠ 0) : (parseOf l).2.2 = pol0 := by
  unfold parseOf at h ⊢
  split
  · rfl
  · rename_i he
    rw [if_neg he] at h
    unfold finish at h ⊢
    split
    · rfl
    · rename_i h1
      rw [if_neg h1] at h
      split
      · rfl
      · rename_i h2
        rw [if_neg h2] at h
        exact (h rfl).elim

/-- The line that is none. -/
def badRow : List (List UInt8) := [kwDomain.data.toList, [97]]
theorem bad_good : badRow ≠ [] ∧ ∀ u ∈ badRow, GoodW u := by
  refine ⟨by simp [badRow], fun u hu => ?_⟩
  simp only [badRow, List.mem_cons, List.not_mem_nil, or_false] at hu
  rcases hu with rfl | rfl
  · exact good_kw.1
  · exact good_low _ (by decide) (by decide)
/-- A line that is none, behind the first lines of a policy's text, is told by its number. -/
theorem parse_line {p : Pol} (h : checkOf p = 0) (a b : List (List (List UInt8))) (hr : rowsOf p = a ++ b) : parseOf (linesText (a ++ badRow :: b)) = (2, a.length + 1, pol0) := by
  have hg := good_rows h
  have hs := rows_short h
  have hf := rows_few h
  have hp := fold_pol h
  rw [hr] at hg hs hf hp
  have hg' : GoodR (a ++ badRow :: b) := fun r hrr => by
    rcases List.mem_append.1 hrr with h1 | h1
    · exact hg r (by simp [h1])
    · rcases List.mem_cons.1 h1 with rfl | h1
      · exact bad_good
      · exact hg r (by simp [h1])
  have hl := lines_short (a ++ badRow :: b) (fun r hrr => by
    rcases List.mem_append.1 hrr with h1 | h1
    · exact hs r (by simp [h1])
    · rcases List.mem_cons.1 h1 with rfl | h1
      · decide
      · exact hs r (by simp [h1]))
  rw [parse_lines hg' (by simp only [List.length_append, List.length_cons] at hl hf ⊢; omega), List.map_append, List.map_cons]
  have h1 : (foldRows pol0 1 (a.map mkB)).1 = 0 := fold_prefix (a.map mkB) (b.map mkB) pol0 1 (by rw [← List.map_append, hp])
  rw [fold_append _ _ _ _ h1]
  have h2 : ∀ q : Pol, lineOf q (mkB badRow) = (2, q) := fun q => rfl
  simp only [foldRows, h2, List.length_map]
  rw [if_pos (by decide)]
  simp only [finish]
  rw [if_pos (by decide)]
  congr 2; omega

end Go.Proofs.YtmhjoomkeidcaaaDoor

/-
  The document's own comparing of two policies says yes of two that are one.
-/
namespace Go.Proofs.YtmhjoomkeidcaaaDoor
open Go.RowKit L2

theorem box6 {w wr : World} {x0 x1 x2 y0 y1 y2 : Value} (h : Below (w.heap.size + 2) ((w.alloc (.cells #[x0, x1, x2] 26)).alloc (.cells #[y0, y1, y2] 26)) wr) :
    wr.cell? ⟨w.heap.size, 0, none⟩ = some x0 ∧ wr.cell? ⟨w.heap.size, 1, none⟩ = some x1 ∧ wr.cell? ⟨w.heap.size, 2, none⟩ = some x2 ∧ wr.cell? ⟨w.heap.size + 1, 0, none⟩ = some y0 ∧ wr.cell? ⟨w.heap.size + 1, 1, none⟩ = some y1 ∧ wr.cell? ⟨w.heap.size + 1, 2, none⟩ = some y2 := by
  refine ⟨?_, ?_, ?_, ?_, ?_, ?_⟩
  all_goals
    rw [h.cell (by simp only; omega)]
    simp [go_sem]

set_option maxHeartbeats 4000000 in
set_option maxRecDepth 100000 in
theorem same_any (a1 a2 a3 b1 b2 b3 : Option Addr) (n1 n2 n3 c1 c2 c3 d1 d2 d3 : Nat) (p : Pol) (w : World) (e1 : p.ds.length = n1) (e2 : p.ss.length = n2) (e3 : p.ls.length = n3) (l1 : n1 ≤ 5000) (l2 : n2 ≤ 5000) (l3 : n3 ≤ 5000) (hA : Held w a1 a2 a3 c1 c2 c3 p) (hB : Held w b1 b2 b3 d1 d2 d3 p) :
    Calls Tryd.prog 17 #[.agg #[.slice a1 n1 c1, .slice a2 n2 c2, .slice a3 n3 c3], .agg #[.slice b1 n1 d1, .slice b2 n2 d2, .slice b3 n3 d3]] w fun e w' => e = .returned (.bool true) ∧ Below w.heap.size w w' := by
  have HA : Hid (Held w a1 a2 a3 c1 c2 c3 p) := hA
  have HB : Hid (Held w b1 b2 b3 d1 d2 d3 p) := hB
  clear hA hB
  have q1 : ((n1 : Int) != (n1 : Int)) = false := by simp
  have q2 : ((n2 : Int) != (n2 : Int)) = false := by simp
  have q3 : ((n3 : Int) != (n3 : Int)) = false := by simp
  have hBel : Below w.heap.size w ((w.alloc (.cells #[.slice a1 n1 c1, .slice a2 n2 c2, .slice a3 n3 c3] 26)).alloc (.cells #[.slice b1 n1 d1, .slice b2 n2 d2, .slice b3 n3 d3] 26)) := ((Below.refl _ _).alloc (Nat.le_refl _) _).alloc (by simp) _
  go_enter Tryd.func17, Tryd.ntmps17
  go_wp2
  go_loopw [5] (fun i wr => ∃ k : Nat, k ≤ n1 ∧ i = .int .i64 k ∧ Below (w.heap.size + 2) ((w.alloc (.cells #[.slice a1 n1 c1, .slice a2 n2 c2, .slice a3 n3 c3] 26)).alloc (.cells #[.slice b1 n1 d1, .slice b2 n2 d2, .slice b3 n3 d3] 26)) wr) (fun i _ => n1 - (intOf i).toNat)
  case atStart => exact ⟨0, Nat.zero_le _, rfl, Below.refl _ _⟩
  case round =>
    obtain ⟨k, hk, rfl, hnx⟩ := hrel
    obtain ⟨x0, x1, x2, y0, y1, y2⟩ := box6 hnx
    have hW : Below w.heap.size w wr := hBel.trans (hnx.mono (by omega))
    by_cases hlt : k < n1
    · obtain ⟨b, o, rfl, _, f0, f1, f2, f3, f4, f5⟩ := (HA.out.d.below hW).dom (dm_at (show k < p.ds.length by omega))
      obtain ⟨b', o', rfl, _, g0, g1, g2, g3, g4, g5⟩ := (HB.out.d.below hW).dom (dm_at (show k < p.ds.length by omega))
      have k1 : (k : Int) < (n1 : Int) := by omega
      have k0 : (0 : Int) ≤ (k : Int) := by omega
      generalize dm p.ds k = dd at *
      obtain ⟨nm, lv, ct, tk, ob, rg⟩ := dd
      dsimp only at f0 f1 f2 f3 f4 f5 g0 g1 g2 g3 g4 g5
      go_wp2_with fail
      go_quiet (fail)
      go_wp2
      go_roundw
      case rel => exact ⟨k + 1, by omega, by go_num, hnx.trans ⟨rfl, rfl, rfl, Nat.le_refl _, fun _ _ => rfl⟩⟩
      case measure => simp [intOf]; omega
    · clear x0 x1 x2 y0 y1 y2
      have HN : Hid (Below (w.heap.size + 2) ((w.alloc (.cells #[.slice a1 n1 c1, .slice a2 n2 c2, .slice a3 n3 c3] 26)).alloc (.cells #[.slice b1 n1 d1, .slice b2 n2 d2, .slice b3 n3 d3] 26)) wr) := hnx
      obtain ⟨x0, x1, x2, y0, y1, y2⟩ := box6 hnx
      clear hnx hW
      go_wp2_with fail
      go_loopw [6] (fun i wq => ∃ k : Nat, k ≤ n2 ∧ i = .int .i64 k ∧ Below (w.heap.size + 2) ((w.alloc (.cells #[.slice a1 n1 c1, .slice a2 n2 c2, .slice a3 n3 c3] 26)).alloc (.cells #[.slice b1 n1 d1, .slice b2 n2 d2, .slice b3 n3 d3] 26)) wq) (fun i _ => n2 - (intOf i).toNat)
      case atStart => exact ⟨0, Nat.zero_le _, rfl, HN.out⟩
      case round =>
        clear HN x0 x1 x2 y0 y1 y2
        obtain ⟨k, hk, rfl, hnx⟩ := hrel
        obtain ⟨x0, x1, x2, y0, y1, y2⟩ := box6 hnx
        have hW : Below w.heap.size w wr := hBel.trans (hnx.mono (by omega))
        by_cases hlt : k < n2
        · obtain ⟨b, o, rfl, _, f0, f1⟩ := (HA.out.s.below hW).slot (sl_at (show k < p.ss.length by omega))
          obtain ⟨b', o', rfl, _, g0, g1⟩ := (HB.out.s.below hW).slot (sl_at (show k < p.ss.length by omega))
          have k1 : (k : Int) < (n2 : Int) := by omega
          have k0 : (0 : Int) ≤ (k : Int) := by omega
          generalize sl p.ss k = dd at *
          obtain ⟨dd1, dd2⟩ := dd
          dsimp only at f0 f1 g0 g1
          go_wp2_with fail
          go_quiet (fail)
          go_wp2
          go_roundw
          case rel => exact ⟨k + 1, by omega, by go_num, hnx.trans ⟨rfl, rfl, rfl, Nat.le_refl _, fun _ _ => rfl⟩⟩
          case measure => simp [intOf]; omega
        · have HN : Hid (Below (w.heap.size + 2) ((w.alloc (.cells #[.slice a1 n1 c1, .slice a2 n2 c2, .slice a3 n3 c3] 26)).alloc (.cells #[.slice b1 n1 d1, .slice b2 n2 d2, .slice b3 n3 d3] 26)) wr) := hnx
          clear hnx hW
          go_wp2_with fail
          go_loopw [7] (fun i wq => ∃ k : Nat, k ≤ n3 ∧ i = .int .i64 k ∧ Below (w.heap.size + 2) ((w.alloc (.cells #[.slice a1 n1 c1, .slice a2 n2 c2, .slice a3 n3 c3] 26)).alloc (.cells #[.slice b1 n1 d1, .slice b2 n2 d2, .slice b3 n3 d3] 26)) wq) (fun i _ => n3 - (intOf i).toNat)
          case atStart => exact ⟨0, Nat.zero_le _, rfl, HN.out⟩
          case round =>
            clear HN x0 x1 x2 y0 y1 y2
            obtain ⟨k, hk, rfl, hnx⟩ := hrel
            obtain ⟨x0, x1, x2, y0, y1, y2⟩ := box6 hnx
            have hW : Below w.heap.size w wr := hBel.trans (hnx.mono (by omega))
            by_cases hlt : k < n3
            · obtain ⟨b, o, rfl, _, f0, f1, f2, f3⟩ := (HA.out.l.below hW).link (lk_at (show k < p.ls.length by omega))
              obtain ⟨b', o', rfl, _, g0, g1, g2, g3⟩ := (HB.out.l.below hW).link (lk_at (show k < p.ls.length by omega))
              have k1 : (k : Int) < (n3 : Int) := by omega
              have k0 : (0 : Int) ≤ (k : Int) := by omega
              generalize lk p.ls k = dd at *
              obtain ⟨dd1, dd2, dd3, dd4⟩ := dd
              dsimp only at f0 f1 f2 f3 g0 g1 g2 g3
              go_wp2_with fail
              go_quiet (fail)
              go_wp2
              go_roundw
              case rel => exact ⟨k + 1, by omega, by go_num, hnx.trans ⟨rfl, rfl, rfl, Nat.le_refl _, fun _ _ => rfl⟩⟩
              case measure => simp [intOf]; omega
            · go_wp2
              go_ret
              exact ⟨rfl, hW⟩

end Go.Proofs.YtmhjoomkeidcaaaDoor

/-
  The walk of the law PolicyBack.
-/
namespace Go.Proofs.YtmhjoomkeidcaaaDoor
open Go.RowKit L2

theorem small_of {p : Pol} (h : checkOf p = 0) : p.ds.length ≤ 5000 ∧ p.ss.length ≤ 5000 ∧ p.ls.length ≤ 5000 := by
  unfold checkOf at h
  split at h
  · rename_i hc
    unfold countsB at hc
    simp at hc
    omega
  · cases h
theorem hideB {p : Prop} (h : p) : Hid p := h
theorem box_kept {W w1 : World} {x y z : Value} (h : Below (W.alloc (.cells #[x, y, z] 26)).heap.size (W.alloc (.cells #[x, y, z] 26)) w1) : Below W.heap.size W w1 := (below1 _ _).trans (h.mono (by simp))
/-- Three lists that were laid before. -/
theorem pol_far {W w' : World} {b : Nat} {x y z : Value} (hb : b < W.heap.size) (h : W.cell? ⟨b, 0, none⟩ = some x ∧ W.cell? ⟨b, 1, none⟩ = some y ∧ W.cell? ⟨b, 2, none⟩ = some z) (k : Below W.heap.size W w') :
    w'.cell? ⟨b, 0, none⟩ = some x ∧ w'.cell? ⟨b, 1, none⟩ = some y ∧ w'.cell? ⟨b, 2, none⟩ = some z :=
  ⟨(k.cell (p := ⟨b, 0, none⟩) hb).trans h.1, (k.cell (p := ⟨b, 1, none⟩) hb).trans h.2.1, (k.cell (p := ⟨b, 2, none⟩) hb).trans h.2.2⟩

set_option maxHeartbeats 4000000 in
set_option maxRecDepth 100000 in
theorem back_walk (a1 a2 a3 : Option Addr) (c1 c2 c3 : Nat) (p : Pol) (s : ByteArray) (w : World) (hh : Held w a1 a2 a3 c1 c2 c3 p) :
    Calls Tryd.prog 7 #[.agg #[.slice a1 p.ds.length c1, .slice a2 p.ss.length c2, .slice a3 p.ls.length c3], .string s] w fun e w' => e = .returned (.bool true) ∧ Below w.heap.size w w' := by
  have hC := fun W hW => policyPrint_any a1 a2 a3 _ _ _ c1 c2 c3 p W rfl rfl rfl hW
  have HH : Hid (Held w a1 a2 a3 c1 c2 c3 p) := hh
  clear hh
  obtain ⟨T, hT⟩ : ∃ T : ByteArray, T = ⟨(printOf p).1.toArray⟩ := ⟨_, rfl⟩
  obtain ⟨E, hE⟩ : ∃ E : Nat, E = (printOf p).2 := ⟨_, rfl⟩
  rw [← hT, ← hE] at hC
  have HTE : Hid (E = 0 → checkOf p = 0 ∧ parseOf T.data.toList = (0, 0, p)) := fun h0 => by
    have hck : checkOf p = 0 := by
      rw [hE] at h0
      unfold printOf at h0
      split at h0
      · assumption
      · exact h0
    refine ⟨hck, ?_⟩
    rw [hT]
    have : (printOf p).1 = polText p := by unfold printOf; rw [if_pos hck]
    simp only [this]
    exact parse_back hck
  have HP := hideB hC
  clear hC hT hE
  go_enter Tryd.func7, Tryd.ntmps7
  go_wp2_with fail
  refine (HP.out _ (HH.out.below (below1 _ _))).mono ?_
  rintro e w1 ⟨rfl, hB1⟩
  obtain ⟨hz1, x0, x1, x2⟩ := pol_cells hB1
  have hb : Below w.heap.size w w1 := box_kept hB1
  clear hB1 HP
  go_upto_if 24 with fail
  go_cut [5] (fun _ wx => Below w.heap.size w wx)
  case first =>
    by_cases hE0 : E = 0
    · obtain ⟨hck, hpt⟩ := HTE.out hE0
      obtain ⟨l1, l2, l3⟩ := small_of hck
      have hPs := parse_any T
      rw [hpt] at hPs
      have HPs := hideB hPs
      have hE1 : ((E : Int) == 0) = true := by simp [hE0]
      clear hPs hck hpt hE0 HTE
      go_wp2_with fail
      refine (HPs.out _).mono ?_
      rintro e w2 ⟨b1, b2, b3, d1, d2, d3, rfl, hX, hB2⟩
      have hz2 : w.heap.size < w2.heap.size := Nat.lt_of_lt_of_le hz1 hB2.size
      have hXX : Held w2 b1 b2 b3 d1 d2 d3 p := hX
      obtain ⟨y0, y1, y2⟩ := pol_far hz1 ⟨x0, x1, x2⟩ hB2
      have hb2 : Below w.heap.size w w2 := below_next hb hB2
      have HX := hideB hXX
      clear hX hXX x0 x1 x2 hB2 hb HPs
      go_wp2_with fail
      refine (same_any b1 b2 b3 a1 a2 a3 _ _ _ d1 d2 d3 c1 c2 c3 p _ rfl rfl rfl l1 l2 l3 (HX.out.below (below1 _ _)) (HH.out.below (hb2.trans ((below1 _ _).mono hb2.size)))).mono ?_
      rintro e w3 ⟨rfl, hB3⟩
      have hb3 : Below w.heap.size w w3 := below_next hb2 (box_kept hB3)
      clear hB3 HX hb2
      go_wp2_with fail
      go_meet
      exact hb3
    · have hE1 : ((E : Int) == 0) = false := by simp [hE0]
      go_wp2_with fail
      go_meet
      exact hb
  case rest =>
    clear x0 x1 x2 hz1 hb HTE HH
    have hb : Below w.heap.size w wc := hcut
    clear hcut
    have hPs := parse_any s
    have hchk := @parse_checked s.data.toList
    have hno := @parse_nothing s.data.toList
    generalize parseOf s.data.toList = RR at *
    obtain ⟨G, LN, Q⟩ := RR
    have HPs := hideB hPs
    have HC : Hid (G = 0 → checkOf Q = 0) := hchk
    have HN : Hid (G ≠ 0 → Q = pol0) := hno
    clear hPs hchk hno
    go_wp2_with fail
    refine (HPs.out _).mono ?_
    rintro e w3 ⟨b1, b2, b3, d1, d2, d3, rfl, hY, hB3⟩
    have HY : Hid (Held w3 b1 b2 b3 d1 d2 d3 Q) := hY
    replace hb := below_next hb hB3
    clear hY hB3 HPs
    dsimp only
    generalize hn1 : Q.ds.length = n1
    generalize hn2 : Q.ss.length = n2
    generalize hn3 : Q.ls.length = n3
    have HL : Hid (Q.ds.length = n1 ∧ Q.ss.length = n2 ∧ Q.ls.length = n3) := ⟨hn1, hn2, hn3⟩
    clear hn1 hn2 hn3
    by_cases hG : G = 0
    · have hq := HC.out hG
      have hG1 : ((G : Int) != 0) = false := by simp [hG]
      obtain ⟨l1, l2, l3⟩ := small_of hq
      rw [HL.out.1] at l1
      rw [HL.out.2.1] at l2
      rw [HL.out.2.2] at l3
      have hPr := fun W hW => policyPrint_any b1 b2 b3 n1 n2 n3 d1 d2 d3 Q W HL.out.1 HL.out.2.1 HL.out.2.2 hW
      have hCk := fun W hW => check_any b1 b2 b3 n1 n2 n3 d1 d2 d3 Q W HL.out.1 HL.out.2.1 HL.out.2.2 hW
      rw [show printOf Q = (polText Q, 0) by unfold printOf; rw [if_pos hq]] at hPr
      rw [hq] at hCk
      obtain ⟨U, hU⟩ : ∃ U : ByteArray, U = ⟨(polText Q).toArray⟩ := ⟨_, rfl⟩
      have hPb := parse_any U
      rw [show parseOf U.data.toList = (0, 0, Q) by rw [hU]; exact parse_back hq] at hPb
      dsimp only at hPr
      rw [← hU] at hPr
      have HPr := hideB hPr
      have HCk := hideB hCk
      have HPb := hideB hPb
      clear hPr hCk hPb hU hq hG HC HN
      go_wp2_with fail
      refine (HPr.out _ (HY.out.below (below1 _ _))).mono ?_
      rintro e w4 ⟨rfl, hB4⟩
      obtain ⟨hz4, x0, x1, x2⟩ := pol_cells hB4
      have HY4 := hideB (HY.out.below (box_kept hB4))
      replace hb := below_next hb (box_kept hB4)
      clear hB4 HPr HY
      go_wp2_with fail
      refine (HPb.out _).mono ?_
      rintro e w5 ⟨e1, e2, e3, f1, f2, f3, rfl, hZ, hB5⟩
      dsimp only
      rw [HL.out.1, HL.out.2.1, HL.out.2.2]
      have HZ : Hid (Held w5 e1 e2 e3 f1 f2 f3 Q) := hZ
      obtain ⟨y0, y1, y2⟩ := pol_far hz4 ⟨x0, x1, x2⟩ hB5
      have hz5 : w3.heap.size < w5.heap.size := Nat.lt_of_lt_of_le hz4 hB5.size
      have HY5 := hideB (HY4.out.below hB5)
      replace hb := below_next hb hB5
      clear x0 x1 x2 hB5 hZ HPb HY4 hz4
      go_wp2_with fail
      refine (awake_any _).mono ?_
      rintro e w6 ⟨rfl, hB6⟩
      obtain ⟨hz6, q0, q1, q2⟩ := pol_cells hB6
      have hbk := box_kept hB6
      obtain ⟨r0, r1, r2⟩ := pol_far hz5 ⟨y0, y1, y2⟩ hbk
      have HY6 := hideB (HY5.out.below hbk)
      have HZ6 := hideB (HZ.out.below hbk)
      have hz6' : w3.heap.size < w6.heap.size := Nat.lt_of_lt_of_le hz5 hbk.size
      replace hb := below_next hb hbk
      clear y0 y1 y2 hB6 hbk HY5 HZ hz5
      go_wp2_with fail
      refine (HCk.out _ HY6.out).mono ?_
      rintro e w7 ⟨rfl, hB7⟩
      obtain ⟨y0, y1, y2⟩ := pol_far hz6' ⟨r0, r1, r2⟩ hB7
      obtain ⟨p0, p1, p2⟩ := pol_far hz6 ⟨q0, q1, q2⟩ hB7
      have HY7 := hideB (HY6.out.below hB7)
      have HZ7 := hideB (HZ6.out.below hB7)
      replace hb := below_next hb hB7
      clear r0 r1 r2 q0 q1 q2 hB7 HY6 HZ6 HCk
      go_wp2_with fail
      refine (same_any b1 b2 b3 e1 e2 e3 n1 n2 n3 d1 d2 d3 f1 f2 f3 Q _ HL.out.1 HL.out.2.1 HL.out.2.2 l1 l2 l3 HY7.out HZ7.out).mono ?_
      rintro e w8 ⟨rfl, hB8⟩
      replace hb := below_next hb hB8
      clear hB8
      go_wp2
      go_ret
      exact ⟨rfl, hb⟩
    · have hq := HN.out hG
      have hG1 : ((G : Int) != 0) = true := by simp [hG]
      subst hq
      obtain ⟨m1, m2, m3⟩ := HL.out
      have m1' : n1 = 0 := m1.symm
      have m2' : n2 = 0 := m2.symm
      have m3' : n3 = 0 := m3.symm
      subst m1' m2' m3'
      clear m1 m2 m3 HL HC HN hG
      go_wp2_with fail
      refine (awake_any _).mono ?_
      rintro e w6 ⟨rfl, hB6⟩
      obtain ⟨hz6, q0, q1, q2⟩ := pol_cells hB6
      have hbk := box_kept hB6
      have HY6 := hideB (HY.out.below hbk)
      replace hb := below_next hb hbk
      clear hB6 hbk HY
      go_wp2_with fail
      refine (same_any b1 b2 b3 none none none 0 0 0 d1 d2 d3 0 0 0 pol0 _ rfl rfl rfl (by omega) (by omega) (by omega) HY6.out (held_none _)).mono ?_
      rintro e w8 ⟨rfl, hB8⟩
      replace hb := below_next hb hB8
      clear hB8
      go_wp2
      go_ret
      exact ⟨rfl, hb⟩

end Go.Proofs.YtmhjoomkeidcaaaDoor

/-
  The walk of the law PolicyParses, of what the document's own Parse comes to.
-/
namespace Go.Proofs.YtmhjoomkeidcaaaDoor
open Go.RowKit L2

theorem parse_small (l : List UInt8) : (parseOf l).2.2.ds.length ≤ 5000 ∧ (parseOf l).2.2.ss.length ≤ 5000 ∧ (parseOf l).2.2.ls.length ≤ 5000 := by
  by_cases h : (parseOf l).1 = 0
  · exact small_of (parse_checked h)
  · rw [parse_nothing h]
    exact ⟨Nat.zero_le _, Nat.zero_le _, Nat.zero_le _⟩

set_option maxHeartbeats 4000000 in
set_option maxRecDepth 100000 in
theorem parses_of (s : ByteArray) (w : World) (hR : ∀ W, Calls Tryd.prog 16 #[.string s] W (PSaid W (parseOf s.data.toList))) :
    Calls Tryd.prog 5 #[.string s] w fun e w' => e = .returned (.bool true) ∧ Below w.heap.size w w' := by
  have hPs := parse_any s
  obtain ⟨l1, l2, l3⟩ := parse_small s.data.toList
  generalize parseOf s.data.toList = RR at *
  obtain ⟨G, LN, Q⟩ := RR
  have HPs := hideB hPs
  have HRs := hideB hR
  clear hPs hR
  dsimp only at l1 l2 l3
  have q1 : ((G : Int) == (G : Int)) = true := by simp
  have q2 : ((LN : Int) == (LN : Int)) = true := by simp
  generalize hn1 : Q.ds.length = n1 at *
  generalize hn2 : Q.ss.length = n2 at *
  generalize hn3 : Q.ls.length = n3 at *
  have HL : Hid (Q.ds.length = n1 ∧ Q.ss.length = n2 ∧ Q.ls.length = n3) := ⟨hn1, hn2, hn3⟩
  clear hn1 hn2 hn3
  go_enter Tryd.func5, Tryd.ntmps5
  go_wp2_with fail
  refine (HPs.out _).mono ?_
  rintro e w1 ⟨a1, a2, a3, c1, c2, c3, rfl, hX, hb⟩
  dsimp only
  rw [HL.out.1, HL.out.2.1, HL.out.2.2]
  have HX : Hid (Held w1 a1 a2 a3 c1 c2 c3 Q) := hX
  clear hX HPs
  go_wp2_with fail
  refine (HRs.out _).mono ?_
  rintro e w2 ⟨b1, b2, b3, d1, d2, d3, rfl, hY, hB2⟩
  obtain ⟨hz2, x0, x1, x2⟩ := pol_cells hB2
  have hbk2 := box_kept hB2
  have HX2 := hideB (HX.out.below hbk2)
  have HY : Hid (Held w2 b1 b2 b3 d1 d2 d3 Q) := hY
  replace hb := below_next hb hbk2
  clear hY hB2 hbk2 HX HRs
  dsimp only
  rw [HL.out.1, HL.out.2.1, HL.out.2.2]
  go_wp2_with fail
  refine (awake_any _).mono ?_
  rintro e w3 ⟨rfl, hB3⟩
  obtain ⟨hz3, y0, y1, y2⟩ := pol_cells hB3
  have hbk3 := box_kept hB3
  obtain ⟨z0, z1, z2⟩ := pol_far hz2 ⟨x0, x1, x2⟩ hbk3
  have HX3 := hideB (HX2.out.below hbk3)
  have HY3 := hideB (HY.out.below hbk3)
  replace hb := below_next hb hbk3
  clear x0 x1 x2 hB3 hbk3 HX2 HY
  go_wp2_with fail
  refine (same_any a1 a2 a3 b1 b2 b3 n1 n2 n3 c1 c2 c3 d1 d2 d3 Q _ HL.out.1 HL.out.2.1 HL.out.2.2 l1 l2 l3 HX3.out HY3.out).mono ?_
  rintro e w4 ⟨rfl, hB4⟩
  replace hb := below_next hb hB4
  go_wp2
  go_ret
  exact ⟨rfl, hb⟩

end Go.Proofs.YtmhjoomkeidcaaaDoor
