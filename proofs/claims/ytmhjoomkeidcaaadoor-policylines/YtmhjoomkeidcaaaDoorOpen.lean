/-
  How a policy that is handed in lies in memory, and what each statement's frame leans on besides.
-/
import Derived.Test.YtmhjoomkeidcaaaDoorAwake
import Derived.Test.YtmhjoomkeidcaaaDoorCards
import Derived.Test.YtmhjoomkeidcaaaDoorTie
import Derived.ProofKit
import Derived.OpenShut
import Derived.LaidMore
import Derived.Lib.SmallJoins
import Derived.Stop.Joined
import Derived.Deep.SlicePairs
namespace Go.Proofs.YtmhjoomkeidcaaaDoor
open Go.ChangeShapes Go.WideShapes Go.ChangeAt Go.RowKit Go.Joins Go.Deep

theorem own : ownKnob Tryd.prog.godebug = none := by kernel_rfl
theorem laidOut : laidOutB Tryd.prog = true := by kernel_rfl
theorem cells26 : Tryd.prog.cellsOf 26 = 3 := by kernel_rfl
theorem cells37 : Tryd.prog.cellsOf 37 = 6 := by kernel_rfl
theorem cells39 : Tryd.prog.cellsOf 39 = 2 := by kernel_rfl
theorem cells32 : Tryd.prog.cellsOf 32 = 4 := by kernel_rfl
theorem cells35 : Tryd.prog.cellsOf 35 = 2 := by kernel_rfl
theorem cells9 : Tryd.prog.cellsOf 9 = 1 := by kernel_rfl
theorem cells3 : Tryd.prog.cellsOf 3 = 1 := by kernel_rfl

theorem in64_of_wf {x : Int} (h : (Lit.int .i64 x).wf = true) : L2.In64 x := by
  have := bounds_i64 h
  unfold L2.In64
  omega

/-- A list that is read lies in memory as a row of its elements' cells. -/
theorem open_list {H : Type} {enc : TypeId × Value → H} {W : World} {a0 : Option Addr} {len cap fuel : Nat} {sp : Nat → Bool} {y : DataW H × List MemPlace} {t e : TypeId}
    {α : Type} (x0 : α) (f : α → List Value) (k : Nat) (hk : ∀ x, (f x).length = k) (k0 : 0 < k) (Q : α → Prop) (ht : Tryd.prog.underlying t = some (.slice e)) (ce : Tryd.prog.cellsOf e = k)
    (hdec : ∀ n cs y, DataW.trod enc Tryd.prog W 0 sp true n e cs = some y → ∃ x, cs = f x ∧ Q x)
    (hf : DataW.trod enc Tryd.prog W 0 sp true fuel t [.slice a0 len cap] = some y) : len ≤ cap ∧ cap ≤ maxLen ∧ ∃ xs : List α, xs.length = len ∧ Lies W a0 (xs.flatMap f) ∧ ∀ x ∈ xs, Q x := by
  rcases open_slice ht hf with ⟨hcs, _⟩ | ⟨a, l, c, m, n, D, Pl, hcs, _, hl, hm, hmm, _, hx⟩
  · simp at hcs
    obtain ⟨rfl, rfl, rfl⟩ := hcs
    exact ⟨Nat.le_refl _, by unfold maxLen; omega, [], rfl, Or.inl rfl, fun x hx => by cases hx⟩
  · simp at hcs
    obtain ⟨rfl, rfl, rfl⟩ := hcs
    have hlm : len ≤ m := by rw [hmm]; split <;> omega
    refine ⟨hl, hm, ?_⟩
    have each : ∀ i, i < len → ∃ x : α, (∀ j, j < k → W.cell? ((a.add (i * k)).add j) = (f x)[j]?) ∧ Q x := by
      intro i hi
      obtain ⟨cs', h1, h2⟩ := hx i (by omega)
      rw [ce] at h1
      obtain ⟨_, _, hcell⟩ := World.cells?_some h1
      obtain ⟨x, rfl, hq⟩ := hdec _ _ _ h2
      exact ⟨x, hcell, hq⟩
    haveI : Inhabited α := ⟨x0⟩
    obtain ⟨g, hg⟩ := choose_lt each
    refine ⟨(List.range len).map g, by simp, ?_, fun x hx => ?_⟩
    · by_cases h0 : len = 0
      · subst h0; exact Or.inl rfl
      · right
        obtain ⟨b, off, spot⟩ := a
        have hc0 := (hg 0 (by omega)).1 0 k0
        have hsome : ∃ u, (f (g 0))[0]? = some u := ⟨_, List.getElem?_eq_getElem (by rw [hk]; exact k0)⟩
        obtain ⟨u, hu⟩ := hsome
        rw [hu] at hc0
        have hspot : spot = none := by simpa [Addr.add] using World.cell?_spot hc0
        subst hspot
        refine ⟨b, off, rfl, ?_, fun j u hj => ?_⟩
        · have := block_lt_of_cell hc0
          simpa [Addr.add] using this
        · have hjl : j < ((List.range len).map g).length * k := by
            rw [← flat_length f k hk]
            exact (List.getElem?_eq_some_iff.1 hj).1
          simp only [List.length_map, List.length_range] at hjl
          have hi : j / k < len := by rw [Nat.div_lt_iff_lt_mul k0]; exact hjl
          have hr : j % k < k := Nat.mod_lt _ k0
          have hje : j / k * k + j % k = j := by rw [Nat.mul_comm]; exact Nat.div_add_mod j k
          have hat := flat_at f k hk ((List.range len).map g) (j / k) (j % k) (g (j / k)) (by simp [hi]) hr
          rw [hje, hj] at hat
          have := (hg _ hi).1 _ hr
          rw [add_plain, add_plain, ← hat, Nat.add_assoc, hje] at this
          exact this
    · obtain ⟨i, hi, rfl⟩ := List.mem_map.1 hx
      exact (hg i (List.mem_range.1 hi)).2

/-- What is asked of a policy's numbers and names: they fit. -/
def FitD (d : Dm) : Prop := L2.In64 d.cat ∧ d.name.size ≤ 9223372036854775807

set_option maxRecDepth 100000 in
theorem dec_lab {H : Type} {enc : TypeId × Value → H} {W : World} {sp : Nat → Bool} {n : Nat} {cs : List Value} {y : DataW H × List MemPlace} (h : DataW.trod enc Tryd.prog W 0 sp true n 35 cs = some y) : ∃ a b : Int, cs = [.int .i64 a, .int .i64 b] ∧ L2.In64 b := by
  obtain ⟨xs, k, _, _, hlen, hxl, hf⟩ := DataW.trod_struct Tryd.underlying35 h
  rw [cells35] at hlen
  match cs, hlen with
  | [u, v], _ =>
    match xs, hxl with
    | [y0, y1], _ =>
      have g0 := hf 0 _ rfl
      have g1 := hf 1 _ rfl
      simp [cells3] at g0 g1
      obtain ⟨a, e0, _, _⟩ := DataW.trod_int Tryd.underlying3 g0
      obtain ⟨b, e1, _, wb⟩ := DataW.trod_int Tryd.underlying3 g1
      simp at e0 e1
      subst e0 e1
      exact ⟨a, b, rfl, in64_of_wf wb⟩

set_option maxRecDepth 100000 in
theorem dec_dom {H : Type} {enc : TypeId × Value → H} {W : World} {sp : Nat → Bool} (n : Nat) (cs : List Value) (y : DataW H × List MemPlace) (h : DataW.trod enc Tryd.prog W 0 sp true n 37 cs = some y) : ∃ d : Dm, cs = cD d ∧ FitD d := by
  obtain ⟨xs, k, _, _, hlen, hxl, hf⟩ := DataW.trod_struct Tryd.underlying37 h
  rw [cells37] at hlen
  match cs, hlen with
  | [u0, u1, u2, u3, u4, u5], _ =>
    match xs, hxl with
    | [y0, y1, y2, y3, y4], _ =>
      have g0 := hf 0 _ rfl
      have g1 := hf 1 _ rfl
      have g2 := hf 2 _ rfl
      have g3 := hf 3 _ rfl
      have g4 := hf 4 _ rfl
      simp [cells3, cells9, cells35] at g0 g1 g2 g3 g4
      obtain ⟨s, e0, _, ws⟩ := DataW.trod_string Tryd.underlying9 g0
      obtain ⟨a, b, e1, hb⟩ := dec_lab g1
      obtain ⟨c, e2, _, _⟩ := DataW.trod_int Tryd.underlying3 g2
      obtain ⟨d, e3, _, _⟩ := DataW.trod_int Tryd.underlying3 g3
      obtain ⟨e, e4, _, _⟩ := DataW.trod_int Tryd.underlying3 g4
      simp at e0 e1 e2 e3 e4
      obtain ⟨e1, e1'⟩ := e1
      subst e0 e1 e1' e2 e3 e4
      exact ⟨⟨s, a, b, c, d, e⟩, rfl, hb, by unfold maxLen at ws; show s.size ≤ _; omega⟩

set_option maxRecDepth 100000 in
theorem dec_slot {H : Type} {enc : TypeId × Value → H} {W : World} {sp : Nat → Bool} (n : Nat) (cs : List Value) (y : DataW H × List MemPlace) (h : DataW.trod enc Tryd.prog W 0 sp true n 39 cs = some y) : ∃ s : Sl, cs = cS s ∧ True := by
  obtain ⟨xs, k, _, _, hlen, hxl, hf⟩ := DataW.trod_struct Tryd.underlying39 h
  rw [cells39] at hlen
  match cs, hlen with
  | [u, v], _ =>
    match xs, hxl with
    | [y0, y1], _ =>
      have g0 := hf 0 _ rfl
      have g1 := hf 1 _ rfl
      simp [cells3] at g0 g1
      obtain ⟨a, e0, _, _⟩ := DataW.trod_int Tryd.underlying3 g0
      obtain ⟨b, e1, _, wb⟩ := DataW.trod_int Tryd.underlying3 g1
      simp at e0 e1
      subst e0 e1
      exact ⟨⟨a, b⟩, rfl, trivial⟩

set_option maxRecDepth 100000 in
theorem dec_link {H : Type} {enc : TypeId × Value → H} {W : World} {sp : Nat → Bool} (n : Nat) (cs : List Value) (y : DataW H × List MemPlace) (h : DataW.trod enc Tryd.prog W 0 sp true n 32 cs = some y) : ∃ s : Lk, cs = cL s ∧ True := by
  obtain ⟨xs, k, _, _, hlen, hxl, hf⟩ := DataW.trod_struct Tryd.underlying32 h
  rw [cells32] at hlen
  match cs, hlen with
  | [u0, u1, u2, u3], _ =>
    match xs, hxl with
    | [y0, y1, y2, y3], _ =>
      have g0 := hf 0 _ rfl
      have g1 := hf 1 _ rfl
      have g2 := hf 2 _ rfl
      have g3 := hf 3 _ rfl
      simp [cells3] at g0 g1 g2 g3
      obtain ⟨a, e0, _, _⟩ := DataW.trod_int Tryd.underlying3 g0
      obtain ⟨b, e1, _, _⟩ := DataW.trod_int Tryd.underlying3 g1
      obtain ⟨c, e2, _, _⟩ := DataW.trod_int Tryd.underlying3 g2
      obtain ⟨d, e3, _, _⟩ := DataW.trod_int Tryd.underlying3 g3
      simp at e0 e1 e2 e3
      subst e0 e1 e2 e3
      exact ⟨⟨a, b, c, d⟩, rfl, trivial⟩

set_option maxRecDepth 100000 in
/-- A policy that is handed in. -/
theorem open_pol {H : Type} {enc : TypeId × Value → H} {W : World} {sp : Nat → Bool} {v : Value} {d : DataW H} {ps : List MemPlace} {base : Nat} (hv : Value.okWide Tryd.prog W .any base 26 v) (h : DataW.Trod enc Tryd.prog W 0 sp true 26 v d ps) :
    ∃ (a1 a2 a3 : Option Addr) (c1 c2 c3 : Nat) (p : Pol), v = .agg #[.slice a1 p.ds.length c1, .slice a2 p.ss.length c2, .slice a3 p.ls.length c3] ∧ Held W a1 a2 a3 c1 c2 c3 p ∧ (∀ x ∈ p.ds, FitD x) ∧ c1 ≤ maxLen ∧ c2 ≤ maxLen ∧ c3 ≤ maxLen := by
  obtain ⟨v0, v1, v2, y0, y1, y2, n, rfl, _, _, h0, h1, h2⟩ := open_agg3 Tryd.underlying26 (by kernel_rfl) cells26 hv h
  have form : ∀ {t e : TypeId} {v : Value} {y : DataW H × List MemPlace}, Tryd.prog.underlying t = some (.slice e) → DataW.trod enc Tryd.prog W 0 sp true n t [v] = some y → ∃ a l c, v = .slice a l c := by
    intro t e v y ht h
    rcases open_slice ht h with ⟨hcs, _⟩ | ⟨a, l, c, _, _, _, _, hcs, _⟩
    · simp at hcs; exact ⟨none, 0, 0, hcs⟩
    · simp at hcs; exact ⟨some a, l, c, hcs⟩
  obtain ⟨a1, l1, c1, rfl⟩ := form Tryd.underlying22 h0
  obtain ⟨a2, l2, c2, rfl⟩ := form Tryd.underlying23 h1
  obtain ⟨a3, l3, c3, rfl⟩ := form Tryd.underlying24 h2
  obtain ⟨k1, m1, ds, rfl, hd, hq⟩ := open_list ⟨⟨#[]⟩, 0, 0, 0, 0, 0⟩ cD 6 (fun _ => rfl) (by omega) FitD Tryd.underlying22 cells37 dec_dom h0
  obtain ⟨k2, m2, ss, rfl, hs, _⟩ := open_list ⟨0, 0⟩ cS 2 (fun _ => rfl) (by omega) (fun _ => True) Tryd.underlying23 cells39 dec_slot h1
  obtain ⟨k3, m3, ls, rfl, hl, _⟩ := open_list ⟨0, 0, 0, 0⟩ cL 4 (fun _ => rfl) (by omega) (fun _ => True) Tryd.underlying24 cells32 dec_link h2
  exact ⟨a1, a2, a3, c1, c2, c3, ⟨ds, ss, ls⟩, rfl, ⟨hd, hs, hl, k1, k2, k3⟩, hq, m1, m2, m3⟩

/-- The door's own heap holds the listed variables as the program's text lays them. -/
theorem door_met (os : Os) (args : Array Value) : laidMetH Tryd.prog Rows.policyChecksRow.laid ((World.doorLaid Tryd.prog 400 os).forCall (fun _ _ => 0) ⟨#[], args, []⟩).memory :=
  laidMetH_of_parts3 (fuel := 8) (laidMet_of_run' 8 (by kernel_rfl) (by kernel_rfl)) (by kernel_rfl) (by kernel_rfl)

end Go.Proofs.YtmhjoomkeidcaaaDoor
