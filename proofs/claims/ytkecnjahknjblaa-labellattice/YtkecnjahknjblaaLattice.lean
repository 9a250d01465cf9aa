/-
  The walk of the law LabelLattice, the outcomes of its tests laid down ahead.
-/
import Derived.Test.YtkecnjahknjblaaOrder
import Derived.Deep.DeepCutAuto
namespace Go.Proofs.Ytkecnjahknjblaa
open Go.RowKit
attribute [local go_sem ↓] Go.wp_at_zero Go.wp_at_succ
attribute [local go_sem] regrown_cell

theorem belowCall {B : Nat} {W a b : World} (h : Below B W a) (k : Below a.heap.size a b) (hB : B ≤ a.heap.size) : Below B W b := h.trans (k.mono hB)

/-- The world behind the boxes of three labels. -/
def box3 (w : World) (al ac bl bc cl cc : Int) : World :=
  ((w.alloc (.cells #[.int .i64 al, .int .i64 ac] 23)).alloc (.cells #[.int .i64 bl, .int .i64 bc] 23)).alloc (.cells #[.int .i64 cl, .int .i64 cc] 23)

theorem box3_size (w : World) (al ac bl bc cl cc : Int) : (box3 w al ac bl bc cl cc).heap.size = w.heap.size + 3 := by simp [box3]

/-- The boxes read so wherever nothing below them has turned. -/
theorem box3_cells {w w' : World} {al ac bl bc cl cc : Int} (h : Below (w.heap.size + 3) (box3 w al ac bl bc cl cc) w') :
    Below (w.heap.size + 3) (box3 w al ac bl bc cl cc) w'
     ∧ w'.cell? ⟨w.heap.size, 0, none⟩ = some (.int .i64 al) ∧ w'.cell? ⟨w.heap.size, 1, none⟩ = some (.int .i64 ac) ∧ w'.cell? ⟨w.heap.size + 1, 0, none⟩ = some (.int .i64 bl) ∧ w'.cell? ⟨w.heap.size + 1, 1, none⟩ = some (.int .i64 bc) ∧ w'.cell? ⟨w.heap.size + 1 + 1, 0, none⟩ = some (.int .i64 cl) ∧ w'.cell? ⟨w.heap.size + 1 + 1, 1, none⟩ = some (.int .i64 cc) := by
  refine ⟨h, ?_, ?_, ?_, ?_, ?_, ?_⟩
  all_goals
    rw [h.cell (by simp only; omega)]
    simp [box3, go_sem]

theorem held_call {w a b : World} {al ac bl bc cl cc : Int} {R : Prop} (h : Below (w.heap.size + 3) (box3 w al ac bl bc cl cc) a ∧ R) (k : Below a.heap.size a b) :
    Below (w.heap.size + 3) (box3 w al ac bl bc cl cc) b ∧ w.heap.size + 3 ≤ b.heap.size := by
  have hs := h.1.size
  have ks := k.size
  rw [box3_size] at hs
  exact ⟨belowCall h.1 k hs, by omega⟩

/-- The three boxes and the two variables stay, whatever is laid behind them. -/
theorem keepL {w a b : World} {al ac bl bc cl cc jl jc ml mc : Int} {g h : Nat} (H : Below (w.heap.size + 3) (box3 w al ac bl bc cl cc) a ∧ g < a.heap.size ∧ h < a.heap.size ∧ a.cell? ⟨w.heap.size, 0, none⟩ = some (.int .i64 al) ∧ a.cell? ⟨w.heap.size, 1, none⟩ = some (.int .i64 ac) ∧ a.cell? ⟨w.heap.size + 1, 0, none⟩ = some (.int .i64 bl) ∧ a.cell? ⟨w.heap.size + 1, 1, none⟩ = some (.int .i64 bc) ∧ a.cell? ⟨w.heap.size + 1 + 1, 0, none⟩ = some (.int .i64 cl) ∧ a.cell? ⟨w.heap.size + 1 + 1, 1, none⟩ = some (.int .i64 cc)
       ∧ a.cell? ⟨g, 0, none⟩ = some (.int .i64 jl) ∧ a.cell? ⟨g, 1, none⟩ = some (.int .i64 jc) ∧ a.cell? ⟨h, 0, none⟩ = some (.int .i64 ml) ∧ a.cell? ⟨h, 1, none⟩ = some (.int .i64 mc))
    (k : Below a.heap.size a b) : Below (w.heap.size + 3) (box3 w al ac bl bc cl cc) b ∧ g < b.heap.size ∧ h < b.heap.size ∧ b.cell? ⟨w.heap.size, 0, none⟩ = some (.int .i64 al) ∧ b.cell? ⟨w.heap.size, 1, none⟩ = some (.int .i64 ac) ∧ b.cell? ⟨w.heap.size + 1, 0, none⟩ = some (.int .i64 bl) ∧ b.cell? ⟨w.heap.size + 1, 1, none⟩ = some (.int .i64 bc) ∧ b.cell? ⟨w.heap.size + 1 + 1, 0, none⟩ = some (.int .i64 cl) ∧ b.cell? ⟨w.heap.size + 1 + 1, 1, none⟩ = some (.int .i64 cc)
       ∧ b.cell? ⟨g, 0, none⟩ = some (.int .i64 jl) ∧ b.cell? ⟨g, 1, none⟩ = some (.int .i64 jc) ∧ b.cell? ⟨h, 0, none⟩ = some (.int .i64 ml) ∧ b.cell? ⟨h, 1, none⟩ = some (.int .i64 mc) := by
  obtain ⟨hB, hg, hh, p1, p2, p3, p4, p5, p6, q1, q2, q3, q4⟩ := H
  have hs := k.size
  obtain ⟨hB2, _⟩ := held_call (R := True) ⟨hB, trivial⟩ k
  obtain ⟨_, r1, r2, r3, r4, r5, r6⟩ := box3_cells hB2
  refine ⟨hB2, by omega, by omega, r1, r2, r3, r4, r5, r6, ?_, ?_, ?_, ?_⟩
  all_goals
    rw [k.cell (by simp only; omega)]
    assumption

theorem sizes3 {w w' : World} {al ac bl bc cl cc : Int} (h : Below (w.heap.size + 3) (box3 w al ac bl bc cl cc) w') :
    w.heap.size < w'.heap.size ∧ w.heap.size + 1 < w'.heap.size ∧ w.heap.size + 1 + 1 < w'.heap.size := by
  have := h.size
  rw [box3_size] at this
  omega
theorem box3_below {w w' : World} {al ac bl bc cl cc : Int} (h : Below (w.heap.size + 3) (box3 w al ac bl bc cl cc) w') : Below w.heap.size w w' :=
  (below3 w _ _ _).trans (h.mono (by omega))

theorem left_of {A R : Prop} (h : A ∧ R) : A := h.1

def LatticeCase (al ac bl bc cl cc : Int) : Prop := ∀ w : World,
    Calls Try.prog 4 #[.agg #[.int .i64 al, .int .i64 ac], .agg #[.int .i64 bl, .int .i64 bc], .agg #[.int .i64 cl, .int .i64 cc]] w fun e w' => e = .returned (.bool true) ∧ Below w.heap.size w w'

set_option maxHeartbeats 8000000 in
set_option maxRecDepth 100000 in
theorem lattice_walk (al ac bl bc cl cc jl jc ml mc : Int) (j1 : max al bl = jl) (j2 : bits .or .i64 ac bc = jc) (j3 : max bl al = jl) (j4 : bits .or .i64 bc ac = jc)
    (m1 : min al bl = ml) (m2 : bits .and .i64 ac bc = mc) (m3 : min bl al = ml) (m4 : bits .and .i64 bc ac = mc)
    (a1 : max al ml = al) (a2 : bits .or .i64 ac mc = ac) (a3 : min al jl = al) (a4 : bits .and .i64 ac jc = ac)
    (l1 : leqB al ac jl jc = true) (l2 : leqB bl bc jl jc = true) (l3 : leqB ml mc al ac = true) (l4 : leqB ml mc bl bc = true)
    (c1 : leqB al ac cl cc = false ∨ leqB al ac cl cc = true ∧ leqB bl bc cl cc = false ∨ leqB al ac cl cc = true ∧ leqB bl bc cl cc = true ∧ leqB jl jc cl cc = true)
    (c2 : leqB cl cc al ac = false ∨ leqB cl cc al ac = true ∧ leqB cl cc bl bc = false ∨ leqB cl cc al ac = true ∧ leqB cl cc bl bc = true ∧ leqB cl cc ml mc = true)
    (c3 : goodB jl jc = true ∨ goodB jl jc = false ∧ goodB al ac = false ∨ goodB jl jc = false ∧ goodB al ac = true ∧ goodB bl bc = false) : LatticeCase al ac bl bc cl cc := by
  intro w
  go_enter Try.func4, Try.ntmps4
  go_wp2_with fail
  have hB : Below (w.heap.size + 3) (box3 w al ac bl bc cl cc) (((w.alloc (.cells #[.int .i64 al, .int .i64 ac] 23)).alloc (.cells #[.int .i64 bl, .int .i64 bc] 23)).alloc (.cells #[.int .i64 cl, .int .i64 cc] 23)) := Below.refl _ _
  go_cut [7, 8] (fun s7 s8 w' => ∃ g h : Nat, s7 = .pointer (some ⟨g, 0, none⟩) ∧ s8 = .pointer (some ⟨h, 0, none⟩) ∧ Below (w.heap.size + 3) (box3 w al ac bl bc cl cc) w' ∧ g < w'.heap.size ∧ h < w'.heap.size
     ∧ w'.cell? ⟨g, 0, none⟩ = some (.int .i64 jl) ∧ w'.cell? ⟨g, 1, none⟩ = some (.int .i64 jc) ∧ w'.cell? ⟨h, 0, none⟩ = some (.int .i64 ml) ∧ w'.cell? ⟨h, 1, none⟩ = some (.int .i64 mc))
  case first =>
    go_region_held3 (fun w' => Below (w.heap.size + 3) (box3 w al ac bl bc cl cc) w'
     ∧ w'.cell? ⟨w.heap.size, 0, none⟩ = some (.int .i64 al) ∧ w'.cell? ⟨w.heap.size, 1, none⟩ = some (.int .i64 ac) ∧ w'.cell? ⟨w.heap.size + 1, 0, none⟩ = some (.int .i64 bl) ∧ w'.cell? ⟨w.heap.size + 1, 1, none⟩ = some (.int .i64 bc) ∧ w'.cell? ⟨w.heap.size + 1 + 1, 0, none⟩ = some (.int .i64 cl) ∧ w'.cell? ⟨w.heap.size + 1 + 1, 1, none⟩ = some (.int .i64 cc))
      ((refine box3_cells ?_; repeat (first | assumption | refine Below.alloc ?_ (by first | omega | (simp <;> omega)) _ | refine Below.setCell ?_ (by first | omega | (simp <;> omega)) _ | refine Below.drew ?_)))
      (first
        | (go_at_call 9; refine (join_any _ _ _ _ _).mono ?_; rintro e w1 ⟨rfl, hb⟩; obtain ⟨hc, hf⟩ := bcell hb; obtain ⟨hB1, hs1⟩ := held_call (by assumption) hb; have hz := hb.size; simp at hz; (have _k : w1.heap.size < w1.heap.size + 1 + 1 := by omega); (try (have _k : w.heap.size + 1 + 1 + 1 < w1.heap.size := by omega)); (try (have _k : w.heap.size + 1 + 1 + 1 < w1.heap.size + 1 := by omega)); (try (have _k : w.heap.size + 1 + 1 + 1 < w1.heap.size + 1 + 1 := by omega)); (try (have _k : w.heap.size + 1 + 1 + 1 + 1 < w1.heap.size := by omega)); (try (have _k : w.heap.size + 1 + 1 + 1 + 1 < w1.heap.size + 1 := by omega)); (try (have _k : ¬ w.heap.size + 1 + 1 + 1 = w1.heap.size := by omega)); (try (have _k : ¬ w1.heap.size = w.heap.size + 1 + 1 + 1 := by omega)); (try (have _k : ¬ w.heap.size + 1 + 1 + 1 = w1.heap.size + 1 := by omega)); (try (have _k : ¬ w.heap.size + 1 + 1 + 1 + 1 = w1.heap.size := by omega)); (try (have _k : ¬ w1.heap.size = w.heap.size + 1 + 1 + 1 + 1 := by omega)))
        | (go_at_call 10; refine (meet_any _ _ _ _ _).mono ?_; rintro e w2 ⟨rfl, hb⟩; obtain ⟨hc, hf⟩ := bcell hb; obtain ⟨hB2, hs2⟩ := held_call (by assumption) hb; have hz := hb.size; (try simp at hz); (try (have _k : ¬ w.heap.size + 1 + 1 + 1 = w2.heap.size := by omega)); (try (have _k : ¬ w.heap.size + 1 + 1 + 1 + 1 = w2.heap.size := by omega)); (try (have _k : ¬ w1.heap.size = w2.heap.size := by omega)); (try (have _k : ¬ w1.heap.size + 1 = w2.heap.size := by omega)); (try (have _k : ¬ w2.heap.size = w.heap.size + 1 + 1 + 1 := by omega)); (try (have _k : ¬ w2.heap.size = w.heap.size + 1 + 1 + 1 + 1 := by omega)); (try (have _k : ¬ w2.heap.size = w1.heap.size := by omega)); (try (have _k : ¬ w2.heap.size = w1.heap.size + 1 := by omega)); (try (have _k : w.heap.size + 1 + 1 + 1 < w2.heap.size := by omega)); (try (have _k : w.heap.size + 1 + 1 + 1 + 1 < w2.heap.size := by omega)); (try (have _k : w1.heap.size < w2.heap.size := by omega)); (try (have _k : w1.heap.size + 1 < w2.heap.size := by omega))))
    all_goals
      go_wp2_with fail
      go_meet
      refine ⟨_, _, rfl, rfl, left_of (by assumption), ?_, ?_, ?_, ?_, ?_, ?_⟩
      all_goals first
        | (go_simp; done)
        | omega
        | (simp <;> omega)
  case rest =>
    clear hB
    obtain ⟨g, h, rfl, rfl, hB, hg, hh, q1, q2, q3, q4⟩ := hcut
    have hL := box3_cells hB
    replace hL : Below (w.heap.size + 3) (box3 w al ac bl bc cl cc) wc ∧ g < wc.heap.size ∧ h < wc.heap.size ∧ wc.cell? ⟨w.heap.size, 0, none⟩ = some (.int .i64 al) ∧ wc.cell? ⟨w.heap.size, 1, none⟩ = some (.int .i64 ac) ∧ wc.cell? ⟨w.heap.size + 1, 0, none⟩ = some (.int .i64 bl) ∧ wc.cell? ⟨w.heap.size + 1, 1, none⟩ = some (.int .i64 bc) ∧ wc.cell? ⟨w.heap.size + 1 + 1, 0, none⟩ = some (.int .i64 cl) ∧ wc.cell? ⟨w.heap.size + 1 + 1, 1, none⟩ = some (.int .i64 cc)
       ∧ wc.cell? ⟨g, 0, none⟩ = some (.int .i64 jl) ∧ wc.cell? ⟨g, 1, none⟩ = some (.int .i64 jc) ∧ wc.cell? ⟨h, 0, none⟩ = some (.int .i64 ml) ∧ wc.cell? ⟨h, 1, none⟩ = some (.int .i64 mc) := ⟨hL.1, hg, hh, hL.2.1, hL.2.2.1, hL.2.2.2.1, hL.2.2.2.2.1, hL.2.2.2.2.2.1, hL.2.2.2.2.2.2, q1, q2, q3, q4⟩
    clear hB hg hh q1 q2 q3 q4
    go_upto_region 4 with (go_at_call 7; refine (leq_any _ _ _ _ _).mono ?_; rintro e w2 ⟨rfl, hb⟩; replace hL := keepL hL hb; clear hb)
    go_cut [66] (fun s66 w' => s66 = .bool false ∧ Below (w.heap.size + 3) (box3 w al ac bl bc cl cc) w' ∧ g < w'.heap.size ∧ h < w'.heap.size ∧ w'.cell? ⟨w.heap.size, 0, none⟩ = some (.int .i64 al) ∧ w'.cell? ⟨w.heap.size, 1, none⟩ = some (.int .i64 ac) ∧ w'.cell? ⟨w.heap.size + 1, 0, none⟩ = some (.int .i64 bl) ∧ w'.cell? ⟨w.heap.size + 1, 1, none⟩ = some (.int .i64 bc) ∧ w'.cell? ⟨w.heap.size + 1 + 1, 0, none⟩ = some (.int .i64 cl) ∧ w'.cell? ⟨w.heap.size + 1 + 1, 1, none⟩ = some (.int .i64 cc)
       ∧ w'.cell? ⟨g, 0, none⟩ = some (.int .i64 jl) ∧ w'.cell? ⟨g, 1, none⟩ = some (.int .i64 jc) ∧ w'.cell? ⟨h, 0, none⟩ = some (.int .i64 ml) ∧ w'.cell? ⟨h, 1, none⟩ = some (.int .i64 mc))
    case first =>
      clear c3
      rcases c1 with c1 | ⟨c1, c1'⟩ | ⟨c1, c1', c1''⟩ <;> rcases c2 with c2 | ⟨c2, c2'⟩ | ⟨c2, c2', c2''⟩
      all_goals
        go_wp2_with (go_at_call 7; refine (leq_any _ _ _ _ _).mono ?_; rintro e w2 ⟨rfl, hb⟩; replace hL := keepL hL hb; clear hb)
        go_meet
        exact ⟨rfl, hL⟩
    case rest =>
      clear c1 c2 hL
      obtain ⟨rfl, hL⟩ := hcut
      obtain ⟨s1, s2, s3⟩ := sizes3 hL.1
      rcases c3 with c3 | ⟨c3, c3'⟩ | ⟨c3, c3', c3''⟩
      all_goals
        go_wp2_with fail
        refine wp_region_quiet_below (by kernel_rfl) (by kernel_rfl) ?_
        repeat (first | go_big_quiet_skip | quiet_step (first | (go_at_call 8; exact Calls.regrown_of (awake_any _)) | (go_at_call 9; exact Calls.regrown_of (join_any _ _ _ _ _)) | (go_at_call 10; exact Calls.regrown_of (meet_any _ _ _ _ _)) | (go_at_call 11; exact Calls.regrown_of (good_any _ _ _))))
        refine wpQuiet_nil ?_
        intro w1 hw'
        have hb := below_of_regrown hw'
        clear hw'
        replace hL := keepL hL hb
        go_wp2
        go_ret
        exact ⟨rfl, box3_below hL.1⟩

end Go.Proofs.Ytkecnjahknjblaa
