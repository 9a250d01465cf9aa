/-
  What the document's Deliver comes to.
-/
import Derived.Test.YtiookbmffdmdeaaRefPut
namespace Go.Proofs.Ytiookbmffdmdeaa
open Go.RowKit

/-- All blocks but one, and but a row's own, are as they were. -/
structure Turn2 (R : Nat) (v : Value) (a b : World) : Prop where
  os : b.os = a.os
  tape : b.tape = a.tape
  output : b.output = a.output
  size : a.heap.size ≤ b.heap.size
  block : ∀ k, k < a.heap.size → k ≠ R → v.ownBlock ≠ some k → b.heap[k]? = a.heap[k]?
theorem Turn2.of_turn {R : Nat} {v : Value} {a b : World} (h : Turn R a b) : Turn2 R v a b := ⟨h.os, h.tape, h.output, h.size, fun k h1 h2 _ => h.block k h1 h2⟩
theorem Turn2.below {R m : Nat} {v : Value} {a b : World} (h : Turn2 R v a b) (hm : m ≤ a.heap.size) (h1 : m ≤ R) (h2 : ∀ g, v.ownBlock = some g → m ≤ g) : Below m a b :=
  ⟨h.os, h.tape, h.output, h.size, fun k hk => h.block k (by omega) (by omega) (fun e => by have := h2 k e; omega)⟩

/-- A row's end: so many empty ones more. -/
def fillL (l : List Wk) (k : Nat) : List Wk := l ++ List.replicate k zk
theorem fill_zero (l : List Wk) : fillL l 0 = l := by simp [fillL]
theorem fill_succ (l : List Wk) (k : Nat) : cW (fillL l (k + 1)) = cW (fillL l k) ++ [.int .i64 0, .int .i64 0] := by
  rw [fillL, List.replicate_succ', ← List.append_assoc, cW_app]; rfl
theorem fill_len (l : List Wk) (k : Nat) : (fillL l k).length = l.length + k := by simp [fillL]

def lenOf : Value → Nat
  | .slice _ n _ => n
  | _ => 0

set_option maxHeartbeats 2000000 in
theorem refDeliver_any (R base n : Nat) (v : Value) (l : List Wk) (hO : Ok n l) (w : World) (hbs : base ≤ w.heap.size) (hR : AtR w R base n v l) :
    Calls Try.prog 14 #[.pointer (some ⟨R, 0, none⟩)] w fun e w' => ∃ a c, e = .returned (.slice a n c) ∧ w'.ownsRow base 31 2 (.slice a n c) n (cW (told n l)) ∧ AtR w' R base n (.slice none 0 0) [] ∧ Turn2 R v w w' := by
  obtain ⟨i0, hi, hz0, hz1, hz2⟩ := info_parts info31
  obtain ⟨c0, c1, cf⟩ := hR.cells
  have cf0 := cf 0
  obtain ⟨va, vc, rfl⟩ := hR.form
  have h8 := hO.n8
  have hlen := hO.len
  obtain ⟨W, hW⟩ : ∃ W, W = w.setCell ⟨R, 0, none⟩ (.slice none 0 0) := ⟨_, rfl⟩
  have hR' : AtR W R base n (.slice none 0 0) [] := hW ▸ hR.store (World.ownsRow_nil _ _ _ _)
  have hT : Turn R w W := hW ▸ (Turn.refl _ _).set _ _
  have hown : W.ownsRow base 31 2 (.slice va l.length vc) (fillL l 0).length (cW (fillL l 0)) := by
    rw [fill_zero]
    exact owns_keep hR.row fun g hg => hT.block g (hR.row.lt g hg).2 (fun e => hR.far (by rw [hg, e]))
  have hRl := hR.lt
  have hrow := hR.row
  have hfar := hR.far
  have HT := hide hT
  have HR := hide hR'
  have HO := hide hown
  have HX : Hid (told n l = fillL l (n - l.length)) := rfl
  have hvl : Hid (∀ g, (Value.slice va l.length vc).ownBlock = some g → g < W.heap.size ∧ g ≠ R) := fun g hg => ⟨Nat.lt_of_lt_of_le (hR.row.lt g hg).2 hT.size, fun e => hR.far (by rw [hg, e])⟩
  have hzW := hT.size
  have hbW : base ≤ W.heap.size := Nat.le_trans hbs hzW
  clear hR hR' hT hown cf hO hrow hfar
  obtain ⟨m, hm⟩ : ∃ m, l.length = m := ⟨_, rfl⟩
  have HM := hide hm
  rw [hm] at c0 hlen HO hvl HX ⊢
  clear hm
  go_enter Try.func14, Try.ntmps14
  go_wp2_with fail
  rw [← hW]
  clear hW c0 c1 cf0
  go_loopw [3] (fun u wr => ∃ k a c, u = .slice a (m + k) c ∧ m + k ≤ n ∧ wr.ownsRow base 31 2 u (m + k) (cW (fillL l k)) ∧ AtR wr R base n (.slice none 0 0) [] ∧ Turn2 R (.slice va m vc) W wr ∧ Hid (∀ g, u.ownBlock = some g → W.heap.size ≤ g ∨ (Value.slice va m vc).ownBlock = some g)) (fun u _ => n - lenOf u)
  case atStart => exact ⟨0, va, vc, rfl, hlen, by have := HO.out; rw [fill_len, HM.out] at this; exact this, HR.out, ⟨rfl, rfl, rfl, Nat.le_refl _, fun _ _ _ _ => rfl⟩, fun g hg => Or.inr hg⟩
  case round =>
    obtain ⟨k, a, c, rfl, hk, hO1, hR1, hT1, hN1⟩ := hrel
    obtain ⟨_, d1, _⟩ := hR1.cells
    have hz1' := hT1.size
    have hfar := owns_far hO1 hR1.box (by decide)
    have HO1 := hide hO1
    have HR1 := hide hR1
    have HT1 := hide hT1
    have HN1 := hN1
    have hRl1 := hR1.lt
    clear hO1 hR1 hT1 hN1 HO
    by_cases hlt : m + k < n
    · have e1 : (m : Int) + (k : Int) < (n : Int) := by omega
      go_wp2_with (at_builtin; refine wpList_append_own_at _ rfl _ _ 22 rfl base 31 i0 _ 2 16 Try.underlying22 hi hz0 hz1 hz2 rfl (by decide) (.slice a (m + k) c) (m + k) (cW (fillL l k)) rfl (HO1.out.alloc _) ⟨wr.heap.size, 0, none⟩ 1 1 [.int .i64 0, .int .i64 0] rfl rfl (new2 (a := 0) (b := 0) (by simp) (by simp)) (by intro u hu; simp at hu; subst hu; rfl) (by unfold maxLen; omega) (by omega) (by simp; omega) ?_)
      intro v6 w6 hown6 hgrow6 _ hat6
      obtain ⟨a6, c6, rfl⟩ := owns_slice hown6
      have hsz : (wr.alloc (.cells #[.int .i64 0, .int .i64 0] 31)).heap.size = wr.heap.size + 1 := by simp
      have hold : ∀ j, j < wr.heap.size → (Value.slice a (m + k) c).ownBlock ≠ some j → w6.heap[j]? = wr.heap[j]? := fun j hj hne =>
        (hgrow6.block j (by omega) (fun e => hne e.symm)).trans (Lib.alloc_old _ _ _ hj)
      have HR6 : Hid (AtR w6 R base n (.slice none 0 0) []) := HR1.out.keep (hold R hRl1 hfar) (fun g hg => by cases hg)
      have HT6 : Hid (Turn2 R (.slice va m vc) W w6) := ⟨hgrow6.os.trans HT1.out.os, hgrow6.tape.trans HT1.out.tape, hgrow6.output.trans HT1.out.output, by have := hgrow6.size; omega, fun j hj h1 h2 => (hold j (by omega) (fun e => by
        rcases HN1.out j e with q | q
        · omega
        · exact h2 q)).trans (HT1.out.block j hj h1 h2)⟩
      have HO6 : Hid (w6.ownsRow base 31 2 (.slice a6 (m + (k + 1)) c6) (m + (k + 1)) (cW (fillL l (k + 1)))) := by rw [fill_succ]; exact hown6
      have HN6 : Hid (∀ g, (Value.slice a6 (m + (k + 1)) c6).ownBlock = some g → W.heap.size ≤ g ∨ (Value.slice va m vc).ownBlock = some g) := fun g hg => by
        rcases hat6 with q | q
        · exact HN1.out g (q ▸ hg)
        · left
          have : (Value.slice a6 (m + k + 1) c6).ownBlock = some g := hg
          rw [this] at q
          have := Option.some.inj q
          omega
      clear hown6 hgrow6 hat6 hold hsz HO1 HR1 HT1 HN1 d1
      go_wp2
      go_roundw
      case rel => exact ⟨k + 1, a6, c6, rfl, by omega, HO6.out, HR6.out, HT6.out, HN6⟩
      case measure => simp [lenOf]; omega
    · have hmk : n = m + k := by omega
      have HF : Hid (wr.ownsRow base 31 2 (.slice a n c) n (cW (told n l)) ∧ Turn2 R (.slice va m vc) w wr) := by
        refine ⟨?_, ⟨HT1.out.os.trans HT.out.os, HT1.out.tape.trans HT.out.tape, HT1.out.output.trans HT.out.output, by have := HT1.out.size; omega, fun j hj h1 h2 => (HT1.out.block j (by omega) h1 h2).trans (HT.out.block j hj h1)⟩⟩
        rw [HX.out, show n - m = k by omega, hmk]; exact HO1.out
      clear HX HO1 HT1 HN1 hfar
      subst hmk
      go_wp2
      go_ret
      exact ⟨a, c, rfl, HF.out.1, HR1.out, HF.out.2⟩

end Go.Proofs.Ytiookbmffdmdeaa
