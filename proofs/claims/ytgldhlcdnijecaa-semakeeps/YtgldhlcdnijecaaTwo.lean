/-
  A region that lays two rows, each a copy of one with a number behind it, in whatever order its operations come: said once, by what holds behind any part of them.
-/
import Derived.Test.YtgldhlcdnijecaaRGive
namespace Go.Proofs.Ytgldhlcdnijecaa
open Go.RowKit

theorem put_eval {a : Act} {d s : Nat} {v : Value} (hd : d < a.tmps.size) : (a.put (some d) v).eval (.tmp s) = if s = d then v else a.eval (.tmp s) := by
  show (a.tmps.setIfInBounds d v).getD s undef = _
  by_cases h : s = d
  · subst h
    rw [if_pos rfl]
    simp [hd]
  · rw [if_neg h]
    show _ = a.tmps.getD s undef
    simp only [Array.getD_eq_getD_getElem?, Array.getElem?_setIfInBounds_ne (Ne.symm h)]
/-- Rows of the region's own, each in its slot, apart from one another. -/
structure Slots (w0 : World) (a0 : Act) (isRow : Nat → Bool) (lv : Nat → Option (List Int)) (a : Act) (w : World) : Prop where
  low : Below w0.heap.size w0 w
  own : ∀ s xs, lv s = some xs → w.ownsRow w0.heap.size 3 1 (a.eval (.tmp s)) xs.length (cZ xs)
  apart : ∀ s s' xs xs', s ≠ s' → lv s = some xs → lv s' = some xs' → ∀ k, (a.eval (.tmp s)).ownBlock = some k → (a.eval (.tmp s')).ownBlock ≠ some k
  size : a.tmps.size = a0.tmps.size
  defers : a.defers = a0.defers
  other : ∀ s, isRow s = false → a.tmps[s]? = a0.tmps[s]?
section
variable {w0 w w' : World} {a0 a : Act} {isRow : Nat → Bool} {lv lv' : Nat → Option (List Int)} {d : Nat} {v : Value}
theorem Slots.evals (h : Slots w0 a0 isRow lv a w) {s : Nat} (hs : isRow s = false) : a.eval (.tmp s) = a0.eval (.tmp s) := by
  show a.tmps.getD s undef = a0.tmps.getD s undef
  simp only [Array.getD_eq_getD_getElem?, h.other s hs]
theorem Slots.puts (h : Slots w0 a0 isRow lv a w) (hd : isRow d = true) (s : Nat) (hs : isRow s = false) : (a.put (some d) v).tmps[s]? = a0.tmps[s]? := by
  have hne : d ≠ s := fun e => by rw [e, hs] at hd; cases hd
  show (a.tmps.setIfInBounds d v)[s]? = _
  rw [Array.getElem?_setIfInBounds_ne hne]
  exact h.other s hs
theorem Slots.lit (h : Slots w0 a0 isRow lv a w) (hd : isRow d = true) (hd2 : d < a0.tmps.size) {o : Obj} {xs : List Int} (ho : (w.alloc o).ownsRow w.heap.size 3 1 v xs.length (cZ xs)) (hv : ∀ k, v.ownBlock = some k → k = w.heap.size)
    (hs : ∀ s ys, s ≠ d → lv' s = some ys → lv s = some ys) (hx : ∀ ys, lv' d = some ys → ys = xs) : Slots w0 a0 isRow lv' (a.put (some d) v) (w.alloc o) := by
  have hsz : d < a.tmps.size := by rw [h.size]; exact hd2
  have hb := below1 w o
  refine ⟨below_next h.low hb, fun s ys hl => ?_, fun s s' ys ys' hne hl hl' k => ?_, by show (a.tmps.setIfInBounds d v).size = _; rw [Array.size_setIfInBounds]; exact h.size, h.defers, h.puts hd⟩
  · rw [put_eval hsz]
    by_cases e : s = d
    · subst e
      rw [if_pos rfl, hx ys hl]
      exact owns_base ho h.low.size
    · rw [if_neg e]
      exact owns_below (h.own s ys (hs s ys e hl)) hb
  · rw [put_eval hsz, put_eval hsz]
    by_cases e : s = d
    · have e' : s' ≠ d := fun q => hne (e.trans q.symm)
      rw [if_pos e, if_neg e']
      intro hk hk'
      have h1 := hv k hk
      have h2 := ((h.own s' ys' (hs s' ys' e' hl')).lt k hk').2
      omega
    · rw [if_neg e]
      by_cases e' : s' = d
      · rw [if_pos e']
        intro hk hk'
        have h1 := hv k hk'
        have h2 := ((h.own s ys (hs s ys e hl)).lt k hk).2
        omega
      · rw [if_neg e']
        exact h.apart s s' ys ys' hne (hs s ys e hl) (hs s' ys' e' hl') k
theorem Slots.app (h : Slots w0 a0 isRow lv a w) (hd : isRow d = true) (hd2 : d < a0.tmps.size) {x : Nat} {xs zs : List Int} (hx : lv x = some xs) (ho : w'.ownsRow w0.heap.size 3 1 v zs.length (cZ zs)) (hg : w.grownBy w' (a.eval (.tmp x)).ownBlock)
    (hat : v.ownBlock = (a.eval (.tmp x)).ownBlock ∨ v.ownBlock = some w.heap.size)
    (hs : ∀ s ys, s ≠ d → lv' s = some ys → lv s = some ys ∧ s ≠ x) (hz : ∀ ys, lv' d = some ys → ys = zs) : Slots w0 a0 isRow lv' (a.put (some d) v) w' := by
  have hsz : d < a.tmps.size := by rw [h.size]; exact hd2
  have hX := h.own x xs hx
  have far : ∀ s ys, s ≠ d → lv' s = some ys → ∀ k, (a.eval (.tmp s)).ownBlock = some k → k < w.heap.size ∧ (a.eval (.tmp x)).ownBlock ≠ some k := fun s ys e hl k hk =>
    ⟨((h.own s ys (hs s ys e hl).1).lt k hk).2, h.apart s x ys xs (hs s ys e hl).2 (hs s ys e hl).1 hx k hk⟩
  have new : ∀ k, v.ownBlock = some k → (a.eval (.tmp x)).ownBlock = some k ∨ k = w.heap.size := fun k hk => by
    rcases hat with e | e
    · exact Or.inl (e.symm.trans hk)
    · exact Or.inr (Option.some.inj (hk.symm.trans e))
  refine ⟨below_own h.low hX hg, fun s ys hl => ?_, fun s s' ys ys' hne hl hl' k => ?_, by show (a.tmps.setIfInBounds d v).size = _; rw [Array.size_setIfInBounds]; exact h.size, h.defers, h.puts hd⟩
  · rw [put_eval hsz]
    by_cases e : s = d
    · subst e
      rw [if_pos rfl, hz ys hl]
      exact ho
    · rw [if_neg e]
      exact owns_far (h.own s ys (hs s ys e hl).1) fun k hk => hg.block k (far s ys e hl k hk).1 (fun q => (far s ys e hl k hk).2 q.symm)
  · rw [put_eval hsz, put_eval hsz]
    by_cases e : s = d
    · have e' : s' ≠ d := fun q => hne (e.trans q.symm)
      rw [if_pos e, if_neg e']
      intro hk hk'
      have h2 := far s' ys' e' hl' k hk'
      rcases new k hk with q | q
      · exact h2.2 q
      · omega
    · rw [if_neg e]
      by_cases e' : s' = d
      · rw [if_pos e']
        intro hk hk'
        have h2 := far s ys e hl k hk
        rcases new k hk' with q | q
        · exact h2.2 q
        · omega
      · rw [if_neg e']
        exact h.apart s s' ys ys' hne (hs s ys e hl).1 (hs s' ys' e' hl').1 k
end
theorem ready_waits {md : Region.Mode} {ops : Array Oper} {listed : Array Bool} {i j : Nat} (h : j ∈ Region.ready md ops listed) (hw : waits md ops j i = true) : listed.getD i false = true := by
  obtain ⟨_, o, ho, hall⟩ := mem_ready.1 h
  unfold waits at hw
  rw [ho] at hw
  simp only [Array.any_eq_true'] at hw
  obtain ⟨e, he, hb⟩ := hw
  simp only [Bool.and_eq_true, beq_iff_eq] at hb
  have := hall e he hb.1
  rw [hb.2] at this
  exact this

/-- Which of the eight are done. -/
structure Bits where
  a0 : Bool
  a1 : Bool
  a2 : Bool
  a3 : Bool
  b0 : Bool
  b1 : Bool
  b2 : Bool
  b3 : Bool
def lst (b : Bits) : Array Bool := #[true, true, b.a0, true, true, true, true, b.a1, true, b.a2, b.a3, b.b0, true, true, true, true, b.b1, true, b.b2, b.b3, false, false, false, false, false, false]
def rowSlot (s : Nat) : Bool := s == 52 || s == 57 || s == 59 || s == 60 || s == 61 || s == 66 || s == 68 || s == 69
def live (l m : List Int) (t n : Int) (b : Bits) (s : Nat) : Option (List Int) := if s = 52 then (if b.a0 && !b.a1 then some ([]) else none) else if s = 57 then (if b.a1 && !b.a3 then some (l) else none) else if s = 59 then (if b.a2 && !b.a3 then some ([t]) else none) else if s = 60 then (if b.a3 then some (l ++ [t]) else none) else if s = 61 then (if b.b0 && !b.b1 then some ([]) else none) else if s = 66 then (if b.b1 && !b.b3 then some (m) else none) else if s = 68 then (if b.b2 && !b.b3 then some ([n]) else none) else if s = 69 then (if b.b3 then some (m ++ [n]) else none) else none
def left (b : Bits) : Nat := (if b.a0 then 0 else 1) + (if b.a1 then 0 else 1) + (if b.a2 then 0 else 1) + (if b.a3 then 0 else 1) + (if b.b0 then 0 else 1) + (if b.b1 then 0 else 1) + (if b.b2 then 0 else 1) + (if b.b3 then 0 else 1)
def IsOp (ops : Array Oper) (i d : Nat) (op : Op) : Prop := (ops[i]?).map (fun o => (o.guard, o.dst, o.op)) = some (none, some d, op)
theorem IsOp.out {ops : Array Oper} {i d : Nat} {op : Op} (h : IsOp ops i d op) : ∃ o, ops[i]? = some o ∧ o.guard = none ∧ o.dst = some d ∧ o.op = op := by
  unfold IsOp at h
  cases ho : ops[i]? with
  | none => rw [ho] at h; cases h
  | some o =>
    rw [ho] at h
    simp only [Option.map_some, Option.some.injEq, Prod.mk.injEq] at h
    exact ⟨o, rfl, h.1, h.2.1, h.2.2⟩
def app2 (x y : Nat) : Op := .call { callee := .builtin .append, args := #[.tmp x, .tmp y], argTypes := #[31, 31] }

/-- What is asked of the operations. -/
structure Two (ops : Array Oper) : Prop where
  i2 : IsOp ops 2 52 (.buildSlice 31 0 #[])
  i7 : IsOp ops 7 57 (app2 52 56)
  i9 : IsOp ops 9 59 (.buildSlice 31 1 #[(0, .tmp 58)])
  i10 : IsOp ops 10 60 (app2 57 59)
  i11 : IsOp ops 11 61 (.buildSlice 31 0 #[])
  i16 : IsOp ops 16 66 (app2 61 65)
  i18 : IsOp ops 18 68 (.buildSlice 31 1 #[(0, .tmp 67)])
  i19 : IsOp ops 19 69 (app2 66 68)
  few : ops.size = 26
  w7 : waits .any ops 7 2 = true
  w10 : waits .any ops 10 7 = true ∧ waits .any ops 10 9 = true
  w16 : waits .any ops 16 11 = true ∧ waits .any ops 16 10 = true
  w19 : waits .any ops 19 16 = true ∧ waits .any ops 19 18 = true
  w20 : ∀ i, 20 ≤ i → i < 26 → waits .any ops i 19 = true
  r2 : ∀ x1 x2 x3 x4 x5 x6 x7, (Region.ready .any ops (lst ⟨false, x1, x2, x3, x4, x5, x6, x7⟩)).contains 2 = true
  r7 : ∀ x2 x3 x4 x5 x6 x7, (Region.ready .any ops (lst ⟨true, false, x2, x3, x4, x5, x6, x7⟩)).contains 7 = true
  r9 : ∀ x3 x4 x5 x6 x7, (Region.ready .any ops (lst ⟨true, true, false, x3, x4, x5, x6, x7⟩)).contains 9 = true
  r10 : ∀ x4 x5 x6 x7, (Region.ready .any ops (lst ⟨true, true, true, false, x4, x5, x6, x7⟩)).contains 10 = true
  r11 : ∀ x5 x6 x7, (Region.ready .any ops (lst ⟨true, true, true, true, false, x5, x6, x7⟩)).contains 11 = true
  r16 : ∀ x6 x7, (Region.ready .any ops (lst ⟨true, true, true, true, true, false, x6, x7⟩)).contains 16 = true
  r18 : ∀ x7, (Region.ready .any ops (lst ⟨true, true, true, true, true, true, false, x7⟩)).contains 18 = true
  r19 : (Region.ready .any ops (lst ⟨true, true, true, true, true, true, true, false⟩)).contains 19 = true

section
variable {ops : Array Oper} {Q : Exit → Act → World → Prop} {S : World → Prop} {A : Nat → Bool}
theorem Two.some (h : Two ops) (b : Bits) (hb : b.b3 = false) : Region.ready .any ops (lst b) ≠ [] := by
  obtain ⟨x0, x1, x2, x3, x4, x5, x6, x7⟩ := b
  dsimp only at hb
  subst hb
  intro e
  cases x0 with
  | false => have := h.r2 x1 x2 x3 x4 x5 x6 false; rw [e] at this; cases this
  | true =>
    cases x1 with
    | false => have := h.r7 x2 x3 x4 x5 x6 false; rw [e] at this; cases this
    | true =>
      cases x2 with
      | false => have := h.r9 x3 x4 x5 x6 false; rw [e] at this; cases this
      | true =>
        cases x3 with
        | false => have := h.r10 x4 x5 x6 false; rw [e] at this; cases this
        | true =>
          cases x4 with
          | false => have := h.r11 x5 x6 false; rw [e] at this; cases this
          | true =>
            cases x5 with
            | false => have := h.r16 x6 false; rw [e] at this; cases this
            | true =>
              cases x6 with
              | false => have := h.r18 false; rw [e] at this; cases this
              | true =>
                have := h.r19; rw [e] at this; cases this

theorem step_lit {o : Oper} {a : Act} {w : World} {K : Act → World → Prop} {E : Prop} (hg : o.guard = none) (ho : o.op = .buildSlice 31 0 #[]) (h : K (a.put o.dst (.slice (some ⟨w.heap.size, 0, none⟩) 0 0)) (w.alloc (.cells #[] 3))) :
    if Region.wanted o (yielded ops a.tmps) = true then Oper.wp Try.prog o a w K Q else E := by
  rw [if_pos (by simp [Region.wanted, hg])]
  unfold Oper.wp execOp
  simp only [ho]
  go_simp
  exact h
theorem step_lit1 {o : Oper} {a : Act} {w : World} {K : Act → World → Prop} {E : Prop} {x : Nat} {t : Int} (hg : o.guard = none) (ho : o.op = .buildSlice 31 1 #[(0, .tmp x)]) (hx : a.eval (.tmp x) = .int .i64 t) (h : K (a.put o.dst (.slice (some ⟨w.heap.size, 0, none⟩) 1 1)) (w.alloc (.cells #[.int .i64 t] 3))) :
    if Region.wanted o (yielded ops a.tmps) = true then Oper.wp Try.prog o a w K Q else E := by
  rw [if_pos (by simp [Region.wanted, hg])]
  unfold Oper.wp execOp
  simp only [ho]
  have e : Array.map (fun x => (x.fst, a.eval x.snd)) #[(0, Operand.tmp x)] = #[(0, Value.int .i64 t)] := by simp [hx]
  rw [e]
  go_simp
  exact h
theorem lit1 (w : World) (x : Int) : (w.alloc (.cells #[.int .i64 x] 3)).ownsRow w.heap.size 3 1 (.slice (some ⟨w.heap.size, 0, none⟩) 1 1) 1 (cZ [x]) := World.ownsRow_lit w #[.int .i64 x] 1 (Nat.le_refl _) (by unfold maxLen; omega) rfl

def clo (b : Bits) : Prop := (b.b3 = true → b.b1 = true ∧ b.b2 = true) ∧ (b.b1 = true → b.b0 = true ∧ b.a3 = true) ∧ (b.a3 = true → b.a1 = true ∧ b.a2 = true) ∧ (b.a1 = true → b.a0 = true)
def allDone : Bits := ⟨true, true, true, true, true, true, true, true⟩

set_option maxHeartbeats 4000000 in
theorem two_rows (hT : Two ops) (w0 : World) (a0 : Act) (l m : List Int) (t n : Int) (al am : Option Addr) (L M cl cm : Nat) (hl : l.length = L) (hm : m.length = M) (hL : L ≤ 1000) (hM : M ≤ 1000)
    (hzl : RowZ w0 al l) (hzm : RowZ w0 am m) (e56 : a0.eval (.tmp 56) = .slice al L cl) (e65 : a0.eval (.tmp 65) = .slice am M cm) (e58 : a0.eval (.tmp 58) = .int .i64 t) (e67 : a0.eval (.tmp 67) = .int .i64 n) (hsz : a0.tmps.size = 86)
    (hS : ∀ w', Below w0.heap.size w0 w' → S w')
    (hQ : ∀ f a w', Slots w0 a0 rowSlot (live l m t n allDone) a w' → wpAnyL Try.prog .any ops Q S A (f + 6) (lst allDone) a w') :
    ∀ (fuel : Nat) (b : Bits) (a : Act) (w : World), Slots w0 a0 rowSlot (live l m t n b) a w → clo b → 6 + left b ≤ fuel → wpAnyL Try.prog .any ops Q S A fuel (lst b) a w := by
  intro fuel
  induction fuel with
  | zero => intro b a w _ _ hf; omega
  | succ fuel ih =>
    intro b a w hJ hc hf
    by_cases hb : b.b3 = true
    · obtain ⟨c1, c2, c3, c4⟩ := hc
      obtain ⟨q1, q2⟩ := c1 hb
      obtain ⟨q3, q4⟩ := c2 q1
      obtain ⟨q5, q6⟩ := c3 q4
      have q7 := c4 q5
      have e : b = allDone := by
        obtain ⟨x0, x1, x2, x3, x4, x5, x6, x7⟩ := b
        dsimp only at hb q1 q2 q3 q4 q5 q6 q7
        rw [hb, q1, q2, q3, q4, q5, q6, q7]
        rfl
      subst e
      obtain ⟨f, hfe⟩ : ∃ f, fuel + 1 = f + 6 := ⟨fuel + 1 - 6, by omega⟩
      rw [hfe]
      exact hQ f a w hJ
    · have hb' : b.b3 = false := by simpa using hb
      refine ⟨fun e => absurd e (hT.some b hb'), fun i hi => ?_⟩
      have hlt : i < 26 := by
        obtain ⟨_, o, ho, _⟩ := mem_ready.1 hi
        have := (Array.getElem?_eq_some_iff.1 ho).1
        have := hT.few
        omega
      have hun := (mem_ready.1 hi).1
      obtain ⟨c1, c2, c3, c4⟩ := hc
      have V56 := (hJ.evals (s := 56) rfl).trans e56
      have V65 := (hJ.evals (s := 65) rfl).trans e65
      have V58 := (hJ.evals (s := 58) rfl).trans e58
      have V67 := (hJ.evals (s := 67) rfl).trans e67
      match i, hi, hun, hlt with
      | 0, _, hun, _ => cases (show true = false from hun)
      | 1, _, hun, _ => cases (show true = false from hun)
      | 2, hi, hun, _ =>
        have hx0 : b.a0 = false := hun
        have hleft : 6 + left { b with a0 := true } ≤ fuel := by
          have e : left b = left { b with a0 := true } + 1 := by simp only [left, hx0]; simp <;> omega
          omega
        obtain ⟨o, ho, hg, hd, hop⟩ := hT.i2.out
        have hs : ∀ s ys, s ≠ 52 → live l m t n { b with a0 := true } s = some ys → live l m t n b s = some ys := by
          intro s ys hne h
          simp only [live, if_neg hne] at h ⊢
          exact h
        have hx : ∀ ys, live l m t n { b with a0 := true } 52 = some ys → ys = [] := by
          intro ys h
          simp [live] at h
          exact h.2
        have hJ' := hJ.lit (lv' := live l m t n { b with a0 := true }) (d := 52) rfl (by rw [hsz]; decide) (xs := []) (lit0 w) (fun k hk => by simpa [Value.ownBlock] using hk.symm) hs hx
        refine wpOp_step ho (fun K' hK => step_lit hg hop ?_)
        rw [hd]
        exact hK _ _ ⟨fun _ => hS _ hJ'.low, ih { b with a0 := true } _ _ hJ' ⟨c1, c2, c3, fun _ => rfl⟩ hleft⟩
      | 3, _, hun, _ => cases (show true = false from hun)
      | 4, _, hun, _ => cases (show true = false from hun)
      | 5, _, hun, _ => cases (show true = false from hun)
      | 6, _, hun, _ => cases (show true = false from hun)
      | 7, hi, hun, _ =>
        have hx0 : b.a1 = false := hun
        have p_a0 : b.a0 = true := ready_waits hi hT.w7
        have hleft : 6 + left { b with a1 := true } ≤ fuel := by
          have e : left b = left { b with a1 := true } + 1 := by simp only [left, hx0]; simp <;> omega
          omega
        obtain ⟨o, ho, hg, hd, hop⟩ := hT.i7.out
        have hs : ∀ s ys, s ≠ 57 → live l m t n { b with a1 := true } s = some ys → live l m t n b s = some ys ∧ s ≠ 52 := by
          intro s ys hne h
          by_cases q52 : s = 52
          · subst q52; simp [live] at h
          simp only [live, if_neg hne, if_neg q52] at h ⊢
          exact ⟨h, q52⟩
        have hz : ∀ ys, live l m t n { b with a1 := true } 57 = some ys → ys = l := by
          intro ys h
          simp [live] at h
          exact h.2.symm
        have hlx : live l m t n b 52 = some ([]) := by simp [live, hx0, p_a0]
        have HX := hJ.own 52 _ hlx
        refine wpOp_step ho (fun K' hK => step_append_z w hg (.tmp 52) (.tmp 56) hop w0.heap.size _ 0 ([]) rfl HX al L cl l V56 hl (hzl.below hJ.low) (by omega) hJ.low.size ?_)
        intro ad cap w' ho' hg' hat
        rw [hd]
        have hJ' := hJ.app (lv' := live l m t n { b with a1 := true }) (d := 57) (v := .slice ad (0 + L) cap) rfl (by rw [hsz]; decide) (x := 52) hlx (zs := l) (by rw [show l.length = 0 + L from by omega]; exact ho') hg' hat hs hz
        exact hK _ _ ⟨fun _ => hS _ hJ'.low, ih { b with a1 := true } _ _ hJ' ⟨c1, c2, fun h => ⟨rfl, (c3 h).2⟩, fun _ => p_a0⟩ hleft⟩
      | 8, _, hun, _ => cases (show true = false from hun)
      | 9, hi, hun, _ =>
        have hx0 : b.a2 = false := hun
        have hleft : 6 + left { b with a2 := true } ≤ fuel := by
          have e : left b = left { b with a2 := true } + 1 := by simp only [left, hx0]; simp <;> omega
          omega
        obtain ⟨o, ho, hg, hd, hop⟩ := hT.i9.out
        have hs : ∀ s ys, s ≠ 59 → live l m t n { b with a2 := true } s = some ys → live l m t n b s = some ys := by
          intro s ys hne h
          simp only [live, if_neg hne] at h ⊢
          exact h
        have hx : ∀ ys, live l m t n { b with a2 := true } 59 = some ys → ys = [t] := by
          intro ys h
          simp [live] at h
          exact h.2.symm
        have hJ' := hJ.lit (lv' := live l m t n { b with a2 := true }) (d := 59) rfl (by rw [hsz]; decide) (xs := [t]) (lit1 w t) (fun k hk => by simpa [Value.ownBlock] using hk.symm) hs hx
        refine wpOp_step ho (fun K' hK => step_lit1 hg hop V58 ?_)
        rw [hd]
        exact hK _ _ ⟨fun _ => hS _ hJ'.low, ih { b with a2 := true } _ _ hJ' ⟨c1, c2, fun h => ⟨(c3 h).1, rfl⟩, c4⟩ hleft⟩
      | 10, hi, hun, _ =>
        have hx0 : b.a3 = false := hun
        have p_a1 : b.a1 = true := ready_waits hi hT.w10.1
        have p_a2 : b.a2 = true := ready_waits hi hT.w10.2
        have hleft : 6 + left { b with a3 := true } ≤ fuel := by
          have e : left b = left { b with a3 := true } + 1 := by simp only [left, hx0]; simp <;> omega
          omega
        obtain ⟨o, ho, hg, hd, hop⟩ := hT.i10.out
        have hs : ∀ s ys, s ≠ 60 → live l m t n { b with a3 := true } s = some ys → live l m t n b s = some ys ∧ s ≠ 57 := by
          intro s ys hne h
          by_cases q57 : s = 57
          · subst q57; simp [live] at h
          by_cases q59 : s = 59
          · subst q59; simp [live] at h
          simp only [live, if_neg hne, if_neg q57, if_neg q59] at h ⊢
          exact ⟨h, q57⟩
        have hz : ∀ ys, live l m t n { b with a3 := true } 60 = some ys → ys = l ++ [t] := by
          intro ys h
          simp [live] at h
          exact h.symm
        have hlx : live l m t n b 57 = some (l) := by simp [live, hx0, p_a1]
        have HX := hJ.own 57 _ hlx
        have hly : live l m t n b 59 = some [t] := by simp [live, hx0, p_a2]
        have HY := hJ.own 59 _ hly
        obtain ⟨ay, cy, hvy⟩ := owns_slice HY
        have hzy : RowZ w ay [t] := owns_rowZ (c := cy) (l := [t]) (by rw [hvy] at HY; exact HY)
        refine wpOp_step ho (fun K' hK => step_append_z w hg (.tmp 57) (.tmp 59) hop w0.heap.size _ l.length (l) rfl HX ay 1 cy [t] hvy rfl hzy (by omega) hJ.low.size ?_)
        intro ad cap w' ho' hg' hat
        rw [hd]
        have hJ' := hJ.app (lv' := live l m t n { b with a3 := true }) (d := 60) (v := .slice ad (l.length + 1) cap) rfl (by rw [hsz]; decide) (x := 57) hlx (zs := l ++ [t]) (by rw [show (l ++ [t]).length = l.length + 1 from by simp]; exact ho') hg' hat hs hz
        exact hK _ _ ⟨fun _ => hS _ hJ'.low, ih { b with a3 := true } _ _ hJ' ⟨c1, fun h => ⟨(c2 h).1, rfl⟩, fun _ => ⟨p_a1, p_a2⟩, c4⟩ hleft⟩
      | 11, hi, hun, _ =>
        have hx0 : b.b0 = false := hun
        have hleft : 6 + left { b with b0 := true } ≤ fuel := by
          have e : left b = left { b with b0 := true } + 1 := by simp only [left, hx0]; simp <;> omega
          omega
        obtain ⟨o, ho, hg, hd, hop⟩ := hT.i11.out
        have hs : ∀ s ys, s ≠ 61 → live l m t n { b with b0 := true } s = some ys → live l m t n b s = some ys := by
          intro s ys hne h
          simp only [live, if_neg hne] at h ⊢
          exact h
        have hx : ∀ ys, live l m t n { b with b0 := true } 61 = some ys → ys = [] := by
          intro ys h
          simp [live] at h
          exact h.2
        have hJ' := hJ.lit (lv' := live l m t n { b with b0 := true }) (d := 61) rfl (by rw [hsz]; decide) (xs := []) (lit0 w) (fun k hk => by simpa [Value.ownBlock] using hk.symm) hs hx
        refine wpOp_step ho (fun K' hK => step_lit hg hop ?_)
        rw [hd]
        exact hK _ _ ⟨fun _ => hS _ hJ'.low, ih { b with b0 := true } _ _ hJ' ⟨c1, fun h => ⟨rfl, (c2 h).2⟩, c3, c4⟩ hleft⟩
      | 12, _, hun, _ => cases (show true = false from hun)
      | 13, _, hun, _ => cases (show true = false from hun)
      | 14, _, hun, _ => cases (show true = false from hun)
      | 15, _, hun, _ => cases (show true = false from hun)
      | 16, hi, hun, _ =>
        have hx0 : b.b1 = false := hun
        have p_b0 : b.b0 = true := ready_waits hi hT.w16.1
        have p_a3 : b.a3 = true := ready_waits hi hT.w16.2
        have hleft : 6 + left { b with b1 := true } ≤ fuel := by
          have e : left b = left { b with b1 := true } + 1 := by simp only [left, hx0]; simp <;> omega
          omega
        obtain ⟨o, ho, hg, hd, hop⟩ := hT.i16.out
        have hs : ∀ s ys, s ≠ 66 → live l m t n { b with b1 := true } s = some ys → live l m t n b s = some ys ∧ s ≠ 61 := by
          intro s ys hne h
          by_cases q61 : s = 61
          · subst q61; simp [live] at h
          simp only [live, if_neg hne, if_neg q61] at h ⊢
          exact ⟨h, q61⟩
        have hz : ∀ ys, live l m t n { b with b1 := true } 66 = some ys → ys = m := by
          intro ys h
          simp [live] at h
          exact h.2.symm
        have hlx : live l m t n b 61 = some ([]) := by simp [live, hx0, p_b0]
        have HX := hJ.own 61 _ hlx
        refine wpOp_step ho (fun K' hK => step_append_z w hg (.tmp 61) (.tmp 65) hop w0.heap.size _ 0 ([]) rfl HX am M cm m V65 hm (hzm.below hJ.low) (by omega) hJ.low.size ?_)
        intro ad cap w' ho' hg' hat
        rw [hd]
        have hJ' := hJ.app (lv' := live l m t n { b with b1 := true }) (d := 66) (v := .slice ad (0 + M) cap) rfl (by rw [hsz]; decide) (x := 61) hlx (zs := m) (by rw [show m.length = 0 + M from by omega]; exact ho') hg' hat hs hz
        exact hK _ _ ⟨fun _ => hS _ hJ'.low, ih { b with b1 := true } _ _ hJ' ⟨fun h => ⟨rfl, (c1 h).2⟩, fun _ => ⟨p_b0, p_a3⟩, c3, c4⟩ hleft⟩
      | 17, _, hun, _ => cases (show true = false from hun)
      | 18, hi, hun, _ =>
        have hx0 : b.b2 = false := hun
        have hleft : 6 + left { b with b2 := true } ≤ fuel := by
          have e : left b = left { b with b2 := true } + 1 := by simp only [left, hx0]; simp <;> omega
          omega
        obtain ⟨o, ho, hg, hd, hop⟩ := hT.i18.out
        have hs : ∀ s ys, s ≠ 68 → live l m t n { b with b2 := true } s = some ys → live l m t n b s = some ys := by
          intro s ys hne h
          simp only [live, if_neg hne] at h ⊢
          exact h
        have hx : ∀ ys, live l m t n { b with b2 := true } 68 = some ys → ys = [n] := by
          intro ys h
          simp [live] at h
          exact h.2.symm
        have hJ' := hJ.lit (lv' := live l m t n { b with b2 := true }) (d := 68) rfl (by rw [hsz]; decide) (xs := [n]) (lit1 w n) (fun k hk => by simpa [Value.ownBlock] using hk.symm) hs hx
        refine wpOp_step ho (fun K' hK => step_lit1 hg hop V67 ?_)
        rw [hd]
        exact hK _ _ ⟨fun _ => hS _ hJ'.low, ih { b with b2 := true } _ _ hJ' ⟨fun h => ⟨(c1 h).1, rfl⟩, c2, c3, c4⟩ hleft⟩
      | 19, hi, hun, _ =>
        have hx0 : b.b3 = false := hun
        have p_b1 : b.b1 = true := ready_waits hi hT.w19.1
        have p_b2 : b.b2 = true := ready_waits hi hT.w19.2
        have hleft : 6 + left { b with b3 := true } ≤ fuel := by
          have e : left b = left { b with b3 := true } + 1 := by simp only [left, hx0]; simp <;> omega
          omega
        obtain ⟨o, ho, hg, hd, hop⟩ := hT.i19.out
        have hs : ∀ s ys, s ≠ 69 → live l m t n { b with b3 := true } s = some ys → live l m t n b s = some ys ∧ s ≠ 66 := by
          intro s ys hne h
          by_cases q66 : s = 66
          · subst q66; simp [live] at h
          by_cases q68 : s = 68
          · subst q68; simp [live] at h
          simp only [live, if_neg hne, if_neg q66, if_neg q68] at h ⊢
          exact ⟨h, q66⟩
        have hz : ∀ ys, live l m t n { b with b3 := true } 69 = some ys → ys = m ++ [n] := by
          intro ys h
          simp [live] at h
          exact h.symm
        have hlx : live l m t n b 66 = some (m) := by simp [live, hx0, p_b1]
        have HX := hJ.own 66 _ hlx
        have hly : live l m t n b 68 = some [n] := by simp [live, hx0, p_b2]
        have HY := hJ.own 68 _ hly
        obtain ⟨ay, cy, hvy⟩ := owns_slice HY
        have hzy : RowZ w ay [n] := owns_rowZ (c := cy) (l := [n]) (by rw [hvy] at HY; exact HY)
        refine wpOp_step ho (fun K' hK => step_append_z w hg (.tmp 66) (.tmp 68) hop w0.heap.size _ m.length (m) rfl HX ay 1 cy [n] hvy rfl hzy (by omega) hJ.low.size ?_)
        intro ad cap w' ho' hg' hat
        rw [hd]
        have hJ' := hJ.app (lv' := live l m t n { b with b3 := true }) (d := 69) (v := .slice ad (m.length + 1) cap) rfl (by rw [hsz]; decide) (x := 66) hlx (zs := m ++ [n]) (by rw [show (m ++ [n]).length = m.length + 1 from by simp]; exact ho') hg' hat hs hz
        exact hK _ _ ⟨fun _ => hS _ hJ'.low, ih { b with b3 := true } _ _ hJ' ⟨fun _ => ⟨p_b1, p_b2⟩, c2, c3, c4⟩ hleft⟩
      | 20, hi, _, _ => exact absurd ((show b.b3 = true from ready_waits hi (hT.w20 20 (by omega) (by omega)))) hb
      | 21, hi, _, _ => exact absurd ((show b.b3 = true from ready_waits hi (hT.w20 21 (by omega) (by omega)))) hb
      | 22, hi, _, _ => exact absurd ((show b.b3 = true from ready_waits hi (hT.w20 22 (by omega) (by omega)))) hb
      | 23, hi, _, _ => exact absurd ((show b.b3 = true from ready_waits hi (hT.w20 23 (by omega) (by omega)))) hb
      | 24, hi, _, _ => exact absurd ((show b.b3 = true from ready_waits hi (hT.w20 24 (by omega) (by omega)))) hb
      | 25, hi, _, _ => exact absurd ((show b.b3 = true from ready_waits hi (hT.w20 25 (by omega) (by omega)))) hb
      | k + 26, _, _, hlt => omega

theorem eval_get {a : Act} {s : Nat} (h : s < a.tmps.size) : a.tmps[s]? = some (a.eval (.tmp s)) := by
  show _ = some (a.tmps.getD s undef)
  rw [Array.getD_eq_getD_getElem?, Array.getElem?_eq_getElem h]
  rfl
theorem get_set_self {xs : Array Value} {i : Nat} {v : Value} (h : i < xs.size) : (xs.setIfInBounds i v)[i]? = some v := by simp [h]
theorem agree_step {P : Nat → Bool} {xs ys : Array Value} (h : ∀ i, P i = false → ys[i]? = xs[i]?) {r : Nat} {v : Value} (hr : ys[r]? = some v) (hs : r < xs.size) : ∀ i, (P i && !(i == r)) = false → ys[i]? = (xs.setIfInBounds r v)[i]? := fun i hi => by
  by_cases e : i = r
  · subst e
    rw [get_set_self hs]
    exact hr
  · rw [Array.getElem?_setIfInBounds_ne (fun q => e q.symm)]
    refine h i ?_
    have e' : (i == r) = false := by simpa using e
    rw [e'] at hi
    simpa using hi
theorem Slots.form {w0 w : World} {a0 a : Act} {lv : Nat → Option (List Int)} (h : Slots w0 a0 rowSlot lv a w) (hsz : a0.tmps.size = 86) : a.tmps = ((((((((a0.tmps.setIfInBounds 52 (a.eval (.tmp 52))).setIfInBounds 57 (a.eval (.tmp 57))).setIfInBounds 59 (a.eval (.tmp 59))).setIfInBounds 60 (a.eval (.tmp 60))).setIfInBounds 61 (a.eval (.tmp 61))).setIfInBounds 66 (a.eval (.tmp 66))).setIfInBounds 68 (a.eval (.tmp 68))).setIfInBounds 69 (a.eval (.tmp 69))) := by
  have hs := h.size
  rw [hsz] at hs
  have g : ∀ r : Nat, r < 86 → a.tmps[r]? = some (a.eval (.tmp r)) := fun r hr => eval_get (by rw [hs]; exact hr)
  have h0 := h.other
  have h52 := agree_step h0 (g 52 (by omega)) (by first | omega | (simp only [Array.size_setIfInBounds]; omega))
  have h57 := agree_step h52 (g 57 (by omega)) (by first | omega | (simp only [Array.size_setIfInBounds]; omega))
  have h59 := agree_step h57 (g 59 (by omega)) (by first | omega | (simp only [Array.size_setIfInBounds]; omega))
  have h60 := agree_step h59 (g 60 (by omega)) (by first | omega | (simp only [Array.size_setIfInBounds]; omega))
  have h61 := agree_step h60 (g 61 (by omega)) (by first | omega | (simp only [Array.size_setIfInBounds]; omega))
  have h66 := agree_step h61 (g 66 (by omega)) (by first | omega | (simp only [Array.size_setIfInBounds]; omega))
  have h68 := agree_step h66 (g 68 (by omega)) (by first | omega | (simp only [Array.size_setIfInBounds]; omega))
  have h69 := agree_step h68 (g 69 (by omega)) (by first | omega | (simp only [Array.size_setIfInBounds]; omega))
  refine Array.ext_getElem? fun i => h69 i ?_
  unfold rowSlot
  generalize (i == 52) = x52
  generalize (i == 57) = x57
  generalize (i == 59) = x59
  generalize (i == 60) = x60
  generalize (i == 61) = x61
  generalize (i == 66) = x66
  generalize (i == 68) = x68
  generalize (i == 69) = x69
  cases x52 <;> cases x57 <;> cases x59 <;> cases x60 <;> cases x61 <;> cases x66 <;> cases x68 <;> cases x69 <;> rfl

theorem two_start (w0 : World) (a0 : Act) (l m : List Int) (t n : Int) (al am : Option Addr) (L M cl cm : Nat) (hT : Two ops) (hl : l.length = L) (hm : m.length = M) (hL : L ≤ 1000) (hM : M ≤ 1000)
    (hzl : RowZ w0 al l) (hzm : RowZ w0 am m) (e56 : a0.eval (.tmp 56) = .slice al L cl) (e65 : a0.eval (.tmp 65) = .slice am M cm) (e58 : a0.eval (.tmp 58) = .int .i64 t) (e67 : a0.eval (.tmp 67) = .int .i64 n) (hsz : a0.tmps.size = 86)
    (hS : ∀ w', Below w0.heap.size w0 w' → S w')
    (hQ : ∀ f v52 v57 v59 a6 c6 v61 v66 v68 a8 c8 w', Below w0.heap.size w0 w' → w'.ownsRow w0.heap.size 3 1 (.slice a6 (L + 1) c6) (L + 1) (cZ (l ++ [t])) → w'.ownsRow w0.heap.size 3 1 (.slice a8 (M + 1) c8) (M + 1) (cZ (m ++ [n])) →
      wpAnyL Try.prog .any ops Q S A (f + 6) #[true, true, true, true, true, true, true, true, true, true, true, true, true, true, true, true, true, true, true, true, false, false, false, false, false, false] { tmps := ((((((((a0.tmps.setIfInBounds 52 v52).setIfInBounds 57 v57).setIfInBounds 59 v59).setIfInBounds 60 (.slice a6 (L + 1) c6)).setIfInBounds 61 v61).setIfInBounds 66 v66).setIfInBounds 68 v68).setIfInBounds 69 (.slice a8 (M + 1) c8)), defers := a0.defers } w') :
    wpAnyL Try.prog .any ops Q S A 14 #[true, true, false, true, true, true, true, false, true, false, false, false, true, true, true, true, false, true, false, false, false, false, false, false, false, false] a0 w0 := by
  have no : ∀ s xs, live l m t n ⟨false, false, false, false, false, false, false, false⟩ s = some xs → False := fun s xs h => by
    simp [live] at h
  refine two_rows hT w0 a0 l m t n al am L M cl cm hl hm hL hM hzl hzm e56 e65 e58 e67 hsz hS (fun f a w' hJ => ?_) 14 ⟨false, false, false, false, false, false, false, false⟩ a0 w0
    ⟨Below.refl _ _, fun s xs h => (no s xs h).elim, fun s s' xs xs' _ h => (no s xs h).elim, rfl, rfl, fun _ _ => rfl⟩
    ⟨fun h => (by cases h), fun h => (by cases h), fun h => (by cases h), fun h => (by cases h)⟩ (by decide)
  have e1 := hJ.form hsz
  have e2 := hJ.defers
  have h60 := hJ.own 60 _ rfl
  have h69 := hJ.own 69 _ rfl
  rw [show (l ++ [t]).length = L + 1 by rw [List.length_append, hl]; rfl] at h60
  rw [show (m ++ [n]).length = M + 1 by rw [List.length_append, hm]; rfl] at h69
  obtain ⟨a6, c6, f6⟩ := owns_slice h60
  obtain ⟨a8, c8, f8⟩ := owns_slice h69
  rw [f6] at h60
  rw [f8] at h69
  have q := hQ f (a.eval (.tmp 52)) (a.eval (.tmp 57)) (a.eval (.tmp 59)) a6 c6 (a.eval (.tmp 61)) (a.eval (.tmp 66)) (a.eval (.tmp 68)) a8 c8 w' hJ.low h60 h69
  rw [← f6, ← f8, ← e1, ← e2] at q
  exact q
end
end Go.Proofs.Ytgldhlcdnijecaa
