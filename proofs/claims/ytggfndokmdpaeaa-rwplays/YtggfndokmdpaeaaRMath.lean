/-
  The document's one list of tasks, as plain data; and how it goes with who reads, who writes and who waits.
-/
import Derived.Test.YtggfndokmdpaeaaMath
namespace Go.Proofs.Ytggfndokmdpaeaa

/-- A task, whether it writes, and whether it has got it. -/
structure Wn where
  t : Int
  w : Bool
  h : Bool
def wn (l : List Wn) (k : Nat) : Wn := l.getD k ⟨0, false, false⟩
def ts (l : List Wn) : List Int := l.map (·.t)
def isK (b c : Bool) (o : Wn) : Bool := o.w == b && o.h == c
def kinds (l : List Wn) (b c : Bool) : List Int := (l.filter (isK b c)).map (·.t)
def wrO (l : List Wn) : Int := gz (kinds l true true) 0
def idxN (l : List Wn) (t : Int) : Nat := (idxZ (ts l) t).toNat
def lessO (l : List Wn) (k : Nat) : List Wn := l.take k ++ l.drop (k + 1)
def freeB (l : List Wn) (b : Bool) : Bool := decide (wrO l = 0) && decide ((kinds l (!b) b) = [])
def wantE (l : List Wn) (t : Int) (b wt : Bool) : Int := if t < 1 then 1 else if inZ (ts l) t = true then 11 else if freeB l b = true then 0 else if wt = true then 14 else 12
def wantL (l : List Wn) (t : Int) (b wt : Bool) : List Wn := if t < 1 then l else if inZ (ts l) t = true then l else if (freeB l b || wt) = true then l ++ [⟨t, b, freeB l b⟩] else l
def mvO (l : List Wn) (t : Int) : List Wn := lessO l (idxN l t) ++ [⟨(wn l (idxN l t)).t, (wn l (idxN l t)).w, true⟩]
def handLo (l : List Wn) : List Int := if wrO l ≠ 0 then [] else if kinds l true false = [] then kinds l false false else if kinds l false true = [] then (kinds l true false).take 1 else []
def handLL (l : List Wn) : List Wn := (handLo l).foldl mvO l
def giveB (l : List Wn) (t : Int) (b : Bool) : Bool := inZ (ts l) t && ((wn l (idxN l t)).h && ((wn l (idxN l t)).w == b))
def giveE (l : List Wn) (t : Int) (b : Bool) : Int := if t < 1 then 1 else if giveB l t b = true then 0 else 11
def giveO (l : List Wn) (t : Int) (b : Bool) : List Int := if t < 1 then [] else if giveB l t b = true then handLo (lessO l (idxN l t)) else []
def giveL (l : List Wn) (t : Int) (b : Bool) : List Wn := if t < 1 then l else if giveB l t b = true then handLL (lessO l (idxN l t)) else l
def outB (l : List Wn) (t : Int) : Bool := inZ (ts l) t && !(wn l (idxN l t)).h
def outO (l : List Wn) (t : Int) : List Int := if outB l t = true then handLo (lessO l (idxN l t)) else []
def outL (l : List Wn) (t : Int) : List Wn := if outB l t = true then handLL (lessO l (idxN l t)) else l

theorem ts_len (l : List Wn) : (ts l).length = l.length := by simp [ts]
theorem gz_ts (l : List Wn) {k : Nat} (h : k < l.length) : gz (ts l) k = (wn l k).t := by simp [gz, ts, wn, h]
theorem wn_get (l : List Wn) {k : Nat} (h : k < l.length) : l[k]? = some (wn l k) := by simp [wn, h]
theorem ts_app (a b : List Wn) : ts (a ++ b) = ts a ++ ts b := by simp [ts]
theorem kinds_app (a b : List Wn) (x y : Bool) : kinds (a ++ b) x y = kinds a x y ++ kinds b x y := by simp [kinds]
theorem kinds_one (o : Wn) (x y : Bool) : kinds [o] x y = if isK x y o = true then [o.t] else [] := by
  unfold kinds
  by_cases h : isK x y o = true
  · rw [if_pos h, List.filter_cons_of_pos h]; rfl
  · rw [if_neg h, List.filter_cons_of_neg h]; rfl
theorem kinds_sub (l : List Wn) (x y : Bool) : (kinds l x y).Sublist (ts l) := (List.filter_sublist).map _
theorem kinds_len (l : List Wn) : (kinds l true true).length + (kinds l false true).length + (kinds l true false).length + (kinds l false false).length = l.length := by
  induction l with
  | nil => rfl
  | cons o l ih =>
    have e : ∀ x y, kinds (o :: l) x y = (if isK x y o = true then [o.t] else []) ++ kinds l x y := fun x y => by
      rw [← kinds_one, ← kinds_app]; rfl
    rw [e, e, e, e]
    obtain ⟨t, w, h⟩ := o
    cases w <;> cases h <;> simp [isK] <;> omega
theorem mem_kinds (l : List Wn) (t : Int) : t ∈ ts l ↔ t ∈ kinds l true true ∨ t ∈ kinds l false true ∨ t ∈ kinds l true false ∨ t ∈ kinds l false false := by
  induction l with
  | nil => simp [ts, kinds]
  | cons o l ih =>
    have e : ∀ x y, kinds (o :: l) x y = (if isK x y o = true then [o.t] else []) ++ kinds l x y := fun x y => by
      rw [← kinds_one, ← kinds_app]; rfl
    rw [e, e, e, e]
    have e2 : ts (o :: l) = o.t :: ts l := rfl
    rw [e2, List.mem_cons, ih]
    obtain ⟨u, w, h⟩ := o
    by_cases q : t = u
    · cases w <;> cases h <;> simp [isK, q]
    · cases w <;> cases h <;> simp [isK, q]

/-- One at a known place is found there. -/
theorem idx_place {l : List Wn} (hn : (ts l).Nodup) {k : Nat} (h : k < l.length) : idxN l (wn l k).t = k := by
  have hk : k < (ts l).length := by rw [ts_len]; exact h
  have := idx_at hk (gz_ts l h) (fun m hm e => by
    have hm2 : m < (ts l).length := by omega
    have e1 : (ts l)[m] = (ts l)[k] := by
      have a1 : (ts l)[m] = gz (ts l) m := by simp [gz, List.getD_eq_getElem?_getD, hm2]
      have a2 : (ts l)[k] = gz (ts l) k := by simp [gz, List.getD_eq_getElem?_getD, hk]
      rw [a1, a2, e, gz_ts l h]
    have := (List.getElem_inj hn).1 e1
    omega)
  unfold idxN
  rw [this]
  rfl
theorem idx_here {l : List Wn} {t : Int} (h : inZ (ts l) t = true) : idxN l t < l.length ∧ (wn l (idxN l t)).t = t ∧ idxZ (ts l) t = (idxN l t : Int) := by
  obtain ⟨k, h1, h2, h3⟩ := idx_in h
  rw [ts_len] at h1
  have e : idxN l t = k := by unfold idxN; rw [h2]; rfl
  rw [e]
  exact ⟨h1, by rw [← gz_ts l h1]; exact h3, h2⟩

/-- One that goes leaves the others in their order. -/
theorem less_filter : ∀ {l : List Wn} {k : Nat}, (ts l).Nodup → k < l.length → lessO l k = l.filter fun o => !decide (o.t = (wn l k).t)
  | [], _, _, h => by simp at h
  | o :: l, 0, hn, _ => by
    have hn' : (o.t :: ts l).Nodup := hn
    show [] ++ l = (o :: l).filter fun p => !decide (p.t = o.t)
    rw [List.filter_cons_of_neg (by simp), List.nil_append]
    symm
    rw [List.filter_eq_self]
    intro p hp
    have : p.t ≠ o.t := fun e => (List.nodup_cons.1 hn').1 (e ▸ List.mem_map_of_mem hp)
    simpa using this
  | o :: l, k + 1, hn, h => by
    have hn' : (o.t :: ts l).Nodup := hn
    have hk : k < l.length := by simpa using h
    have hne : o.t ≠ (wn l k).t := fun e => (List.nodup_cons.1 hn').1 (by rw [e, ← gz_ts l hk]; exact gz_mem (by rw [ts_len]; exact hk))
    show o :: lessO l k = (o :: l).filter fun p => !decide (p.t = (wn l k).t)
    rw [List.filter_cons_of_pos (by simpa using hne), less_filter (List.nodup_cons.1 hn').2 hk]
theorem kinds_filter (l : List Wn) (t : Int) (x y : Bool) : kinds (l.filter fun o => !decide (o.t = t)) x y = rmZ (kinds l x y) t := by
  unfold kinds rmZ
  rw [List.filter_map, List.filter_filter, List.filter_filter]
  congr 1
  apply List.filter_congr
  intro o _
  simp [Bool.and_comm]
theorem ts_filter (l : List Wn) (t : Int) : ts (l.filter fun o => !decide (o.t = t)) = rmZ (ts l) t := by
  unfold ts rmZ
  rw [List.filter_map]
  rfl
theorem less_kinds {l : List Wn} (hn : (ts l).Nodup) {t : Int} (h : inZ (ts l) t = true) (x y : Bool) : kinds (lessO l (idxN l t)) x y = rmZ (kinds l x y) t := by
  obtain ⟨h1, h2, _⟩ := idx_here h
  rw [less_filter hn h1, h2, kinds_filter]
theorem less_ts {l : List Wn} (hn : (ts l).Nodup) {t : Int} (h : inZ (ts l) t = true) : ts (lessO l (idxN l t)) = rmZ (ts l) t := by
  obtain ⟨h1, h2, _⟩ := idx_here h
  rw [less_filter hn h1, h2, ts_filter]
theorem less_len {l : List Wn} {k : Nat} (h : k < l.length) : (lessO l k).length + 1 = l.length := by
  unfold lessO
  rw [List.length_append, List.length_take, List.length_drop]
  omega
/-- Of which kind one is that is at a place. -/
theorem kind_at {l : List Wn} (hn : (ts l).Nodup) {k : Nat} (h : k < l.length) (x y : Bool) : inZ (kinds l x y) (wn l k).t = isK x y (wn l k) := by
  have key : (wn l k).t ∈ kinds l x y ↔ isK x y (wn l k) = true := by
    constructor
    · intro hm
      obtain ⟨o, ho, e⟩ := List.mem_map.1 hm
      obtain ⟨ho1, ho2⟩ := List.mem_filter.1 ho
      obtain ⟨j, hj, rfl⟩ := List.mem_iff_getElem.1 ho1
      have ej : wn l j = l[j] := by simp [wn, hj]
      have : idxN l (wn l j).t = j := idx_place hn hj
      rw [ej, e, idx_place hn h] at this
      subst this
      rw [ej]
      exact ho2
    · intro hk
      refine List.mem_map.2 ⟨wn l k, List.mem_filter.2 ⟨?_, hk⟩, rfl⟩
      have := wn_get l h
      exact List.mem_of_getElem? this
  cases hb : isK x y (wn l k)
  · rw [inZ_false, key, hb]; simp
  · rw [inZ_true, key, hb]

/-- Who is of which kind, each once, each a task. -/
structure Kin (s : St) (l : List Wn) : Prop where
  tt : kinds l true true = if s.w = 0 then [] else [s.w]
  ft : kinds l false true = s.rs
  tf : kinds l true false = s.tw
  ff : kinds l false false = s.tr
  nd : (ts l).Nodup
  pos : ∀ x ∈ ts l, 1 ≤ x
/-- Nobody waits who could have it; whoever writes does so alone. -/
structure Inv (s : St) : Prop where
  tr0 : s.w = 0 → s.tw = [] → s.tr = []
  tw0 : s.w = 0 → s.rs = [] → s.tw = []
  alone : s.w ≠ 0 → s.rs = []
structure Rep (s : St) (l : List Wn) : Prop where
  k : Kin s l
  i : Inv s

theorem Kin.wr {s : St} {l : List Wn} (h : Kin s l) : wrO l = s.w := by
  unfold wrO
  rw [h.tt]
  by_cases e : s.w = 0
  · rw [if_pos e, e]; rfl
  · rw [if_neg e]; rfl
theorem Kin.len {s : St} {l : List Wn} (h : Kin s l) : s.len ≤ l.length := by
  have := kinds_len l
  rw [h.ft, h.tf, h.ff] at this
  unfold St.len
  omega
theorem Kin.rows {s : St} {l : List Wn} (h : Kin s l) : s.rs.Nodup ∧ s.tw.Nodup ∧ s.tr.Nodup :=
  ⟨h.ft ▸ h.nd.sublist (kinds_sub _ _ _), h.tf ▸ h.nd.sublist (kinds_sub _ _ _), h.ff ▸ h.nd.sublist (kinds_sub _ _ _)⟩
theorem Kin.twpos {s : St} {l : List Wn} (h : Kin s l) : ∀ x ∈ s.tw, 1 ≤ x := fun x hx => h.pos x ((kinds_sub l true false).subset (h.tf.symm ▸ hx))
theorem Kin.here {s : St} {l : List Wn} (h : Kin s l) {t : Int} (ht : ¬ t < 1) : inZ (ts l) t = here s t := by
  have key : t ∈ ts l ↔ Go.Proofs.Ytggfndokmdpaeaa.here s t = true := by
    rw [mem_kinds, h.tt, h.ft, h.tf, h.ff]
    unfold Go.Proofs.Ytggfndokmdpaeaa.here
    simp only [Bool.or_eq_true, decide_eq_true_eq, inZ_true]
    by_cases e : s.w = 0
    · rw [if_pos e]
      have : ¬ t = s.w := by omega
      simp [this]
    · rw [if_neg e]
      simp
  cases hb : Go.Proofs.Ytggfndokmdpaeaa.here s t
  · rw [inZ_false, key, hb]; simp
  · rw [inZ_true, key, hb]
theorem Kin.nil : Kin St.nil [] := ⟨rfl, rfl, rfl, rfl, List.nodup_nil, fun _ h => by cases h⟩
theorem Rep.nil : Rep St.nil [] := ⟨Kin.nil, ⟨fun _ _ => rfl, fun _ _ => rfl, fun _ => rfl⟩⟩

/-- One that comes stands last. -/
theorem snoc_nd {l : List Wn} (hn : (ts l).Nodup) (hp : ∀ x ∈ ts l, 1 ≤ x) {t : Int} (h1 : ¬ t < 1) (ho : inZ (ts l) t = false) (b c : Bool) : (ts (l ++ [⟨t, b, c⟩])).Nodup ∧ ∀ x ∈ ts (l ++ [⟨t, b, c⟩]), 1 ≤ x := by
  rw [ts_app]
  refine ⟨nodup_snoc hn ho, fun x hx => ?_⟩
  rcases List.mem_append.1 hx with q | q
  · exact hp x q
  · have : x = t := by simpa [ts] using q
    omega

theorem wrong_of {s : St} {l : List Wn} (h : Kin s l) (t : Int) : wrongE s t = if t < 1 then 1 else if inZ (ts l) t = true then 11 else 0 := by
  unfold wrongE
  by_cases h1 : t < 1
  · rw [if_pos h1, if_pos h1]
  · rw [if_neg h1, if_neg h1, h.here h1]
theorem isEmpty_dec {l : List Int} : decide (l = []) = true ↔ l = [] := by simp

/-- Who comes to read is answered the same. -/
theorem want_r {s : St} {l : List Wn} (h : Rep s l) (t : Int) :
    wantE l t false false = readE 12 s t ∧ wantE l t false true = readE 14 s t ∧ Rep (tryRS s t) (wantL l t false false) ∧ Rep (rlockS s t) (wantL l t false true) := by
  have hw := wrong_of h.k t
  unfold wantE wantL readE tryRS rlockS
  by_cases h1 : t < 1
  · have e : wrongE s t = 1 := by rw [hw, if_pos h1]
    rw [e]
    simp only [if_pos h1]
    exact ⟨rfl, rfl, h, h⟩
  · cases ho : inZ (ts l) t
    · have e : wrongE s t = 0 := by rw [hw, if_neg h1, ho]; rfl
      have ef : freeB l false = true ↔ ¬ busyR s := by
        unfold freeB
        rw [Bool.and_eq_true, decide_eq_true_eq, isEmpty_dec, h.k.wr]
        show _ ∧ kinds l true false = [] ↔ _
        rw [h.k.tf]
        unfold busyR
        simp
      obtain ⟨n1, p1⟩ := snoc_nd h.k.nd h.k.pos h1 ho false (freeB l false)
      rw [e]
      simp only [if_neg h1, Bool.false_eq_true, if_false, ne_eq, not_true_eq_false]
      by_cases hb : busyR s
      · have ef' : freeB l false = false := by
          cases q : freeB l false
          · rfl
          · exact absurd hb (ef.1 q)
        rw [ef'] at n1 p1 ⊢
        simp only [if_pos hb, Bool.false_eq_true, if_false, Bool.or_self, Bool.false_or, if_true]
        refine ⟨trivial, trivial, h, ⟨⟨?_, ?_, ?_, ?_, n1, p1⟩, ⟨?_, h.i.tw0, h.i.alone⟩⟩⟩
        · rw [kinds_app, kinds_one, h.k.tt]; simp [isK]
        · rw [kinds_app, kinds_one, h.k.ft]; simp [isK]
        · rw [kinds_app, kinds_one, h.k.tf]; simp [isK]
        · rw [kinds_app, kinds_one, h.k.ff]; simp [isK]
        · intro a b
          rcases hb with q | q
          · exact absurd a q
          · exact absurd b q
      · have ef' : freeB l false = true := ef.2 hb
        rw [ef'] at n1 p1 ⊢
        simp only [if_neg hb, Bool.true_or, if_true]
        have hb' := hb
        unfold busyR at hb'
        have w0 : s.w = 0 := Decidable.byContradiction fun q => hb' (Or.inl q)
        have t0 : s.tw = [] := Decidable.byContradiction fun q => hb' (Or.inr q)
        have R : Rep { s with rs := s.rs ++ [t] } (l ++ [⟨t, false, true⟩]) := by
          refine ⟨⟨?_, ?_, ?_, ?_, n1, p1⟩, ⟨h.i.tr0, fun _ q => ?_, fun q => absurd w0 q⟩⟩
          · rw [kinds_app, kinds_one, h.k.tt]; simp [isK]
          · rw [kinds_app, kinds_one, h.k.ft]; simp [isK]
          · rw [kinds_app, kinds_one, h.k.tf]; simp [isK]
          · rw [kinds_app, kinds_one, h.k.ff]; simp [isK]
          · exact t0
        exact ⟨trivial, trivial, R, R⟩
    · have e : wrongE s t = 11 := by rw [hw, if_neg h1, ho]; rfl
      rw [e]
      simp only [if_neg h1, if_true]
      exact ⟨rfl, rfl, h, h⟩

/-- Who comes to write is answered the same. -/
theorem want_w {s : St} {l : List Wn} (h : Rep s l) (t : Int) :
    wantE l t true false = writeE 12 s t ∧ wantE l t true true = writeE 14 s t ∧ Rep (tryS s t) (wantL l t true false) ∧ Rep (lockS s t) (wantL l t true true) := by
  have hw := wrong_of h.k t
  unfold wantE wantL writeE tryS lockS
  by_cases h1 : t < 1
  · have e : wrongE s t = 1 := by rw [hw, if_pos h1]
    rw [e]
    simp only [if_pos h1]
    exact ⟨rfl, rfl, h, h⟩
  · cases ho : inZ (ts l) t
    · have e : wrongE s t = 0 := by rw [hw, if_neg h1, ho]; rfl
      have ef : freeB l true = true ↔ ¬ busyW s := by
        unfold freeB
        rw [Bool.and_eq_true, decide_eq_true_eq, isEmpty_dec, h.k.wr]
        show _ ∧ kinds l false true = [] ↔ _
        rw [h.k.ft]
        unfold busyW
        simp
      obtain ⟨n1, p1⟩ := snoc_nd h.k.nd h.k.pos h1 ho true (freeB l true)
      rw [e]
      simp only [if_neg h1, Bool.false_eq_true, if_false, ne_eq, not_true_eq_false]
      by_cases hb : busyW s
      · have ef' : freeB l true = false := by
          cases q : freeB l true
          · rfl
          · exact absurd hb (ef.1 q)
        rw [ef'] at n1 p1 ⊢
        simp only [if_pos hb, Bool.false_eq_true, if_false, Bool.or_self, Bool.false_or, if_true]
        refine ⟨trivial, trivial, h, ⟨⟨?_, ?_, ?_, ?_, n1, p1⟩, ⟨fun _ q => ?_, fun a b => ?_, h.i.alone⟩⟩⟩
        · rw [kinds_app, kinds_one, h.k.tt]; simp [isK]
        · rw [kinds_app, kinds_one, h.k.ft]; simp [isK]
        · rw [kinds_app, kinds_one, h.k.tf]; simp [isK]
        · rw [kinds_app, kinds_one, h.k.ff]; simp [isK]
        · simp at q
        · rcases hb with q | q
          · exact absurd a q
          · exact absurd b q
      · have ef' : freeB l true = true := ef.2 hb
        rw [ef'] at n1 p1 ⊢
        simp only [if_neg hb, Bool.true_or, if_true]
        have hb' := hb
        unfold busyW at hb'
        have w0 : s.w = 0 := Decidable.byContradiction fun q => hb' (Or.inl q)
        have r0 : s.rs = [] := Decidable.byContradiction fun q => hb' (Or.inr q)
        have t0 : t ≠ 0 := by omega
        have R : Rep { s with w := t } (l ++ [⟨t, true, true⟩]) := by
          refine ⟨⟨?_, ?_, ?_, ?_, n1, p1⟩, ⟨fun q => absurd q t0, fun q => absurd q t0, fun _ => r0⟩⟩
          · rw [kinds_app, kinds_one, h.k.tt, if_pos w0, if_neg t0]; simp [isK]
          · rw [kinds_app, kinds_one, h.k.ft]; simp [isK]
          · rw [kinds_app, kinds_one, h.k.tf]; simp [isK]
          · rw [kinds_app, kinds_one, h.k.ff]; simp [isK]
        exact ⟨trivial, trivial, R, R⟩
    · have e : wrongE s t = 11 := by rw [hw, if_neg h1, ho]; rfl
      rw [e]
      simp only [if_neg h1, if_true]
      exact ⟨rfl, rfl, h, h⟩

/-- One that waits gets it. -/
theorem mv_kinds {l : List Wn} (hn : (ts l).Nodup) {t : Int} {b : Bool} (h : inZ (kinds l b false) t = true) :
    (ts (mvO l t)).Nodup ∧ (∀ x, x ∈ ts (mvO l t) ↔ x ∈ ts l) ∧ kinds (mvO l t) b true = kinds l b true ++ [t] ∧ kinds (mvO l t) b false = rmZ (kinds l b false) t ∧ kinds (mvO l t) (!b) true = kinds l (!b) true ∧ kinds (mvO l t) (!b) false = kinds l (!b) false ∧ (mvO l t).length = l.length := by
  have hi : inZ (ts l) t = true := inZ_true.2 ((kinds_sub l b false).subset (inZ_true.1 h))
  obtain ⟨h1, h2, _⟩ := idx_here hi
  have hk : isK b false (wn l (idxN l t)) = true := by rw [← kind_at hn h1, h2]; exact h
  have hw : (wn l (idxN l t)).w = b := by
    unfold isK at hk
    simp at hk
    exact hk.1
  have others : ∀ x y, isK x y (wn l (idxN l t)) = false → rmZ (kinds l x y) t = kinds l x y := fun x y q => by
    refine rm_none ?_
    have := kind_at hn h1 x y
    rw [h2, q] at this
    exact this
  have ho := hk
  unfold isK at ho
  have hh : (wn l (idxN l t)).h = false := by simp at ho; exact ho.2
  have e : ∀ x y, kinds (mvO l t) x y = rmZ (kinds l x y) t ++ if isK x y ⟨t, b, true⟩ = true then [t] else [] := fun x y => by
    unfold mvO
    rw [kinds_app, less_kinds hn hi, kinds_one, h2, hw]
  have et : ts (mvO l t) = rmZ (ts l) t ++ [t] := by
    unfold mvO
    rw [ts_app, less_ts hn hi, h2]
    rfl
  refine ⟨?_, fun x => ?_, ?_, ?_, ?_, ?_, ?_⟩
  · rw [et]; exact nodup_snoc (rm_nodup hn t) (in_rm _ _)
  · rw [et, List.mem_append, mem_rm]
    by_cases q : x = t
    · subst q; simp [inZ_true.1 hi]
    · simp [q]
  · rw [e, others b true (by unfold isK; rw [hh]; simp), if_pos (by simp [isK])]
  · rw [e, if_neg (by simp [isK]), List.append_nil]
  · rw [e, others (!b) true (by unfold isK; rw [hh]; simp), if_neg (by simp [isK]), List.append_nil]
  · rw [e, others (!b) false (by unfold isK; rw [hw]; cases b <;> rfl), if_neg (by simp [isK]), List.append_nil]
  · unfold mvO
    rw [List.length_append]
    exact less_len h1

/-- All that wait to read get it, in order. -/
theorem mv_all : ∀ (q : List Int) {l : List Wn}, (ts l).Nodup → kinds l false false = q →
    (ts (q.foldl mvO l)).Nodup ∧ (∀ x, x ∈ ts (q.foldl mvO l) ↔ x ∈ ts l) ∧ kinds (q.foldl mvO l) false true = kinds l false true ++ q ∧ kinds (q.foldl mvO l) false false = [] ∧ kinds (q.foldl mvO l) true true = kinds l true true ∧ kinds (q.foldl mvO l) true false = kinds l true false
  | [], l, hn, hq => ⟨hn, fun _ => Iff.rfl, by simp, hq, rfl, rfl⟩
  | t :: q, l, hn, hq => by
    have hnd : (kinds l false false).Nodup := hn.sublist (kinds_sub _ _ _)
    have hin : inZ (kinds l false false) t = true := by rw [hq]; exact inZ_true.2 List.mem_cons_self
    obtain ⟨m1, m2, m3, m4, m5, m6, _⟩ := mv_kinds hn hin
    have hq2 : kinds (mvO l t) false false = q := by
      rw [m4, hq]
      rw [hq] at hnd
      show (t :: q).filter _ = q
      rw [List.filter_cons_of_neg (by simp)]
      exact rm_none (inZ_false.2 (List.nodup_cons.1 hnd).1)
    obtain ⟨r1, r2, r3, r4, r5, r6⟩ := mv_all q m1 hq2
    show (ts (q.foldl mvO (mvO l t))).Nodup ∧ _
    refine ⟨r1, fun x => (r2 x).trans (m2 x), ?_, r4, r5.trans m5, r6.trans m6⟩
    rw [List.foldl_cons, r3, m3, List.append_assoc]
    rfl
theorem mv_len : ∀ (q : List Int) {l : List Wn}, (∀ t ∈ q, inZ (ts l) t = true) → (ts l).Nodup → (q.foldl mvO l).length = l.length
  | [], _, _, _ => rfl
  | t :: q, l, h, hn => by
    have hi := h t List.mem_cons_self
    obtain ⟨h1, h2, _⟩ := idx_here hi
    have e1 : (mvO l t).length = l.length := by unfold mvO; rw [List.length_append]; exact less_len h1
    have et : ts (mvO l t) = rmZ (ts l) t ++ [t] := by unfold mvO; rw [ts_app, less_ts hn hi, h2]; rfl
    have hn2 : (ts (mvO l t)).Nodup := by rw [et]; exact nodup_snoc (rm_nodup hn t) (in_rm _ _)
    have hm : ∀ x ∈ q, inZ (ts (mvO l t)) x = true := fun x hx => by
      rw [et]
      have := inZ_true.1 (h x (List.mem_cons_of_mem _ hx))
      refine inZ_true.2 (List.mem_append.2 ?_)
      by_cases q2 : x = t
      · exact Or.inr (by simp [q2])
      · exact Or.inl (mem_rm.2 ⟨this, q2⟩)
    rw [List.foldl_cons, mv_len q hm hn2, e1]

/-- Whoever may have it has it, of both. -/
theorem hand_kin {s : St} {l : List Wn} (h : Kin s l) : handO s = handLo l ∧ Kin (handS s) (handLL l) := by
  unfold handLL handLo handO handS
  rw [h.wr, h.tf, h.ff, h.ft]
  by_cases h1 : s.w = 0
  · have n0 : ¬ (s.w ≠ 0) := fun q => q h1
    simp only [if_neg n0]
    by_cases h2 : s.tw = []
    · simp only [if_pos h2]
      obtain ⟨m1, m2, m3, m4, m5, m6⟩ := mv_all s.tr h.nd h.ff
      refine ⟨trivial, ⟨?_, ?_, ?_, m4, m1, fun x hx => h.pos x ((m2 x).1 hx)⟩⟩
      · rw [m5, h.tt]
      · rw [m3, h.ft]
      · rw [m6, h.tf]
    · simp only [if_neg h2]
      by_cases h3 : s.rs = []
      · simp only [if_pos h3]
        cases ht : s.tw with
        | nil => exact absurd ht h2
        | cons y q =>
          have hin : inZ (kinds l true false) y = true := by rw [h.tf, ht]; exact inZ_true.2 List.mem_cons_self
          obtain ⟨m1, m2, m3, m4, m5, m6, _⟩ := mv_kinds h.nd hin
          have hp : 1 ≤ y := h.twpos y (by rw [ht]; exact List.mem_cons_self)
          have hnd := h.rows.2.1
          rw [ht] at hnd
          have hy : y ≠ 0 := by omega
          refine ⟨trivial, ⟨?_, ?_, ?_, ?_, m1, fun x hx => h.pos x ((m2 x).1 hx)⟩⟩
          · show kinds (mvO l y) true true = if y = 0 then [] else [y]
            rw [m3, h.tt, if_pos h1, if_neg hy]
            rfl
          · show kinds (mvO l y) false true = s.rs
            rw [← h.ft]; exact m5
          · show kinds (mvO l y) true false = q
            rw [m4, h.tf, ht]
            show (y :: q).filter _ = q
            rw [List.filter_cons_of_neg (by simp)]
            exact rm_none (inZ_false.2 (List.nodup_cons.1 hnd).1)
          · show kinds (mvO l y) false false = s.tr
            rw [← h.ff]; exact m6
      · simp only [if_neg h3]
        exact ⟨trivial, h⟩
  · simp only [ne_eq, h1, not_false_eq_true, if_true]
    exact ⟨trivial, h⟩
theorem hand_inv {s : St} (ha : s.w ≠ 0 → s.rs = []) (hp : ∀ x ∈ s.tw, 1 ≤ x) : Inv (handS s) := by
  unfold handS
  by_cases h1 : s.w = 0
  · have n0 : ¬ (s.w ≠ 0) := fun q => q h1
    rw [if_neg n0]
    by_cases h2 : s.tw = []
    · rw [if_pos h2]
      exact ⟨fun _ _ => rfl, fun _ _ => h2, fun q => absurd h1 q⟩
    · rw [if_neg h2]
      by_cases h3 : s.rs = []
      · rw [if_pos h3]
        have : 1 ≤ gz s.tw 0 := hp _ (gz_mem (List.length_pos_iff.2 h2))
        have hn : gz s.tw 0 ≠ 0 := by omega
        exact ⟨fun q => absurd q hn, fun q => absurd q hn, fun _ => h3⟩
      · rw [if_neg h3]
        exact ⟨fun _ q => absurd q h2, fun _ q => absurd q h3, ha⟩
  · rw [if_pos h1]
    exact ⟨fun q => absurd q h1, fun q => absurd q h1, ha⟩

theorem less_pos {l : List Wn} (hn : (ts l).Nodup) (hp : ∀ x ∈ ts l, 1 ≤ x) {t : Int} (h : inZ (ts l) t = true) : (ts (lessO l (idxN l t))).Nodup ∧ ∀ x ∈ ts (lessO l (idxN l t)), 1 ≤ x := by
  rw [less_ts hn h]
  exact ⟨rm_nodup hn t, fun x hx => hp x (mem_rm.1 hx).1⟩
/-- One that is of a kind is of no other. -/
theorem one_kind {l : List Wn} (hn : (ts l).Nodup) {t : Int} {x y : Bool} (h : inZ (kinds l x y) t = true) (x2 y2 : Bool) (hne : ¬ (x2 = x ∧ y2 = y)) : inZ (kinds l x2 y2) t = false := by
  have hi : inZ (ts l) t = true := inZ_true.2 ((kinds_sub l x y).subset (inZ_true.1 h))
  obtain ⟨h1, h2, _⟩ := idx_here hi
  have a := kind_at hn h1 x y
  have b := kind_at hn h1 x2 y2
  rw [h2] at a b
  rw [b]
  rw [h] at a
  unfold isK at a ⊢
  cases hb : ((wn l (idxN l t)).w == x2 && (wn l (idxN l t)).h == y2)
  · rfl
  · exfalso
    simp at a hb
    exact hne ⟨hb.1.symm.trans a.1, hb.2.symm.trans a.2⟩
theorem give_kind {l : List Wn} (hn : (ts l).Nodup) (t : Int) (b : Bool) : giveB l t b = inZ (kinds l b true) t := by
  unfold giveB
  cases hi : inZ (ts l) t
  · rw [Bool.false_and]
    symm
    exact inZ_false.2 fun q => inZ_false.1 hi ((kinds_sub l b true).subset q)
  · obtain ⟨h1, h2, _⟩ := idx_here hi
    have a := kind_at hn h1 b true
    rw [h2] at a
    rw [a, Bool.true_and]
    unfold isK
    cases (wn l (idxN l t)).h <;> cases (wn l (idxN l t)).w <;> cases b <;> rfl
theorem out_kind {l : List Wn} (hn : (ts l).Nodup) (t : Int) : outB l t = (inZ (kinds l true false) t || inZ (kinds l false false) t) := by
  unfold outB
  cases hi : inZ (ts l) t
  · rw [Bool.false_and]
    symm
    rw [Bool.or_eq_false_iff]
    exact ⟨inZ_false.2 fun q => inZ_false.1 hi ((kinds_sub l true false).subset q), inZ_false.2 fun q => inZ_false.1 hi ((kinds_sub l false false).subset q)⟩
  · obtain ⟨h1, h2, _⟩ := idx_here hi
    have a := kind_at hn h1 true false
    have a2 := kind_at hn h1 false false
    rw [h2] at a a2
    rw [a, a2, Bool.true_and]
    unfold isK
    cases (wn l (idxN l t)).h <;> cases (wn l (idxN l t)).w <;> rfl

/-- Who reads no more, of both. -/
theorem give_r {s : St} {l : List Wn} (h : Rep s l) (t : Int) : giveE l t false = runE s t ∧ giveO l t false = runO s t ∧ Rep (runS s t) (giveL l t false) := by
  unfold giveE giveO giveL runE runO runS
  by_cases h1 : t < 1
  · have hn : ¬ canR s t := fun q => by have := q.1; omega
    simp only [if_pos h1, if_neg hn]
    exact ⟨trivial, trivial, h⟩
  · rw [give_kind h.k.nd, h.k.ft]
    simp only [if_neg h1]
    by_cases hc : canR s t
    · simp only [if_pos hc]
      have hb := hc.2
      simp only [hb, if_true]
      have hk : inZ (kinds l false true) t = true := by rw [h.k.ft]; exact hb
      have hi : inZ (ts l) t = true := inZ_true.2 ((kinds_sub l false true).subset (inZ_true.1 hk))
      obtain ⟨n1, p1⟩ := less_pos h.k.nd h.k.pos hi
      have K : Kin (lessR s t) (lessO l (idxN l t)) := by
        refine ⟨?_, ?_, ?_, ?_, n1, p1⟩
        · rw [less_kinds h.k.nd hi, rm_none (one_kind h.k.nd hk true true (by simp)), h.k.tt]; rfl
        · rw [less_kinds h.k.nd hi, h.k.ft]; rfl
        · rw [less_kinds h.k.nd hi, rm_none (one_kind h.k.nd hk true false (by simp)), h.k.tf]; rfl
        · rw [less_kinds h.k.nd hi, rm_none (one_kind h.k.nd hk false false (by simp)), h.k.ff]; rfl
      obtain ⟨a1, a2⟩ := hand_kin K
      refine ⟨trivial, a1.symm, a2, hand_inv (fun q => ?_) K.twpos⟩
      show rmZ s.rs t = []
      rw [h.i.alone q]; rfl
    · simp only [if_neg hc]
      have hb : inZ s.rs t = false := by
        cases q : inZ s.rs t
        · rfl
        · exact absurd ⟨by omega, q⟩ hc
      simp only [hb, Bool.false_eq_true, if_false]
      exact ⟨trivial, trivial, h⟩
/-- Who writes no more, of both. -/
theorem give_w {s : St} {l : List Wn} (h : Rep s l) (t : Int) : giveE l t true = unE s t ∧ giveO l t true = unO s t ∧ Rep (unS s t) (giveL l t true) := by
  unfold giveE giveO giveL unE unO unS
  by_cases h1 : t < 1
  · have hn : ¬ canW s t := fun q => by have := q.1; omega
    simp only [if_pos h1, if_neg hn]
    exact ⟨trivial, trivial, h⟩
  · rw [give_kind h.k.nd, h.k.tt]
    simp only [if_neg h1]
    by_cases hb : t = s.w
    · have hc : canW s t := ⟨by omega, hb⟩
      have hw0 : s.w ≠ 0 := by omega
      have hin : inZ [s.w] t = true := by rw [hb]; exact inZ_true.2 List.mem_cons_self
      have hk : inZ (kinds l true true) t = true := by rw [h.k.tt, if_neg hw0]; exact hin
      rw [if_neg hw0, hin]
      simp only [if_pos hc, if_true]
      have hi : inZ (ts l) t = true := inZ_true.2 ((kinds_sub l true true).subset (inZ_true.1 hk))
      obtain ⟨n1, p1⟩ := less_pos h.k.nd h.k.pos hi
      have K : Kin (lessW s) (lessO l (idxN l t)) := by
        refine ⟨?_, ?_, ?_, ?_, n1, p1⟩
        · rw [less_kinds h.k.nd hi, h.k.tt, if_neg hw0, hb]
          show [s.w].filter _ = []
          rw [List.filter_cons_of_neg (by simp)]
          rfl
        · rw [less_kinds h.k.nd hi, rm_none (one_kind h.k.nd hk false true (by simp)), h.k.ft]; rfl
        · rw [less_kinds h.k.nd hi, rm_none (one_kind h.k.nd hk true false (by simp)), h.k.tf]; rfl
        · rw [less_kinds h.k.nd hi, rm_none (one_kind h.k.nd hk false false (by simp)), h.k.ff]; rfl
      obtain ⟨a1, a2⟩ := hand_kin K
      exact ⟨trivial, a1.symm, a2, hand_inv (fun q => absurd rfl q) K.twpos⟩
    · have hn : ¬ canW s t := fun q => hb q.2
      have hin : inZ (if s.w = 0 then [] else [s.w]) t = false := by
        by_cases q : s.w = 0
        · rw [if_pos q]; rfl
        · rw [if_neg q]; exact inZ_false.2 (by simpa using hb)
      rw [hin]
      simp only [if_neg hn, Bool.false_eq_true, if_false]
      exact ⟨trivial, trivial, h⟩
/-- Who waits no more, of both. -/
theorem out_d {s : St} {l : List Wn} (h : Rep s l) (t : Int) : outB l t = dropB s t ∧ outO l t = dropO s t ∧ Rep (dropS s t) (outL l t) := by
  have e : outB l t = dropB s t := by rw [out_kind h.k.nd, h.k.tf, h.k.ff]; rfl
  unfold outO outL dropO dropS
  rw [e]
  refine ⟨rfl, ?_⟩
  cases hb : dropB s t
  · simp only [Bool.false_eq_true, if_false]
    exact ⟨trivial, h⟩
  · simp only [if_true]
    have K : Kin (lessD s t) (lessO l (idxN l t)) := by
      unfold lessD
      cases h2 : inZ s.tw t
      · have h3 : inZ s.tr t = true := by
          unfold dropB at hb
          rw [h2, Bool.false_or] at hb
          exact hb
        have hk : inZ (kinds l false false) t = true := by rw [h.k.ff]; exact h3
        have hi : inZ (ts l) t = true := inZ_true.2 ((kinds_sub l false false).subset (inZ_true.1 hk))
        obtain ⟨n1, p1⟩ := less_pos h.k.nd h.k.pos hi
        simp only [Bool.false_eq_true, if_false]
        refine ⟨?_, ?_, ?_, ?_, n1, p1⟩
        · rw [less_kinds h.k.nd hi, rm_none (one_kind h.k.nd hk true true (by simp)), h.k.tt]
        · rw [less_kinds h.k.nd hi, rm_none (one_kind h.k.nd hk false true (by simp)), h.k.ft]
        · rw [less_kinds h.k.nd hi, rm_none (one_kind h.k.nd hk true false (by simp)), h.k.tf]
        · rw [less_kinds h.k.nd hi, h.k.ff]
      · have hk : inZ (kinds l true false) t = true := by rw [h.k.tf]; exact h2
        have hi : inZ (ts l) t = true := inZ_true.2 ((kinds_sub l true false).subset (inZ_true.1 hk))
        obtain ⟨n1, p1⟩ := less_pos h.k.nd h.k.pos hi
        simp only [if_true]
        refine ⟨?_, ?_, ?_, ?_, n1, p1⟩
        · rw [less_kinds h.k.nd hi, rm_none (one_kind h.k.nd hk true true (by simp)), h.k.tt]
        · rw [less_kinds h.k.nd hi, rm_none (one_kind h.k.nd hk false true (by simp)), h.k.ft]
        · rw [less_kinds h.k.nd hi, h.k.tf]
        · rw [less_kinds h.k.nd hi, rm_none (one_kind h.k.nd hk false false (by simp)), h.k.ff]
    obtain ⟨a1, a2⟩ := hand_kin K
    refine ⟨a1.symm, a2, hand_inv (fun q => ?_) K.twpos⟩
    have q2 : s.w ≠ 0 := by
      unfold lessD at q
      split at q <;> exact q
    show (lessD s t).rs = []
    unfold lessD
    split <;> exact h.i.alone q2

end Go.Proofs.Ytggfndokmdpaeaa
