/-
  Policies as plain data, their cells, and which of them may be: the error of the first thing that is wrong.
-/
import Derived.Test.YtmhjoomkeidcaaaDoorLab
import Derived.Test.YtmhjoomkeidcaaaDoorL2Name
namespace Go.Proofs.YtmhjoomkeidcaaaDoor
open Go.RowKit

structure Dm where
  name : ByteArray
  lev : Int
  cat : Int
  tasks : Int
  objs : Int
  ring : Int
structure Sl where
  dom : Int
  len : Int
structure Lk where
  kind : Int
  src : Int
  dst : Int
  size : Int
structure Pol where
  ds : List Dm
  ss : List Sl
  ls : List Lk

def cD (d : Dm) : List Value := [.string d.name, .int .i64 d.lev, .int .i64 d.cat, .int .i64 d.tasks, .int .i64 d.objs, .int .i64 d.ring]
def cS (s : Sl) : List Value := [.int .i64 s.dom, .int .i64 s.len]
def cL (l : Lk) : List Value := [.int .i64 l.kind, .int .i64 l.src, .int .i64 l.dst, .int .i64 l.size]
def cellsD (ds : List Dm) : List Value := ds.flatMap cD
def cellsS (ss : List Sl) : List Value := ss.flatMap cS
def cellsL (ls : List Lk) : List Value := ls.flatMap cL

theorem flat_length {α : Type} (f : α → List Value) (k : Nat) (hk : ∀ x, (f x).length = k) : ∀ xs : List α, (xs.flatMap f).length = xs.length * k
  | [] => by simp
  | x :: xs => by
    rw [List.flatMap_cons, List.length_append, hk, flat_length f k hk xs, List.length_cons, Nat.add_mul]; omega
theorem flat_at {α : Type} (f : α → List Value) (k : Nat) (hk : ∀ x, (f x).length = k) : ∀ (xs : List α) (i j : Nat) (x : α), xs[i]? = some x → j < k → (xs.flatMap f)[i * k + j]? = (f x)[j]?
  | [], i, _, _, h, _ => by simp at h
  | y :: xs, 0, j, x, h, hj => by
    simp at h
    subst h
    rw [List.flatMap_cons, Nat.zero_mul, Nat.zero_add, List.getElem?_append_left (by rw [hk]; exact hj)]
  | y :: xs, i + 1, j, x, h, hj => by
    simp at h
    rw [List.flatMap_cons, List.getElem?_append_right (by rw [hk, Nat.add_mul]; omega), hk, show (i + 1) * k + j - k = i * k + j by rw [Nat.add_mul]; omega]
    exact flat_at f k hk xs i j x h hj

/-- A row of cells as it lies in memory. -/
def Lies (w : World) (ad : Option Addr) (xs : List Value) : Prop :=
  xs = [] ∨ ∃ b off, ad = some ⟨b, off, none⟩ ∧ b < w.heap.size ∧ ∀ j u, xs[j]? = some u → w.cell? ⟨b, off + j, none⟩ = some u

theorem Lies.below {w w' : World} {ad : Option Addr} {xs : List Value} (h : Lies w ad xs) (k : Below w.heap.size w w') : Lies w' ad xs := by
  rcases h with h | ⟨b, off, h1, h2, h3⟩
  · exact Or.inl h
  · refine Or.inr ⟨b, off, h1, Nat.lt_of_lt_of_le h2 k.size, fun j u hj => ?_⟩
    rw [k.cell (p := ⟨b, off + j, none⟩) h2]
    exact h3 j u hj
theorem Lies.nil (w : World) (ad : Option Addr) : Lies w ad [] := Or.inl rfl
/-- The first cells of a row. -/
theorem Lies.take {w : World} {ad : Option Addr} {xs : List Value} (h : Lies w ad xs) (n : Nat) : Lies w ad (xs.take n) := by
  rcases h with h | ⟨b, off, h1, h2, h3⟩
  · subst h; exact Or.inl (by simp)
  · exact Or.inr ⟨b, off, h1, h2, fun j u hj => h3 j u (by
      rw [List.getElem?_take] at hj
      split at hj
      · exact hj
      · cases hj)⟩

theorem flat_take {α : Type} (f : α → List Value) (k : Nat) (hk : ∀ x, (f x).length = k) : ∀ (xs : List α) (n : Nat), (xs.take n).flatMap f = (xs.flatMap f).take (n * k)
  | [], n => by simp
  | x :: xs, 0 => by simp
  | x :: xs, n + 1 => by
    rw [List.take_succ_cons, List.flatMap_cons, List.flatMap_cons, flat_take f k hk xs n, List.take_append, hk, Nat.add_mul, Nat.one_mul, Nat.add_sub_cancel, List.take_of_length_le (l := f x) (by rw [hk]; omega)]

theorem Lies.dom {w : World} {ad : Option Addr} {ds : List Dm} (h : Lies w ad (cellsD ds)) {i : Nat} {d : Dm} (hd : ds[i]? = some d) :
    ∃ b off, ad = some ⟨b, off, none⟩ ∧ b < w.heap.size ∧ w.cell? ⟨b, off + i * 6, none⟩ = some (.string d.name) ∧ w.cell? ⟨b, off + i * 6 + 1, none⟩ = some (.int .i64 d.lev) ∧ w.cell? ⟨b, off + i * 6 + 2, none⟩ = some (.int .i64 d.cat)
      ∧ w.cell? ⟨b, off + i * 6 + 3, none⟩ = some (.int .i64 d.tasks) ∧ w.cell? ⟨b, off + i * 6 + 4, none⟩ = some (.int .i64 d.objs) ∧ w.cell? ⟨b, off + i * 6 + 5, none⟩ = some (.int .i64 d.ring) := by
  have at' := fun j hj => flat_at cD 6 (fun _ => rfl) ds i j d hd hj
  rcases h with h | ⟨b, off, h1, h2, h3⟩
  · have := at' 0 (by omega)
    rw [show ds.flatMap cD = [] from h] at this
    simp [cD] at this
  · refine ⟨b, off, h1, h2, h3 _ _ (at' 0 (by omega)), ?_, ?_, ?_, ?_, ?_⟩
    all_goals rw [Nat.add_assoc]
    · exact h3 _ _ (at' 1 (by omega))
    · exact h3 _ _ (at' 2 (by omega))
    · exact h3 _ _ (at' 3 (by omega))
    · exact h3 _ _ (at' 4 (by omega))
    · exact h3 _ _ (at' 5 (by omega))
theorem Lies.slot {w : World} {ad : Option Addr} {ss : List Sl} (h : Lies w ad (cellsS ss)) {i : Nat} {s : Sl} (hs : ss[i]? = some s) :
    ∃ b off, ad = some ⟨b, off, none⟩ ∧ b < w.heap.size ∧ w.cell? ⟨b, off + i * 2, none⟩ = some (.int .i64 s.dom) ∧ w.cell? ⟨b, off + i * 2 + 1, none⟩ = some (.int .i64 s.len) := by
  have at' := fun j hj => flat_at cS 2 (fun _ => rfl) ss i j s hs hj
  rcases h with h | ⟨b, off, h1, h2, h3⟩
  · have := at' 0 (by omega)
    rw [show ss.flatMap cS = [] from h] at this
    simp [cS] at this
  · refine ⟨b, off, h1, h2, h3 _ _ (at' 0 (by omega)), ?_⟩
    rw [Nat.add_assoc]
    exact h3 _ _ (at' 1 (by omega))
theorem Lies.link {w : World} {ad : Option Addr} {ls : List Lk} (h : Lies w ad (cellsL ls)) {i : Nat} {l : Lk} (hs : ls[i]? = some l) :
    ∃ b off, ad = some ⟨b, off, none⟩ ∧ b < w.heap.size ∧ w.cell? ⟨b, off + i * 4, none⟩ = some (.int .i64 l.kind) ∧ w.cell? ⟨b, off + i * 4 + 1, none⟩ = some (.int .i64 l.src) ∧ w.cell? ⟨b, off + i * 4 + 2, none⟩ = some (.int .i64 l.dst) ∧ w.cell? ⟨b, off + i * 4 + 3, none⟩ = some (.int .i64 l.size) := by
  have at' := fun j hj => flat_at cL 4 (fun _ => rfl) ls i j l hs hj
  rcases h with h | ⟨b, off, h1, h2, h3⟩
  · have := at' 0 (by omega)
    rw [show ls.flatMap cL = [] from h] at this
    simp [cL] at this
  · refine ⟨b, off, h1, h2, h3 _ _ (at' 0 (by omega)), ?_, ?_, ?_⟩
    all_goals rw [Nat.add_assoc]
    · exact h3 _ _ (at' 1 (by omega))
    · exact h3 _ _ (at' 2 (by omega))
    · exact h3 _ _ (at' 3 (by omega))

/-- The place of the first domain with a name, from a place on; below 0: none has it. -/
def placeFrom (nm : ByteArray) : List Dm → Nat → Int
  | [], _ => -1
  | d :: ds, i => if d.name = nm then i else placeFrom nm ds (i + 1)
def placeOf (ds : List Dm) (nm : ByteArray) : Int := placeFrom nm ds 0

theorem drop_at {α : Type} {xs : List α} {i : Nat} {x : α} (h : xs[i]? = some x) : xs.drop i = x :: xs.drop (i + 1) := by
  obtain ⟨hi, rfl⟩ := List.getElem?_eq_some_iff.1 h
  exact List.drop_eq_getElem_cons hi

/-- The first of the numbers f i, f (i + 1), .. (n of them) that is not 0; or 0. -/
def scan (f : Nat → Nat) : Nat → Nat → Nat
  | 0, _ => 0
  | n + 1, i => if f i ≠ 0 then f i else scan f n (i + 1)
theorem scan_hit {f : Nat → Nat} {n i : Nat} (hn : 0 < n) (h : f i ≠ 0) : scan f n i = f i := by
  obtain ⟨m, rfl⟩ : ∃ m, n = m + 1 := ⟨n - 1, by omega⟩
  exact if_pos h
theorem scan_miss {f : Nat → Nat} {n i : Nat} (hn : 0 < n) (h : f i = 0) : scan f n i = scan f (n - 1) (i + 1) := by
  obtain ⟨m, rfl⟩ : ∃ m, n = m + 1 := ⟨n - 1, by omega⟩
  exact if_neg (fun hh => hh h)
theorem scan_zero {f : Nat → Nat} : ∀ {n i : Nat}, scan f n i = 0 → ∀ j, i ≤ j → j < i + n → f j = 0
  | 0, i, _, j, h1, h2 => by omega
  | n + 1, i, h, j, h1, h2 => by
    by_cases h0 : f i = 0
    · rw [scan, if_neg (fun hh => hh h0)] at h
      by_cases e : j = i
      · subst e; exact h0
      · exact scan_zero h j (by omega) (by omega)
    · rw [scan, if_pos h0] at h; exact (h0 h).elim
theorem scan_all {f : Nat → Nat} : ∀ {n i : Nat}, (∀ j, i ≤ j → j < i + n → f j = 0) → scan f n i = 0
  | 0, _, _ => rfl
  | n + 1, i, h => by
    rw [scan, if_neg (fun hh => hh (h i (Nat.le_refl _) (by omega)))]
    exact scan_all fun j h1 h2 => h j (by omega) (by omega)

def dm (ds : List Dm) (i : Nat) : Dm := ds.getD i ⟨⟨#[]⟩, 0, 0, 0, 0, 0⟩
def sl (ss : List Sl) (i : Nat) : Sl := ss.getD i ⟨0, 0⟩
def lk (ls : List Lk) (i : Nat) : Lk := ls.getD i ⟨0, 0, 0, 0⟩
theorem dm_at {ds : List Dm} {i : Nat} (h : i < ds.length) : ds[i]? = some (dm ds i) := by simp [dm, h]
theorem sl_at {ss : List Sl} {i : Nat} (h : i < ss.length) : ss[i]? = some (sl ss i) := by simp [sl, h]
theorem lk_at {ls : List Lk} {i : Nat} (h : i < ls.length) : ls[i]? = some (lk ls i) := by simp [lk, h]

def quotaB (d : Dm) : Bool := decide (1 ≤ d.tasks ∧ d.tasks ≤ 8 ∧ 0 ≤ d.objs ∧ d.objs ≤ 8 ∧ 1 ≤ d.ring ∧ d.ring ≤ 16)
/-- Is the name of the domain at a place none, or an earlier one's? -/
def nameBad (ds : List Dm) (i : Nat) : Bool := !L2.nameB (dm ds i).name || decide (0 ≤ placeOf (ds.take i) (dm ds i).name)
def domE (ds : List Dm) (i : Nat) : Nat :=
  if nameBad ds i then 4 else if L2.goodB (dm ds i).lev (dm ds i).cat then (if quotaB (dm ds i) then 0 else 1) else 3
def slotB (nd : Nat) (s : Sl) : Bool := decide (0 ≤ s.dom ∧ s.dom < nd ∧ 1 ≤ s.len ∧ s.len ≤ 16)
def slotE (nd : Nat) (ss : List Sl) (i : Nat) : Nat := if slotB nd (sl ss i) then 0 else 1
def hasE (ss : List Sl) (n : Nat) : Nat := if ss.any (fun s => s.dom == (n : Int)) then 0 else 5
def endsB (nd : Nat) (l : Lk) : Bool := decide (0 ≤ l.src ∧ l.src < nd ∧ 0 ≤ l.dst ∧ l.dst < nd ∧ l.src ≠ l.dst)
def sizeB (l : Lk) : Bool := decide ((l.kind = 1 ∧ 1 ≤ l.size ∧ l.size ≤ 4) ∨ (l.kind = 2 ∧ 1 ≤ l.size ∧ l.size ≤ 8))
def upB (ds : List Dm) (l : Lk) : Bool := leqB (dm ds l.src.toNat).lev (dm ds l.src.toNat).cat (dm ds l.dst.toNat).lev (dm ds l.dst.toNat).cat
def linkE (ds : List Dm) (ls : List Lk) (i : Nat) : Nat :=
  if endsB ds.length (lk ls i) && sizeB (lk ls i) then (if upB ds (lk ls i) then 0 else 10) else 1
def countsB (p : Pol) : Bool := decide (1 ≤ p.ds.length ∧ p.ds.length ≤ 8 ∧ 1 ≤ p.ss.length ∧ p.ss.length ≤ 16 ∧ p.ls.length ≤ 8)
def domsE (ds : List Dm) : Nat := scan (domE ds) ds.length 0
def slotsE (nd : Nat) (ss : List Sl) : Nat := if scan (slotE nd ss) ss.length 0 ≠ 0 then 1 else scan (hasE ss) nd 0
def linksE (ds : List Dm) (ls : List Lk) : Nat := scan (linkE ds ls) ls.length 0
/-- The error of the first thing that is wrong of a policy. -/
def checkOf (p : Pol) : Nat :=
  if countsB p then (if domsE p.ds ≠ 0 then domsE p.ds else if slotsE p.ds.length p.ss ≠ 0 then slotsE p.ds.length p.ss else linksE p.ds p.ls) else 1

end Go.Proofs.YtmhjoomkeidcaaaDoor
