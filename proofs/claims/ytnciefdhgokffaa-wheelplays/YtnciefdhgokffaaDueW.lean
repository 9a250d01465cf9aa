/-
  What wheel's Due comes to: the walk.
-/
import Derived.Test.YtnciefdhgokffaaDue
namespace Go.Proofs.Ytnciefdhgokffaa
open Go.RowKit

theorem perm_ids {σ : Ws} {N n : Nat} {l : List Nat} (h : l.Perm (dueTo σ N n)) : ∀ a ∈ l, a < n ∧ isDue σ N a := fun _ ha => dueTo_mem.1 (h.mem_iff.1 ha)
theorem key_one {K : Nat} (hK : K ≤ 1000000) {σ : Ws} (hO : Ok K σ) {a b : Nat} (ha : 0 < (σ.f a).set) (h : key σ a = key σ b) : a = b := by
  have h1 := hO.set a
  have h2 := hO.set b
  have h3 := hO.small
  unfold key at h
  exact hO.one a b ha (by omega)
/-- Numbers that are in order in a row make up what is due. -/
theorem due_of_row {K : Nat} (hK : K ≤ 1000000) {σ : Ws} (hO : Ok K σ) {now : Int} {y : Nat → Nat}
    (hs : Sw 0 (dueTo σ (holdN now) σ.n).length (fun k => (dueTo σ (holdN now) σ.n).getD k 0) y) (hd : ∀ p q, p < q → q < (dueTo σ (holdN now) σ.n).length → key σ (y p) < key σ (y q)) :
    DueIs σ now ((List.range (dueTo σ (holdN now) σ.n).length).map y) := by
  have _ := hK
  have _ := hO
  refine ⟨(hs.perm (Nat.le_refl _)).trans ?_, ?_⟩
  · rw [show (List.range (dueTo σ (holdN now) σ.n).length).map (fun k => (dueTo σ (holdN now) σ.n).getD k 0) = dueTo σ (holdN now) σ.n from ?_]
    refine List.ext_getElem? fun k => ?_
    by_cases hk : k < (dueTo σ (holdN now) σ.n).length
    · simp [hk]
    · simp [hk]
  · rw [List.pairwise_iff_getElem]
    intro i j hi hj hij
    simp only [List.length_map, List.length_range] at hi hj
    simp only [List.getElem_map, List.getElem_range]
    exact hd i j hij hj
theorem row_one {K : Nat} (hK : K ≤ 1000000) {σ : Ws} (hO : Ok K σ) {N n : Nat} : ∀ p q, p < (dueTo σ N n).length → q < (dueTo σ N n).length → key σ ((dueTo σ N n).getD p 0) = key σ ((dueTo σ N n).getD q 0) → p = q := by
  intro p q hp hq h
  rw [List.getD_eq_getElem?_getD, List.getD_eq_getElem?_getD, List.getElem?_eq_getElem hp, List.getElem?_eq_getElem hq] at h
  simp only [Option.getD_some] at h
  have hm := dueTo_mem.1 (List.getElem_mem hp)
  have e := key_one hK hO hm.2.1 h
  rcases Nat.lt_trichotomy p q with h1 | h1 | h1
  · exact absurd e ((List.pairwise_iff_getElem.1 (dueTo_nodup σ N n)) p q hp hq h1)
  · exact h1
  · exact absurd e.symm ((List.pairwise_iff_getElem.1 (dueTo_nodup σ N n)) q p hq hp h1)

theorem dueIs_len {σ : Ws} {now : Int} {l : List Nat} (h : DueIs σ now l) : l.length = (dueTo σ (holdN now) σ.n).length := h.1.length_eq

/-- What is due, in a row, and sorted. -/
theorem sort_due {K : Nat} (hK : K ≤ 1000000) {B : Nat} {σ : Ws} {now : Int} (hO : Ok K σ) {w W : World} {v : Value} (hA : AtW w B σ) (hw : W.ownsRow w.heap.size 3 1 v (dueTo σ (holdN now) σ.n).length (cI (dueTo σ (holdN now) σ.n))) (hnx : Below w.heap.size w W) :
    ∃ a c, v = .slice a (dueTo σ (holdN now) σ.n).length c ∧ Calls Try.prog 23 #[.slice a (dueTo σ (holdN now) σ.n).length c, .func (.func 24) #[.pointer (some ⟨B, 0, none⟩)] #[]] W fun e w' =>
      e = .returned (.tuple #[]) ∧ ∃ l, l.length = (dueTo σ (holdN now) σ.n).length ∧ DueIs σ now l ∧ w'.ownsRow w.heap.size 3 1 (.slice a (dueTo σ (holdN now) σ.n).length c) (dueTo σ (holdN now) σ.n).length (cI l) ∧ AtW w' B σ ∧ Below w.heap.size w w' := by
  have hA' := hA.below hnx
  by_cases h0 : (dueTo σ (holdN now) σ.n).length = 0
  · have hnil : dueTo σ (holdN now) σ.n = [] := List.length_eq_zero_iff.1 h0
    rw [hnil] at hw ⊢
    obtain ⟨a, c, rfl⟩ := owns_slice hw
    exact ⟨a, c, rfl, (sort_none a c _ W).mono fun _ _ k => ⟨k.1, [], rfl, ⟨by rw [hnil], List.Pairwise.nil⟩, by rw [k.2]; exact hw, by rw [k.2]; exact hA', by rw [k.2]; exact hnx⟩⟩
  · obtain ⟨g, c, rfl, hb⟩ := owns_block hw (by omega)
    have hr := HasR.of_owns hw
    have hm16 : (dueTo σ (holdN now) σ.n).length ≤ 16 := Nat.le_trans (dueTo_len _ _ _) hO.n16
    have hids : ∀ k, k < (dueTo σ (holdN now) σ.n).length → (dueTo σ (holdN now) σ.n).getD k 0 < 16 := fun k hk => by
      rw [List.getD_eq_getElem?_getD, List.getElem?_eq_getElem hk]
      have := (dueTo_mem.1 (List.getElem_mem hk)).1
      have := hO.n16
      simp only [Option.getD_some]; omega
    refine ⟨_, c, rfl, (sort_any K hK W g c _ B σ hO hm16 hr.lt hA'.lt _ (row_one hK hO) W ⟨hr, hA', Turn.refl _ _, hids⟩).mono ?_⟩
    rintro e w' ⟨rfl, y, hy1, hy2, hy3⟩
    have hd := due_of_row (now := now) hK hO hy1 hy2
    exact ⟨rfl, _, by simp, hd, hy3.row.owns hb, hy3.tim, turn_next hnx hy3.turn hb⟩

def DueAt (B : Nat) (σ : Ws) (w : World) (v : Value) (l : List Nat) (k : Nat) (W : World) : Prop :=
  AtW W B (stopAll σ (l.take k)) ∧ W.ownsRow w.heap.size 3 1 v l.length (cI l) ∧ Turn B w W
theorem DueAt.step {B : Nat} {σ : Ws} {w : World} {v : Value} {l : List Nat} {k : Nat} {W W' : World} (h : DueAt B σ w v l k W) (hk : k < l.length) (hN : Now B (stopOf (stopAll σ (l.take k)) ((l.getD k 0 : Nat) : Int)) W W') : DueAt B σ w v l (k + 1) W' := by
  refine ⟨?_, owns_turn h.1 h.2.1 hN.2, h.2.2.trans hN.2⟩
  rw [List.take_add_one, List.getElem?_eq_getElem hk, Option.toList_some, stopAll_snoc]
  have : l.getD k 0 = l[k] := by rw [List.getD_eq_getElem?_getD, List.getElem?_eq_getElem hk]; rfl
  rw [← this]
  exact hN.1
theorem DueAt.cell {B : Nat} {σ : Ws} {w : World} {g c : Nat} {l : List Nat} {k : Nat} {W : World} (h : DueAt B σ w (.slice (some ⟨g, 0, none⟩) l.length c) l k W) {j : Nat} (hj : j < l.length) : W.cell? ⟨g, j, none⟩ = some (.int .i64 ((l.getD j 0 : Nat) : Int)) := (HasR.of_owns h.2.1).cell hj

/-- What Due answers. -/
def DueSays (B : Nat) (σ : Ws) (now : Int) (w : World) (e : Ending) (w' : World) : Prop :=
  ∃ (l : List Nat) (v : Value), e = .returned v ∧ DueIs σ now l ∧ w'.ownsRow w.heap.size 3 1 v l.length (cI l) ∧ Now B (dueOf σ now) w w'

set_option maxHeartbeats 4000000 in
theorem due_any (K : Nat) (hK : K ≤ 1000000) (B : Nat) (σ : Ws) (now : Int) (w : World) (hO : Ok K σ) (hA : AtW w B σ) :
    Calls Try.prog 11 #[.pointer (some ⟨B, 0, none⟩), .int .i64 now] w fun e w' => DueSays B σ now w e w' := by
  obtain ⟨i0, hi, hz0, hz1, hz2⟩ := info_parts info3
  have hb := fun W => bounded_any now W
  rw [← holdN_int] at hb
  have hn := hO.n16
  obtain ⟨c0, c1⟩ := hA.tops
  have hmf : ∀ (fn : Fn) (first cap : Array Value) (w : World), (Instr.makeFunc fn first cap).run Try.prog w = .ok (.func fn first cap) w := fun _ _ _ _ => rfl
  have HAT := hide (fun k W h => at_any B σ k hn W h)
  have HA := hide hA
  have HOK := hide hO
  have hBl := hA.lt
  generalize hN : holdN now = N at *
  have HN := hide hN
  clear hA hN hO c1
  go_enter Try.func11, Try.ntmps11
  go_wp2_with (go_at_call 22; refine (hb _).mono ?_; rintro e w2 ⟨rfl, hw2⟩; subst hw2)
  go_loopw [5, 19] (fun v i wr => ∃ k : Nat, k ≤ σ.n ∧ i = .int .i64 k ∧ wr.ownsRow w2.heap.size 3 1 v (dueTo σ N k).length (cI (dueTo σ N k)) ∧ Below w2.heap.size w2 wr) (fun _ i _ => σ.n - (intOf i).toNat)
  case atStart => exact ⟨0, Nat.zero_le _, rfl, World.ownsRow_nil _ _ _ _, Below.refl _ _⟩
  case round =>
    obtain ⟨k, hk, rfl, hw, hnx⟩ := hrel
    have hz := hnx.size
    clear c0
    by_cases hlt : k < σ.n
    · have T := HAT.out (k : Int) wr (HA.out.below hnx)
      by_cases hs : 0 < (σ.f k).set
      · have hst : setT σ (k : Int) := ⟨⟨by omega, by omega⟩, by simpa using hs⟩
        have e1 : atX σ (k : Int) = ((σ.f k).due : Int) := by unfold atX; rw [if_pos hst]; simp
        have e2 : stopB σ (k : Int) = true := decide_eq_true hst
        rw [e1, e2] at T
        by_cases hd : (σ.f k).due ≤ N
        · have e : dueTo σ N (k + 1) = dueTo σ N k ++ [k] := dueTo_yes ⟨hs, hd⟩
          have HE := hide e
          have hlen := dueTo_len σ N k
          have hdd : decide ((σ.f k).due ≤ N) = true := decide_eq_true hd
          clear e e1 e2 hst hs hd
          generalize (σ.f k).due = D at *
          go_wp2_with (first
            | (go_at_call 17; refine T.mono ?_; rintro e w3 ⟨rfl, hw3⟩; subst hw3)
            | (at_builtin; refine wpList_append_own _ rfl _ _ 30 rfl w2.heap.size 3 i0 (.int .i64 0) 1 8 Try.underlying30 hi hz0 hz1 hz2 rfl (by decide) _ _ _ rfl (hw.alloc _) ⟨w3.heap.size, 0, none⟩ 1 1 [.int .i64 (k : Int)] rfl rfl ?c1 ?c2 ?c3 ?c4 ?c5 ?_)
            | fail)
          case c1 =>
            intro j u hj
            match j, hj with
            | 0, hj => simp at hj; subst hj; simp [Addr.add, go_sem]
          case c2 => intro u hu; simp at hu; subst hu; rfl
          case c3 => unfold maxLen; omega
          case c4 => omega
          case c5 => simp; omega
          intro v' w4 hown' hgrow _
          have hnx3 := below_owns hnx (by omega) hw (Nat.le_refl _) hgrow
          have HO2 : Hid (w4.ownsRow w2.heap.size 3 1 v' (dueTo σ N (k + 1)).length (cI (dueTo σ N (k + 1)))) := by
            rw [HE.out, cI_snoc, List.length_append]; exact hown'
          clear hown' hgrow hw T
          go_wp2
          go_roundw
          case rel => exact ⟨k + 1, by omega, by go_num, HO2.out, hnx3⟩
          case measure => simp [intOf]; omega
        · have HW : Hid (wr.ownsRow w2.heap.size 3 1 u5 (dueTo σ N (k + 1)).length (cI (dueTo σ N (k + 1)))) := by rw [dueTo_no (fun h => hd h.2)]; exact hw
          have hdd : decide ((σ.f k).due ≤ N) = false := decide_eq_false hd
          clear e1 e2 hst hs hd hw
          generalize (σ.f k).due = D at *
          go_wp2_with (go_at_call 17; refine T.mono ?_; rintro e w3 ⟨rfl, hw3⟩; subst hw3)
          go_roundw
          case rel => exact ⟨k + 1, by omega, by go_num, HW.out, hnx⟩
          case measure => simp [intOf]; omega
      · have hst : ¬ setT σ (k : Int) := fun h => hs (by simpa using h.2)
        have e1 : atX σ (k : Int) = 0 := by unfold atX; rw [if_neg hst]
        have e2 : stopB σ (k : Int) = false := decide_eq_false hst
        rw [e1, e2] at T
        have HW : Hid (wr.ownsRow w2.heap.size 3 1 u5 (dueTo σ N (k + 1)).length (cI (dueTo σ N (k + 1)))) := by rw [dueTo_no (fun h => hs h.1)]; exact hw
        clear e1 e2 hst hs hw
        go_wp2_with (go_at_call 17; refine T.mono ?_; rintro e w3 ⟨rfl, hw3⟩; subst hw3)
        go_roundw
        case rel => exact ⟨k + 1, by omega, by go_num, HW.out, hnx⟩
        case measure => simp [intOf]; omega
    · have hkn : k = σ.n := by omega
      have hw' : wr.ownsRow w2.heap.size 3 1 u5 (dueTo σ (holdN now) σ.n).length (cI (dueTo σ (holdN now) σ.n)) := by rw [HN.out, ← hkn]; exact hw
      have hd1 : decide (k < σ.n) = false := decide_eq_false hlt
      have hd2 : decide ((k : Int) < (σ.n : Int)) = false := by simp; omega
      obtain ⟨a, c, rfl, hS⟩ := sort_due hK HOK.out HA.out hw' hnx
      generalize hm : (dueTo σ (holdN now) σ.n).length = m at hS
      have HS := hide hS
      have hm16 : m ≤ 16 := by rw [← hm]; exact Nat.le_trans (dueTo_len _ _ _) hn
      clear hw hw' hS hkn hm hlt HAT hb hi hz0 hz1 hz2
      go_wp2_with (go_at_call 23; refine HS.out.mono ?_; rintro e w3 ⟨rfl, l, hl, hdu, hro, hat, hbl⟩)
      subst hl
      have HD0 : Hid (DueAt B σ w2 (.slice a l.length c) l 0 w3) := hide ⟨by simpa [stopAll] using hat, hro, .of_below hbl⟩
      have HDU := hide hdu
      clear hro hat hbl hdu HS
      go_loopw [45] (fun i wq => ∃ j : Nat, j ≤ l.length ∧ i = .int .i64 (j : Int) ∧ Hid (DueAt B σ w2 (.slice a l.length c) l j wq)) (fun i _ => l.length - (intOf i).toNat)
      case atStart => exact ⟨0, Nat.zero_le _, rfl, HD0⟩
      case round =>
        clear HD0
        obtain ⟨j, hj, rfl, hda⟩ := hrel
        by_cases hlt : j < l.length
        · obtain ⟨g, c', hv, _⟩ := owns_block hda.out.2.1 (by omega)
          simp only [Value.slice.injEq, true_and] at hv
          obtain ⟨rfl, rfl⟩ := hv
          have q1 := hda.out.cell hlt
          have b1 : (j : Int) < (l.length : Int) := by omega
          have b0 : (0 : Int) ≤ (j : Int) := by omega
          have HST := hide (stop_any B (stopAll σ (l.take j)) ((l.getD j 0 : Nat) : Int) (by rw [(stopAll_n _ _).1]; exact hn) wr hda.out.1)
          have HSTEP := hide (fun W' h => hda.out.step hlt (W' := W') h)
          generalize ((l.getD j 0 : Nat) : Int) = X at *
          go_wp2_with (go_at_call 13; refine HST.out.mono ?_; rintro e w4 ⟨rfl, hN4⟩)
          have H4 := hide (HSTEP.out _ hN4)
          clear hN4 HST HSTEP q1 hda
          go_wp2
          go_roundw
          case rel => exact ⟨j + 1, by omega, by go_num, H4⟩
          case measure => simp [intOf]; omega
        · have hjl : j = l.length := by omega
          have HJ : Hid (Now B (dueOf σ now) w2 wr) := hide (by
            have h := hda.out
            rw [hjl] at h
            have h1 := h.1
            rw [List.take_length, dueOf_is HDU.out] at h1
            exact ⟨h1, h.2.2⟩)
          clear hjl
          go_wp2
          go_ret
          exact ⟨l, _, rfl, HDU.out, hda.out.2.1, HJ.out⟩

set_option maxHeartbeats 1000000 in
theorem due_nil (now : Int) (w : World) : Calls Try.prog 11 #[.pointer none, .int .i64 now] w fun e w' => e = .returned (.slice none 0 0) ∧ w' = w := by
  go_enter Try.func11, Try.ntmps11
  go_wp2
  go_ret
  exact ⟨rfl, rfl⟩

end Go.Proofs.Ytnciefdhgokffaa
