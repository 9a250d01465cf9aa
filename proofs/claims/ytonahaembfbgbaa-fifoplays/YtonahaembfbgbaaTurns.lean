/-
  What fifo's Remove and Push come to.
-/
import Derived.Test.YtonahaembfbgbaaSmall
namespace Go.Proofs.Ytonahaembfbgbaa
open Go.RowKit

/-- What there is of queues behind a call that may turn them. -/
def Now (B P : Nat) (s : Qs) (w w' : World) : Prop := AtQ w' B P s ∧ Turn B P w w'

/-- The places behind a removal. -/
def rmF (f : Nat → Plc) (a b y : Nat) : Nat → Plc :=
  upd (upd (upd f a { f a with b := b }) b { upd f a { f a with b := b } b with a := a }) y { upd (upd f a { f a with b := b }) b { upd f a { f a with b := b } b with a := a } y with q := -1 }
theorem rmF_is (f : Nat → Plc) (a b y : Nat) (ha : a ≠ y) (hb : b ≠ y) :
    (∀ z, z ≠ y → (rmF f a b y z).q = (f z).q) ∧ (∀ z, z ≠ a → (rmF f a b y z).b = (f z).b) ∧ (∀ z, z ≠ b → (rmF f a b y z).a = (f z).a) ∧ (rmF f a b y y).q = -1 ∧ (rmF f a b y a).b = b ∧ (rmF f a b y b).a = a := by
  refine ⟨fun z hz => ?_, fun z hz => ?_, fun z hz => ?_, ?_, ?_, ?_⟩
  · rw [rmF, upd_other _ _ hz]
    by_cases e : z = b
    · subst e; rw [upd_same]
      by_cases e' : z = a
      · subst e'; rw [upd_same]
      · rw [upd_other _ _ e']
    · rw [upd_other _ _ e]
      by_cases e' : z = a
      · subst e'; rw [upd_same]
      · rw [upd_other _ _ e']
  · rw [rmF]
    by_cases e0 : z = y
    · subst e0; rw [upd_same, upd_other _ _ (Ne.symm hb), upd_other _ _ (Ne.symm ha)]
    · rw [upd_other _ _ e0]
      by_cases e : z = b
      · subst e; rw [upd_same, upd_other _ _ hz]
      · rw [upd_other _ _ e, upd_other _ _ hz]
  · rw [rmF]
    by_cases e0 : z = y
    · subst e0; rw [upd_same, upd_other _ _ (Ne.symm hb), upd_other _ _ (Ne.symm ha)]
    · rw [upd_other _ _ e0, upd_other _ _ hz]
      by_cases e' : z = a
      · subst e'; rw [upd_same]
      · rw [upd_other _ _ e']
  · rw [rmF, upd_same]
  · rw [rmF, upd_other _ _ ha]
    by_cases e : a = b
    · subst e; rw [upd_same, upd_same]
    · rw [upd_other _ _ e, upd_same]
  · rw [rmF, upd_other _ _ hb, upd_same]

set_option maxHeartbeats 1000000 in
theorem remove_any (B P : Nat) (s : Qs) (x : Int) (w : World) (hs : Ok s) (hA : AtQ w B P s) :
    Calls Try.prog 12 #[.pointer (some ⟨B, 0, none⟩), .int .i64 x] w fun e w' => e = .returned (.bool (rmB s x)) ∧ Now B P (rmOf s x) w w' := by
  have hW := where_any B P s x w hA
  by_cases h0 : whereOf s x = -1
  · have e : rmB s x = false ∧ rmOf s x = s := ⟨if_pos h0, if_pos h0⟩
    rw [e.1, e.2]
    rw [h0] at hW
    have HA : Hid (AtQ w B P s) := hA
    clear hA e h0
    go_enter Try.func12, Try.ntmps12
    go_wp2_with (go_at_call 19; refine hW.mono ?_; rintro e w2 ⟨rfl, rfl⟩)
    go_ret
    exact ⟨rfl, HA.out, Turn.refl _ _ _⟩
  · obtain ⟨k, y, rfl, hy, hk, hw, hwh⟩ := whereOf_at hs h0
    have e : rmB s (y : Int) = true ∧ rmOf s (y : Int) = rmAt s k y := ⟨if_neg h0, by unfold rmOf; rw [if_neg h0, hwh]; simp⟩
    rw [e.1, e.2]
    rw [hwh] at hW
    have hk1 : ((k : Int) == -1) = false := by simp
    obtain ⟨f, hr, hF⟩ := hA
    obtain ⟨n1, n2, n3, n4⟩ := rep_near hs hr hk hy hw
    obtain ⟨c0, c1⟩ := hF.cells
    obtain ⟨p0, p1, p2⟩ := hF.row.cells (k := y) (by omega)
    have q0 := hF.row.frozen (y * 3)
    obtain ⟨a, ha⟩ : ∃ a, (f y).a = a := ⟨_, rfl⟩
    obtain ⟨b, hb⟩ : ∃ b, (f y).b = b := ⟨_, rfl⟩
    rw [ha] at p1 n1 n3
    rw [hb] at p2 n2 n4
    have q1 := hF.row.frozen (a * 3 + 2)
    have q2 := hF.row.frozen (b * 3 + 1)
    obtain ⟨a0, a1, a2⟩ := hF.row.cells (k := a) n1
    obtain ⟨b0, b1, b2⟩ := hF.row.cells (k := b) n2
    have hne := hF.ne
    have HF : Hid (AtF w B P (s.ni + s.nq) s.ni f ∧ Rep s f ∧ (f y).a = a ∧ (f y).b = b ∧ s.wh y = (k : Int) ∧ Ok s) := ⟨hF, hr, ha, hb, hw, hs⟩
    have h1 := hs.nq
    have h2 := hs.ni
    obtain ⟨n, hn⟩ : ∃ n, n = s.ni + s.nq := ⟨_, rfl⟩
    rw [← hn] at c0 n1 n2
    have hyn : y < n := by omega
    have HN : Hid (n = s.ni + s.nq) := hn
    have hn' : n ≤ 64 := by omega
    have HY : Hid (y < s.ni) := hy
    clear hF hr ha hb hw hs e h0 hwh hn h1 h2 hy hk
    have x1 : ¬ (y * 3 + 1 = a * 3 + 2) := by omega
    have x2 : ¬ (y * 3 + 2 = a * 3 + 2) := by omega
    have x3 : ¬ (b * 3 + 1 = a * 3 + 2) := by omega
    go_enter Try.func12, Try.ntmps12
    go_wp2_with (go_at_call 19; refine hW.mono ?_; rintro e w2 ⟨rfl, hw2⟩; subst hw2)
    go_region
    go_wp2
    go_region
    go_wp2
    go_ret
    obtain ⟨hF, hr, ha, hb, hw, hs⟩ := HF.out
    have hN := HN.out
    have hk' : k < s.nq := by rcases hs.wh y HY.out with e | e <;> omega
    refine ⟨rfl, ⟨rmF f a b y, ?_, ?_⟩, ((((Turn.refl _ _ _).setP _ _).setP _ _).setP _ _).drew.drew⟩
    · obtain ⟨g0, g1, g2, g3, g4, g5⟩ := rmF_is f a b y n3 n4
      exact rep_remove hs hr hk' HY.out hw ha hb g0 g1 g2 g3 g4 g5
    · have h3 := ((hF.setB (k := a) (by omega) b).setA (k := b) (by omega) a).setQ (k := y) (by omega) (-1)
      exact h3.same rfl rfl

set_option maxHeartbeats 400000 in
theorem remove_nil (x : Int) (w : World) : Calls Try.prog 12 #[.pointer none, .int .i64 x] w fun e w' => e = .returned (.bool false) ∧ w' = w := by
  have hW := where_nil x w
  go_enter Try.func12, Try.ntmps12
  go_wp2_with (go_at_call 19; refine hW.mono ?_; rintro e w2 ⟨rfl, rfl⟩)
  go_ret
  exact ⟨rfl, rfl⟩

/-- The places behind a push. -/
def pushF (f : Nat → Plc) (k x last e : Nat) : Nat → Plc :=
  upd (upd (upd f x ⟨(k : Int), last, e⟩) last { upd f x ⟨(k : Int), last, e⟩ last with b := x }) e { upd (upd f x ⟨(k : Int), last, e⟩) last { upd f x ⟨(k : Int), last, e⟩ last with b := x } e with a := x }
theorem pushF_is (f : Nat → Plc) (k x last e : Nat) (hl : last ≠ x) (he : e ≠ x) :
    (∀ z, z ≠ x → (pushF f k x last e z).q = (f z).q) ∧ (∀ z, z ≠ x → z ≠ last → (pushF f k x last e z).b = (f z).b) ∧ (∀ z, z ≠ x → z ≠ e → (pushF f k x last e z).a = (f z).a) ∧
    (pushF f k x last e x).q = (k : Int) ∧ (pushF f k x last e last).b = x ∧ (pushF f k x last e x).a = last ∧ (pushF f k x last e x).b = e ∧ (pushF f k x last e e).a = x := by
  have hx : pushF f k x last e x = ⟨(k : Int), last, e⟩ := by rw [pushF, upd_other _ _ (Ne.symm he), upd_other _ _ (Ne.symm hl), upd_same]
  refine ⟨fun z hz => ?_, fun z hz h1 => ?_, fun z hz h1 => ?_, by rw [hx], ?_, by rw [hx], by rw [hx], by rw [pushF, upd_same]⟩
  · rw [pushF]
    by_cases e1 : z = e
    · subst e1; rw [upd_same]
      by_cases e2 : z = last
      · subst e2; rw [upd_same, upd_other _ _ hz]
      · rw [upd_other _ _ e2, upd_other _ _ hz]
    · rw [upd_other _ _ e1]
      by_cases e2 : z = last
      · subst e2; rw [upd_same, upd_other _ _ hz]
      · rw [upd_other _ _ e2, upd_other _ _ hz]
  · rw [pushF]
    by_cases e1 : z = e
    · subst e1; rw [upd_same, upd_other _ _ h1, upd_other _ _ hz]
    · rw [upd_other _ _ e1, upd_other _ _ h1, upd_other _ _ hz]
  · rw [pushF, upd_other _ _ h1]
    by_cases e2 : z = last
    · subst e2; rw [upd_same, upd_other _ _ hz]
    · rw [upd_other _ _ e2, upd_other _ _ hz]
  · rw [pushF]
    by_cases e1 : last = e
    · subst e1; rw [upd_same, upd_same]
    · rw [upd_other _ _ e1, upd_same]

set_option maxHeartbeats 1000000 in
theorem push_yes (B P : Nat) (s : Qs) (k x : Nat) (w : World) (hs : Ok s) (hA : AtQ w B P s) (hk : k < s.nq) (hx : x < s.ni) (hw : s.wh x = -1) :
    Calls Try.prog 14 #[.pointer (some ⟨B, 0, none⟩), .int .i64 (k : Int), .int .i64 (x : Int)] w fun e w' => e = .returned (.bool true) ∧ Now B P (pushAt s k x) w w' := by
  obtain ⟨f, hr, hF⟩ := hA
  have h1 := hs.nq
  have h2 := hs.ni
  obtain ⟨c0, c1⟩ := hF.cells
  obtain ⟨p0, p1, p2⟩ := hF.row.cells (k := x) (by omega)
  rw [hr.wh x hx, hw] at p0
  have q0 := hF.row.frozen (x * 3)
  have q1 := hF.row.frozen (x * 3 + 1)
  have q2 := hF.row.frozen (x * 3 + 2)
  obtain ⟨e, he⟩ : ∃ e, s.ni + k = e := ⟨_, rfl⟩
  obtain ⟨last, hla⟩ : ∃ last, (f e).a = last := ⟨_, rfl⟩
  obtain ⟨m1, m2⟩ := rep_last hs hr hk
  rw [he, hla] at m1 m2
  have hlx : last ≠ x := fun e' => by
    subst e'
    rcases List.mem_cons.1 m1 with e' | hm
    · omega
    · have := ((hs.mem k _ hk).1 hm).2; omega
  obtain ⟨e0, e1, e2⟩ := hF.row.cells (k := e) (by omega)
  rw [hla] at e1
  have q3 := hF.row.frozen (e * 3 + 1)
  obtain ⟨l0, l1, l2⟩ := hF.row.cells (k := last) (by omega)
  have q4 := hF.row.frozen (last * 3 + 2)
  have hne := hF.ne
  have hQ := fun W h => hasQ_yes B P (s.ni + s.nq) s.ni f (k : Int) (by omega) (by omega) (by omega) W h
  have hI := fun W h => hasI_yes B P (s.ni + s.nq) s.ni f (x : Int) (by omega) W h
  have hE := fun W h => end_any B P (s.ni + s.nq) s.ni f k (by omega) (by omega) W h
  rw [he] at hE
  have HF : Hid (AtF w B P (s.ni + s.nq) s.ni f ∧ Rep s f ∧ (f e).a = last ∧ s.ni + k = e ∧ Ok s ∧ k < s.nq ∧ x < s.ni ∧ s.wh x = -1) := ⟨hF, hr, hla, he, hs, hk, hx, hw⟩
  obtain ⟨n, hn⟩ : ∃ n, n = s.ni + s.nq := ⟨_, rfl⟩
  rw [← hn] at c0 hQ hI hE
  have HN : Hid (n = s.ni + s.nq) := hn
  have hxn : x < n := by omega
  have hen : e < n := by omega
  have hln : last < n := by omega
  have hex : e ≠ x := by omega
  have hn' : n ≤ 64 := by omega
  rw [← hn] at hF
  have HF1 : Hid (AtF w B P n s.ni f) := hF
  clear hF hr hla hw hs hn h1 h2 hx hk m1 m2 he
  go_enter Try.func14, Try.ntmps14
  go_wp2_with (first
    | (go_at_call 26; refine (hQ _ HF1.out).mono ?_; rintro e w2 ⟨rfl, hD⟩; rw [← hD.cell] at c0 c1 p0 p1 p2 e0 e1 e2 l0 l1 l2; rw [← hD.frozen] at q0 q1 q2 q3 q4)
    | (go_at_call 27; refine (hI _ (hD.at HF1.out)).mono ?_; rintro e w3 ⟨rfl, hw3⟩; subst hw3)
    | (go_at_call 23; refine (hE _ (hD.at HF1.out)).mono ?_; rintro e w4 ⟨rfl, hw4⟩; subst hw4))
  go_ret
  obtain ⟨hF, hr, hla, he, hs, hk, hx, hw⟩ := HF.out
  have hN := HN.out
  refine ⟨rfl, ⟨pushF f k x last e, ?_, ?_⟩, (((((Turn.of_below hD.1).setP _ _).setP _ _).setP _ _).setP _ _).setP _ _⟩
  · obtain ⟨g0, g1, g2, g3, g4, g5, g6, g7⟩ := pushF_is f k x last e hlx hex
    subst he
    exact rep_push hs hr hk hx hw hla g0 g1 g2 g3 g4 g5 g6 g7
  · have h0 := hD.at hF
    have h3 := ((h0.setAll (k := x) (by omega) ⟨(k : Int), last, e⟩).setB (k := last) (by omega) x).setA (k := e) (by omega) x
    exact h3

set_option maxHeartbeats 1000000 in
theorem push_no (B P : Nat) (s : Qs) (k x : Int) (w : World) (hs : Ok s) (hA : AtQ w B P s) (hno : ¬ fits s k x) :
    Calls Try.prog 14 #[.pointer (some ⟨B, 0, none⟩), .int .i64 k, .int .i64 x] w fun e w' => e = .returned (.bool false) ∧ Now B P s w w' := by
  obtain ⟨f, hr, hF⟩ := hA
  have h1 := hs.nq
  have h2 := hs.ni
  have HF : Hid (AtF w B P (s.ni + s.nq) s.ni f ∧ Rep s f) := ⟨hF, hr⟩
  by_cases hk : hasQ s k
  · have hQ := fun W h => hasQ_yes B P (s.ni + s.nq) s.ni f k (by omega) (by omega) (by omega) W h
    by_cases hx : hasI s x
    · have hI := fun W h => hasI_yes B P (s.ni + s.nq) s.ni f x hx W h
      obtain ⟨y, rfl⟩ : ∃ y : Nat, x = (y : Int) := ⟨x.toNat, by omega⟩
      have hw : s.wh y ≠ -1 := fun e => hno ⟨hk, hx, by simpa using e⟩
      obtain ⟨c0, c1⟩ := hF.cells
      obtain ⟨p0, p1, p2⟩ := hF.row.cells (k := y) (by omega)
      rw [hr.wh y (by omega)] at p0
      have hw' : (s.wh y != -1) = true := by simpa using hw
      have hy : (y : Int) < ((s.ni + s.nq : Nat) : Int) := by omega
      obtain ⟨n, hn⟩ : ∃ n, n = s.ni + s.nq := ⟨_, rfl⟩
      rw [← hn] at c0 hQ hI hy
      have HF1 : Hid (AtF w B P n s.ni f) := by rw [← hn] at hF; exact hF
      clear hF hr hno hw hn hs
      generalize s.wh y = v at *
      go_enter Try.func14, Try.ntmps14
      go_wp2_with (first
        | (go_at_call 26; refine (hQ _ HF1.out).mono ?_; rintro e w2 ⟨rfl, hD⟩; rw [← hD.cell] at c0 c1 p0 p1 p2)
        | (go_at_call 27; refine (hI _ (hD.at HF1.out)).mono ?_; rintro e w3 ⟨rfl, hw3⟩; subst hw3))
      go_ret
      exact ⟨rfl, ⟨f, HF.out.2, hD.at HF.out.1⟩, Turn.of_below hD.1⟩
    · have hI := fun W h => hasI_no B P (s.ni + s.nq) s.ni f x hx W h
      have HF1 : Hid (AtF w B P (s.ni + s.nq) s.ni f) := hF
      clear hF hr hno hs
      go_enter Try.func14, Try.ntmps14
      go_wp2_with (first
        | (go_at_call 26; refine (hQ _ HF1.out).mono ?_; rintro e w2 ⟨rfl, hD⟩)
        | (go_at_call 27; refine (hI _ (hD.at HF1.out)).mono ?_; rintro e w3 ⟨rfl, hw3⟩; subst hw3))
      go_ret
      exact ⟨rfl, ⟨f, HF.out.2, hD.at HF.out.1⟩, Turn.of_below hD.1⟩
  · have hQ := fun W h => hasQ_no B P (s.ni + s.nq) s.ni f k (by omega) (by omega) (by omega) W h
    have HF1 : Hid (AtF w B P (s.ni + s.nq) s.ni f) := hF
    clear hF hr hno hs
    go_enter Try.func14, Try.ntmps14
    go_wp2_with (go_at_call 26; refine (hQ _ HF1.out).mono ?_; rintro e w2 ⟨rfl, hD⟩)
    go_ret
    exact ⟨rfl, ⟨f, HF.out.2, hD.at HF.out.1⟩, Turn.of_below hD.1⟩

theorem push_any (B P : Nat) (s : Qs) (k x : Int) (w : World) (hs : Ok s) (hA : AtQ w B P s) :
    Calls Try.prog 14 #[.pointer (some ⟨B, 0, none⟩), .int .i64 k, .int .i64 x] w fun e w' => e = .returned (.bool (pushB s k x)) ∧ Now B P (pushOf s k x) w w' := by
  by_cases h : fits s k x
  · obtain ⟨j, rfl⟩ : ∃ j : Nat, k = (j : Int) := ⟨k.toNat, by omega⟩
    obtain ⟨y, rfl⟩ : ∃ y : Nat, x = (y : Int) := ⟨x.toNat, by omega⟩
    rw [show pushB s (j : Int) (y : Int) = true from if_pos h, show pushOf s (j : Int) (y : Int) = pushAt s j y from if_pos h]
    exact push_yes B P s j y w hs hA (by omega) (by omega) (by simpa using h.2.2)
  · rw [show pushB s k x = false from if_neg h, show pushOf s k x = s from if_neg h]
    exact push_no B P s k x w hs hA h

set_option maxHeartbeats 400000 in
theorem push_nil (k x : Int) (w : World) : Calls Try.prog 14 #[.pointer none, .int .i64 k, .int .i64 x] w fun e w' => e = .returned (.bool false) ∧ Drawn w w' := by
  have hQ := fun W => hasQ_nil k W
  go_enter Try.func14, Try.ntmps14
  go_wp2_with (go_at_call 26; refine (hQ _).mono ?_; rintro e w2 ⟨rfl, hD⟩)
  go_ret
  exact ⟨rfl, hD⟩

end Go.Proofs.Ytonahaembfbgbaa
