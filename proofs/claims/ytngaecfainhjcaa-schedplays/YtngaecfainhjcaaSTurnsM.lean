/-
  Tasks that yield come round: a row that is turned.
-/
import Derived.Test.YtngaecfainhjcaaSNone
namespace Go.Proofs.Ytngaecfainhjcaa
open Go.RowKit A

/-- Eight places, of which so many more were taken. -/
def sp : Nat → Sc
  | 0 => newS 8
  | k + 1 => spawnOf (sp k)
theorem sp_ok : ∀ k, Okc 0 (sp k)
  | 0 => ok_newS 8
  | k + 1 => (sp_ok k).spawn
theorem sp_take : ∀ k, k < 7 → takeB (sp k).a = true := by decide
theorem sp_run : ∀ k, k < 8 → (sp k).run = (List.range (k + 1)).map (· + 1) := by decide
theorem sp_len {k : Nat} (h : k < 8) : (sp k).run.length = k + 1 := by rw [sp_run k h]; simp

def rot (l : List Nat) (i : Nat) : List Nat := l.drop (i % l.length) ++ l.take (i % l.length)
theorem rot_zero (l : List Nat) : rot l 0 = l := by simp [rot]
theorem rot_head {l : List Nat} (h : 0 < l.length) (i : Nat) : rot l i = gs_ l (i % l.length) :: (l.drop (i % l.length + 1) ++ l.take (i % l.length)) := by
  have hj := Nat.mod_lt i h
  unfold rot
  rw [List.drop_eq_getElem_cons hj, List.cons_append]
  congr 1
  simp [gs_, hj]
theorem rot_next {l : List Nat} (h : 0 < l.length) (i : Nat) : rot l (i + 1) = (l.drop (i % l.length + 1) ++ l.take (i % l.length)) ++ [gs_ l (i % l.length)] := by
  have hj := Nat.mod_lt i h
  have e : l.take (i % l.length) ++ [gs_ l (i % l.length)] = l.take (i % l.length + 1) := by
    rw [List.take_add_one]
    simp [gs_, hj]
  rw [List.append_assoc, e]
  rcases Nat.lt_or_ge (i % l.length + 1) l.length with h1 | h1
  · have e2 : (i + 1) % l.length = i % l.length + 1 := by
      rw [Nat.add_mod]
      have h1l : 1 < l.length := by omega
      rw [Nat.mod_eq_of_lt h1l, Nat.mod_eq_of_lt h1]
    unfold rot
    rw [e2]
  · have e1 : i % l.length + 1 = l.length := by omega
    have e2 : (i + 1) % l.length = 0 := by
      have := Nat.div_add_mod i l.length
      rw [show i + 1 = l.length * (i / l.length) + l.length by omega]
      simp
    unfold rot
    rw [e2, e1]
    simp
theorem rot_yield {a : Ar} {l : List Nat} (h : 0 < l.length) {K : Nat} (i : Nat) (ho : Okc K ⟨a, rot l i⟩) :
    pickH ⟨a, rot l i⟩ 0 = ((gs_ l (i % l.length) : Nat) : Int) ∧ pickB ⟨a, rot l i⟩ 0 = true ∧ inB (rot l i) ((gs_ l (i % l.length) : Nat) : Int) = true ∧ yieldOf ⟨a, rot l i⟩ ((gs_ l (i % l.length) : Nat) : Int) = ⟨a, rot l (i + 1)⟩ := by
  have hnd : (rot l i).Nodup := ho.nd
  rw [rot_head h] at hnd
  have hr : rot l i = _ := rot_head h i
  generalize hx : gs_ l (i % l.length) = x at *
  have hn := rot_next h i
  rw [hx] at hn
  generalize hrest : l.drop (i % l.length + 1) ++ l.take (i % l.length) = rest at *
  have hxr : x ∉ rest := (List.nodup_cons.1 hnd).1
  have hin : inB (rot l i) (x : Int) = true := inB_true.2 ⟨x, by rw [hr]; exact List.mem_cons_self, rfl⟩
  have hrm : rmOf (rot l i) (x : Int) = rest := by
    rw [hr]
    show (x :: rest).filter _ = _
    rw [List.filter_cons_of_neg (by simp)]
    exact rm_none (inB_false.2 fun m hm e => hxr (by have : m = x := by omega
                                                     exact this ▸ hm))
  refine ⟨?_, ?_, hin, ?_⟩
  · unfold pickH
    rw [if_pos ⟨Int.le_refl _, by show (0 : Int) < ((rot l i).length : Int); rw [hr]; simp⟩]
    show ((gs_ (rot l i) 0 : Nat) : Int) = _
    rw [hr]; rfl
  · unfold pickB
    exact decide_eq_true ⟨Int.le_refl _, by show (0 : Int) < ((rot l i).length : Int); rw [hr]; simp⟩
  · unfold yieldOf
    show (if inB (rot l i) (x : Int) = true then (⟨a, rmOf (rot l i) (x : Int) ++ [((x : Nat) : Int).toNat]⟩ : Sc) else _) = _
    rw [hin, if_pos rfl, hrm, Int.toNat_natCast, hn]

theorem hits_le {K : Nat} {s : Ar} {h : Int} (hh : hits s h) (hf : Fit K s) (hK : K ≤ 1000000) : h ≤ 9223372036854775807 := by
  have h1 := hh.2.2.2
  have h2 := hf.backs _ hh.2.1
  have h3 := hf.n16
  have h4 := hh.2.1
  unfold hd at h1
  omega
theorem tmod_len {n : Int} {l : Nat} (h : 0 ≤ n) (hl : 0 < l) : ∃ k : Nat, n.tmod (l : Int) = (k : Int) ∧ k < l := by
  rw [Int.tmod_eq_emod_of_nonneg h]
  have h1 := Int.emod_nonneg n (show (l : Int) ≠ 0 by omega)
  have h2 := Int.emod_lt_of_pos n (show (0 : Int) < l by omega)
  exact ⟨(n % (l : Int)).toNat, by omega, by omega⟩
theorem u8_mod {x : Int} (hx : 0 ≤ x ∧ x ≤ 255) (d : Nat) (hd : 0 < d) (hd2 : d ≤ 200) : ∃ m : Nat, x.tmod (d : Int) = (m : Int) ∧ m < d ∧ IntKind.u8.wrap (m : Int) = (m : Int) ∧ wrap64 (m : Int) = (m : Int) := by
  have h1 := Int.emod_nonneg x (show (d : Int) ≠ 0 by omega)
  have h2 := Int.emod_lt_of_pos x (show (0 : Int) < d by omega)
  obtain ⟨m, hm⟩ : ∃ m : Nat, (m : Int) = x % (d : Int) := ⟨(x % (d : Int)).toNat, by omega⟩
  refine ⟨m, by rw [Int.tmod_eq_emod_of_nonneg (by omega)]; exact hm.symm, by omega, ?_, ?_⟩
  · simp [IntKind.wrap, IntKind.bits, IntKind.signed]; omega
  · unfold wrap64; omega

end Go.Proofs.Ytngaecfainhjcaa
