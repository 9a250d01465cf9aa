/-
  What policy.printRow and policy.kindWord come to: words and numbers as a line.
-/
import Derived.Test.YtmhjoomkeidcaaaDoorJoin
import Derived.Test.YtmhjoomkeidcaaaDoorLine
import Derived.Lib.Join
namespace Go.Proofs.YtmhjoomkeidcaaaDoor
open Go.RowKit L2

/-- A line of words. -/
def rowText (ws : List (List UInt8)) : List UInt8 := Lib.join ws [32] ++ [10]
/-- A number as a text. -/
def decB (n : Nat) : ByteArray := ⟨(Lib.decDigits n).toArray⟩
theorem bytes_append (a b : List UInt8) : (⟨a.toArray⟩ : ByteArray) ++ (⟨b.toArray⟩ : ByteArray) = ⟨(a ++ b).toArray⟩ := by
  refine ByteArray.ext (Array.toList_inj.1 ?_)
  simp [ByteArray.data_append]
theorem decB_list (n : Nat) : (decB n).data.toList = Lib.decDigits n := by simp [decB]

theorem heap_kept {w w' : World} {base : Nat} {e e' : TypeId} {size : Nat} {v : Value} {n pb : Nat} {xs : List Value} {cs : Array Value} {fr : Nat × Nat} (h : w.ownsRow base e size v n xs) (hp : w.heap[pb]? = some (.cells cs e' fr)) (he : e ≠ e') (k : w.grownBy w' v.ownBlock) : w'.heap[pb]? = some (.cells cs e' fr) := by
  rw [k.block pb (Array.getElem?_eq_some_iff.1 hp).1]
  · exact hp
  · intro e1
    rcases h.2 with ⟨e2, _⟩ | ⟨g, cap, cur, hv, _, hh, _⟩
    · subst e2; simp [Value.ownBlock] at e1
    · subst hv
      simp [Value.ownBlock] at e1
      subst e1
      rw [hp] at hh
      injection hh with hh
      injection hh with _ hh
      exact he hh.symm

set_option maxHeartbeats 2000000 in
set_option maxRecDepth 100000 in
theorem printRow_any (T g k pb : Nat) (xs : List ByteArray) (ns : List Nat) (w : World) (hx : xs.length = k) (h1 : 1 ≤ k) (hown : w.ownsRow T 9 1 (.slice (some ⟨g, 0, none⟩) k k) k (cT xs)) (hT : T ≤ w.heap.size)
    (hpb : w.heap[pb]? = some (.cells (ns.map fun n : Nat => Value.int .i64 (n : Int)).toArray 3 (0, 0))) (hns : ∀ n ∈ ns, n < 100) (hlen : k + ns.length ≤ 100)
    (hby : (Lib.join (xs.map (·.data.toList) ++ ns.map Lib.decDigits) [32]).length ≤ 100000) :
    Calls Tryd.prog 39 #[.slice (some ⟨g, 0, none⟩) k k, .slice (some ⟨pb, 0, none⟩) ns.length ns.length] w fun e w' => e = .returned (.string ⟨(rowText (xs.map (·.data.toList) ++ ns.map Lib.decDigits)).toArray⟩) ∧ Below T w w' := by
  obtain ⟨i0, hi, hz0, hz1, hz2⟩ := info_parts info9
  have HPB : Hid (w.heap[pb]? = some (.cells (ns.map fun n : Nat => Value.int .i64 (n : Int)).toArray 3 (0, 0))) := hpb
  have HNS : Hid (∀ n ∈ ns, n < 100) := hns
  have HBY : Hid ((Lib.join (xs.map (·.data.toList) ++ ns.map Lib.decDigits) [32]).length ≤ 100000) := hby
  have HO : Hid (OwnT w T (.slice (some ⟨g, 0, none⟩) k k) xs) := by unfold OwnT; rw [hx]; exact hown
  clear hpb hns hby hown
  go_enter Tryd.func39, Tryd.ntmps39
  go_wp2
  go_loopw [0, 6, 9] (fun v _ i wr => ∃ j : Nat, j ≤ ns.length ∧ i = .int .i64 j ∧ OwnT wr T v (xs ++ (ns.take j).map decB) ∧ wr.heap[pb]? = some (.cells (ns.map fun n : Nat => Value.int .i64 (n : Int)).toArray 3 (0, 0)) ∧ Below T w wr) (fun _ _ i _ => ns.length - (intOf i).toNat)
  case atStart => exact ⟨0, Nat.zero_le _, rfl, by rw [List.take_zero, List.map_nil, List.append_nil]; exact HO.out, HPB.out, Below.refl _ _⟩
  case round =>
    clear HO HPB
    obtain ⟨j, hj, rfl, hown, hpb, hnx⟩ := hrel
    have hsz := hnx.size
    by_cases hlt : j < ns.length
    · obtain ⟨x, hxx⟩ : ∃ x, ns[j]? = some x := ⟨ns[j]'hlt, List.getElem?_eq_getElem hlt⟩
      have q0 : wr.cell? ⟨pb, j, none⟩ = some (.int .i64 (x : Int)) := by rw [Lib.cell_of_heap hpb]; simp [hxx]
      have hx100 := HNS.out x (List.mem_of_getElem? hxx)
      have HT : Hid (xs ++ (ns.take (j + 1)).map decB = (xs ++ (ns.take j).map decB) ++ [decB x]) := by
        rw [List.take_add_one, hxx, List.map_append, ← List.append_assoc]; exact rfl
      have hlD : (xs ++ (ns.take j).map decB).length ≤ 100 := by rw [List.length_append, List.length_map, List.length_take]; omega
      generalize xs ++ (ns.take j).map decB = D at *
      have hown2 : wr.ownsRow T 9 1 u0 D.length (cT D) := hown
      have HPB : Hid (wr.heap[pb]? = some (.cells (ns.map fun n : Nat => Value.int .i64 (n : Int)).toArray 3 (0, 0))) := hpb
      have hI := fun W => itoaSmall x hx100 W
      rw [show (⟨(Lib.decDigits x).toArray⟩ : ByteArray) = decB x from rfl] at hI
      generalize decB x = X at *
      clear hown hpb hxx
      go_wp2_with (first
        | (go_at_call 64; refine (hI _).mono ?_; rintro e w2 ⟨rfl, rfl⟩)
        | (at_builtin; refine wpList_append_own _ rfl _ _ 67 rfl T 9 i0 (.string ⟨#[]⟩) 1 16 Tryd.underlying67 hi hz0 hz1 hz2 rfl (by decide) _ _ _ rfl (hown2.alloc _) ⟨w2.heap.size, 0, none⟩ 1 1 [.string X] rfl rfl ?c1 ?c2 ?c3 ?c4 ?c5 ?_))
      case c1 =>
        intro j u hj
        match j, hj with
        | 0, hj => simp at hj; subst hj; simp [Addr.add]
      case c2 => intro u hu; simp at hu; subst hu; rfl
      case c3 => unfold maxLen; omega
      case c4 => omega
      case c5 => simp; omega
      intro v' w3 hown' hgrow _
      have HO : Hid (OwnT w3 T v' (D ++ [X])) := ownT_snoc hown'
      have HP3 : Hid (w3.heap[pb]? = some (.cells (ns.map fun n : Nat => Value.int .i64 (n : Int)).toArray 3 (0, 0))) := heap_kept (hown2.alloc _) ((Lib.alloc_old _ _ _ (Array.getElem?_eq_some_iff.1 HPB.out).1).trans HPB.out) (by decide) hgrow
      have hB3 : Below T w w3 := (hnx.alloc (by omega) _).grown hgrow (by simp; omega) (fun j hj => (hown2.lt j hj).1)
      clear hown' hgrow hown2
      go_wp2_with fail
      go_roundw
      case rel => exact ⟨j + 1, by omega, by go_num, by rw [HT.out]; exact HO.out, HP3.out, hB3⟩
      case measure => simp [intOf]; omega
    · have hl2 : (xs ++ ns.map decB).length ≤ 100 ∧ 1 ≤ (xs ++ ns.map decB).length := by rw [List.length_append, List.length_map]; omega
      rw [List.take_of_length_le (by omega)] at hown
      have HE : Hid ((xs ++ ns.map decB).map (·.data.toList) = xs.map (·.data.toList) ++ ns.map Lib.decDigits) := by
        rw [List.map_append, List.map_map, show ((fun x : ByteArray => x.data.toList) ∘ decB) = Lib.decDigits from funext decB_list]; exact rfl
      obtain ⟨ta, tc, rfl, htc, hLT⟩ := ownT_lies hown
      obtain ⟨x0, hx0⟩ : ∃ x0, (xs ++ ns.map decB)[0]? = some x0 := ⟨(xs ++ ns.map decB)[0]'(by omega), List.getElem?_eq_getElem (by omega)⟩
      obtain ⟨rb, ro, rfl, hrb, _⟩ := hLT.text hx0
      have hJ := joinAny rb ro tc (xs ++ ns.map decB) ⟨#[32]⟩ wr (fun j x hj => by
        obtain ⟨b', o', e', _, h'⟩ := hLT.text hj
        injection e' with e'
        injection e' with e1 e2
        subst e1 e2
        exact h') hrb (by omega) htc (by rw [HE.out]; have := HBY.out; show (Lib.join _ [32]).length ≤ _; omega)
      rw [HE.out] at hJ
      have hJ2 : Calls Tryd.prog 68 #[.slice (some ⟨rb, ro, none⟩) (xs ++ ns.map decB).length tc, .string ⟨#[32]⟩] wr fun e w' => e = .returned (.string ⟨(Lib.join (xs.map (·.data.toList) ++ ns.map Lib.decDigits) [32]).toArray⟩) ∧ Below wr.heap.size wr w' := hJ
      have hsz2 : (⟨(Lib.join (xs.map (·.data.toList) ++ ns.map Lib.decDigits) [32]).toArray⟩ : ByteArray).size ≤ 100000 := by
        show (Lib.join (xs.map (·.data.toList) ++ ns.map Lib.decDigits) [32]).toArray.size ≤ _
        rw [List.size_toArray]; exact HBY.out
      have HF : Hid ((⟨(Lib.join (xs.map (·.data.toList) ++ ns.map Lib.decDigits) [32]).toArray⟩ : ByteArray) ++ (⟨#[10]⟩ : ByteArray) = ⟨(rowText (xs.map (·.data.toList) ++ ns.map Lib.decDigits)).toArray⟩) := bytes_append _ [10]
      clear hJ HE hown hLT hx0 hpb
      generalize (⟨(Lib.join (xs.map (·.data.toList) ++ ns.map Lib.decDigits) [32]).toArray⟩ : ByteArray) = J at *
      generalize (xs ++ ns.map decB).length = L at *
      go_wp2_with fail
      refine hJ2.mono ?_
      rintro e w3 ⟨rfl, hb3⟩
      go_wp2
      go_ret
      exact ⟨by rw [← HF.out]; rfl, hnx.trans (hb3.mono (by omega))⟩

set_option maxHeartbeats 400000 in
theorem kind_any (l : Lk) (w : World) :
    Calls Tryd.prog 40 #[.int .i64 l.kind] w fun e w' => e = .returned (.string (if l.kind = 1 then kwCell else kwPump)) ∧ w' = w := by
  by_cases h : l.kind = 1
  · rw [if_pos h]
    have hb : (l.kind == 1) = true := by simpa using h
    clear h
    go_enter Tryd.func40, Tryd.ntmps40
    go_wp2
    go_ret
    exact ⟨rfl, rfl⟩
  · rw [if_neg h]
    have hb : (l.kind == 1) = false := by simpa using h
    clear h
    go_enter Tryd.func40, Tryd.ntmps40
    go_wp2
    go_ret
    exact ⟨rfl, rfl⟩

end Go.Proofs.YtmhjoomkeidcaaaDoor
