/-
  What the law CellReads asks comes out true at any two lists of acts.
-/
import Derived.Test.YthadcampbchihaaReads
import Derived.Test.YthadcampbchihaaAwake
import Derived.Test.YthadcampbchihaaMem
import Derived.Deep.CutBlock
namespace Go.Proofs.Ythadcampbchihaa
open Go.RowKit

theorem new_rs {w w1 : World} {M K : Nat} (h : Xs w M none0 (ws0 K) w1) : RS w M (w1.heap.size + 1) w1.heap.size none0 (ws0 K) (List.replicate K 0) ((w1.alloc (.cells (cZ (List.replicate K 0)).toArray 3)).alloc (.cells (cZ (List.replicate K 0)).toArray 3)) := by
  have hz := h.2.2.size
  have hM := h.2.1.1.lt
  have e : (w1.alloc (.cells (cZ (List.replicate K 0)).toArray 3)).heap.size = w1.heap.size + 1 := by simp
  have b1 := below1 w1 (.cells (cZ (List.replicate K 0)).toArray 3)
  have b2 := below1 (w1.alloc (.cells (cZ (List.replicate K 0)).toArray 3)) (.cells (cZ (List.replicate K 0)).toArray 3)
  have hx := (h.below b1).below b2
  refine ⟨by omega, hz, by omega, fun _ q => q.elim, ⟨hx.1, ⟨hx.2.1.1, fun j hj => ?_⟩, hx.2.2⟩, ?_, ?_, by simp [ws0], fun _ => rfl⟩
  · rcases hj with q | q | q
    · exact q.elim
    · subst q; simp; omega
    · subst q; simp; omega
  · have := heap_alloc_new (w1.alloc (.cells (cZ (List.replicate K 0)).toArray 3)) (.cells (cZ (List.replicate K 0)).toArray 3)
    rw [e] at this
    exact this
  · exact (b2.block _ (by rw [e]; omega)).trans (heap_alloc_new w1 _)

set_option maxRecDepth 20000 in
set_option maxHeartbeats 16000000 in
theorem reads_walk (n : Int) (hn : 0 ≤ n ∧ n ≤ 255) (a1 : Option Addr) (l1 c1 : Nat) (h1 : l1 ≤ c1) (g1 : c1 ≤ maxLen) (a2 : Option Addr) (l2 c2 : Nat) (h2 : l2 ≤ c2) (g2 : c2 ≤ maxLen) (w : World) (hact1 : Acts w a1 l1) (hact2 : Acts w a2 l2) : Calls Try.prog 4 #[.int .u8 n, .slice a1 l1 c1, .slice a2 l2 c2] w fun e w' => e = .returned (.bool true) ∧ Below w.heap.size w w' := by
  have hl1 : l1 ≤ maxLen := Nat.le_trans h1 g1
  have hl2 : l2 ≤ maxLen := Nat.le_trans h2 g2
  unfold maxLen at hl1 hl2
  clear h1 g1 h2 g2
  have HA1 := hide hact1
  have HA2 := hide hact2
  clear hact1 hact2
  obtain ⟨m, na, hm4, _, na3⟩ := u8_mod hn 4 (by omega) (by omega)
  obtain ⟨K, hK⟩ : ∃ K : Nat, K = 1 + m := ⟨_, rfl⟩
  have HK : Hid (wrap64 (1 + wrap64 (n.tmod 4)) = (K : Int)) := hide (by rw [show n.tmod 4 = (m : Int) from na, na3, hK]; unfold wrap64; omega)
  have HK4 : Hid (1 ≤ K ∧ K ≤ 4) := hide (by omega)
  have N0 := hide (x_new (w := w) (K : Int))
  rw [show cut4 (K : Int) = K from by have := cut4_eq (K : Int); omega] at N0
  have HO0 := hide (Okw.start (n := K) HK4.out)
  have HL0 : Hid ((ws0 K).l.length = K) := hide (by simp [ws0])
  have hmk := fun W => make_z K HK4.out.2 (K : Int) rfl W
  clear na na3 hK hn hm4
  have HAW := hide awake_any
  have HNEW : Hid (∀ M w1, Xs w M none0 (ws0 K) w1 → RS w M (w1.heap.size + 1) w1.heap.size none0 (ws0 K) (List.replicate K 0) ((w1.alloc (.cells (cZ (List.replicate K 0)).toArray 3)).alloc (.cells (cZ (List.replicate K 0)).toArray 3))) := hide fun M w1 h => new_rs h
  generalize (cZ (List.replicate K 0)).toArray = Z at hmk HNEW
  generalize List.replicate K (0 : Int) = tl0 at HNEW
  generalize ws0 K = s0 at *
  go_enter Try.func4, Try.ntmps4
  go_wp2_with fail
  rw [HK.out]
  clear HK
  refine N0.out.mono ?_
  rintro e w1 ⟨rfl, hA⟩
  have HR0 := hide (HNEW.out _ _ hA)
  clear hA N0 HNEW
  generalize w.heap.size = M at HR0 ⊢
  go_upto_block 0 with fail

  obtain ⟨w3, hw3⟩ : ∃ w3, w3 = (w1.alloc (.cells Z 3)).alloc (.cells Z 3) := ⟨_, rfl⟩
  rw [← hw3] at HR0 ⊢
  clear hw3 hmk
  obtain ⟨T, hT⟩ : ∃ T, T = w1.heap.size := ⟨_, rfl⟩
  rw [← hT] at HR0 ⊢
  clear hT
  obtain ⟨N, hN⟩ : ∃ N, N = T + 1 := ⟨_, rfl⟩
  rw [← hN] at HR0 ⊢
  clear hN
  go_cut [11] (fun _ wx => ∃ s tl, Hid (Okw s) ∧ Hid (s.l.length = K) ∧ Hid (RS w M N T none0 s tl wx))
  case first =>
    clear HAW HA2 HK4
    go_wp2_with fail
    go_loopw [11] (fun i wr => ∃ k s tl, i = .int .i64 ((k : Nat) : Int) ∧ k ≤ 40 ∧ k ≤ l1 ∧ Hid (Okw s) ∧ Hid (s.l.length = K) ∧ Hid (RS w M N T none0 s tl wr)) (fun i _ => 40 - (intOf i).toNat)
    case atStart => exact ⟨0, s0, tl0, rfl, by omega, by omega, HO0, HL0, HR0⟩
    case round =>
      clear HR0 HO0 HL0
      obtain ⟨k, s, tl, rfl, hk40, hkl, HO, HL, HR⟩ := hrel
      by_cases q1 : k < l1
      · have q1' : (k : Int) < (l1 : Int) := by omega
        by_cases q2 : k < 40
        · have q2' : (k : Int) < 40 := by omega
          have q0' : (0 : Int) ≤ (k : Int) := by omega
          obtain ⟨b2, off2, d2, t2, x2, y2, rfl, hlt2, p0, p1, p2, p3, hd⟩ := HA1.out k q1
          have p0' := ((bcell HR.out.low).1 _ _ hlt2).trans p0
          have p1' := ((bcell HR.out.low).1 _ _ hlt2).trans p1
          have p2' := ((bcell HR.out.low).1 _ _ hlt2).trans p2
          have p3' := ((bcell HR.out.low).1 _ _ hlt2).trans p3
          have C1 := hide (write_any w M N T none0 s tl HO.out d2 t2 x2 y2 hd _ HR.out)
          rw [HL.out] at C1
          clear p0 p1 p2 p3 hd
          go_wp2_with fail
          refine C1.out.mono ?_
          rintro e w4 ⟨rfl, s2, tl2, hO2, hS2, hR2, _⟩
          have HR2 := hide hR2
          have HO2 := hide hO2
          have HL2 := hide (hS2.1.trans HL.out)
          clear hR2 hO2 hS2 p0' p1' p2' p3' HR HO C1 HL
          go_wp2_with fail
          go_roundw
          case rel => exact ⟨k + 1, s2, tl2, by go_num, by omega, by omega, HO2, HL2, HR2⟩
          case measure => simp [intOf]; omega
        · have q2' : ¬ (k : Int) < 40 := by omega
          go_wp2_with fail
          go_meet
          exact ⟨s, tl, HO, HL, HR⟩
      · have q1' : ¬ (k : Int) < (l1 : Int) := by omega
        go_wp2_with fail
        go_meet
        exact ⟨s, tl, HO, HL, HR⟩
  case rest =>
    obtain ⟨s, tl, HO, HL, HR⟩ := hcut
    clear HR0 HO0 HL0 HA1
    have HRc : Hid (RS w M N T none0 s tl wc) := HR
    clear HR
    have hl0 := lit0 wc
    have hb0 := below1 wc (.cells #[] 3)
    have HTL : Hid (tl.length = K) := hide (HRc.out.len.trans HL.out)
    have HZ := hide (HRc.out.told.z.below hb0)
    have hK4 := HK4.out
    go_wp2_with (at_builtin; refine wpList_append_z _ rfl _ _ rfl wc.heap.size _ 0 [] rfl hl0 (some ⟨T, 0, none⟩) K K tl rfl HTL.out HZ.out (by omega) (by simp) ?_)
    intro a4 c4 w4 ho4 hg4
    have hb4 : Below wc.heap.size wc w4 := below_own hb0 hl0 hg4
    have ho5 : w4.ownsRow wc.heap.size 3 1 (.slice a4 tl.length c4) tl.length (cZ tl) := by rw [HTL.out]; simpa using ho4
    obtain ⟨gx, cx, hv, hgb, hgl, _, _⟩ := row_open ho5 (by have := HTL.out; omega)
    injection hv with hv1 _ hv3
    subst hv1
    subst hv3
    have HRd := hide (HRc.out.below hb4)
    have HOX := hide ho5
    have HB0 : Hid (M < wc.heap.size ∧ N < wc.heap.size ∧ T < wc.heap.size) := hide ⟨HRc.out.xs.2.1.1.lt, HRc.out.ltN.1, HRc.out.ltT.1⟩
    have C1 := hide (x_start HRd.out.xs)
    have CW := hide (fun W (q : Xs w M none0 s W) => x_writer q)
    have HWR : Hid ((¬ s.wr = 0 ∧ staE s = 17) ∨ (s.wr = 0 ∧ staE s = 0 ∧ staN s = 2 * s.e)) := hide (by
      by_cases q : s.wr = 0
      · exact Or.inr ⟨q, if_pos q, if_pos q⟩
      · exact Or.inl ⟨q, if_neg q⟩)
    have hsz4 := hb4.size
    clear hl0 hb0 ho4 hg4 hb4 ho5 HZ HRc hgb hgl
    generalize wc.heap.size = B0 at *
    generalize staN s = N0 at *
    generalize staE s = E0 at *
    go_wp2_with fail
    refine C1.out.mono ?_
    rintro e w5 ⟨rfl, hw5⟩
    subst hw5
    clear C1
    rcases HWR.out with ⟨h0, he⟩ | ⟨h0, he, hn0⟩
    · subst he
      clear HWR HA2 HO HL HOX HB0 HTL
      generalize s.wr = Wr at *
      go_wp2_with fail
      refine (HAW.out _).mono ?_
      rintro e w9 ⟨rfl, hb⟩
      have HX9 := hide ((HRd.out.xs.mono (G := none0) fun _ q => q.elim).below hb)
      have C2 := hide (CW.out _ HX9.out)
      have HF := hide HX9.out.2.2
      clear hb HRd HAW CW HX9
      go_wp2_with fail
      refine C2.out.mono ?_
      rintro e w8 ⟨rfl, hw8⟩
      subst hw8
      have hwb : (Wr == 0) = false := by simp; exact h0
      clear C2
      go_wp2
      go_ret
      exact ⟨by first | rfl | (simp; exact h0), HF.out⟩
    · subst he
      have htl := HRd.out.same h0
      subst htl
      clear HWR CW
      have HNE := hide hn0
      have HI0 : Hid (Inv s s []) := hide ⟨Int.le_refl _, fun _ _ => ⟨rfl, by simp⟩⟩
      have HSM : Hid (∀ s2 got, Inv s s2 got → got.length = K → (samE s2 N0 = 0 ∧ got = s.l) ∨ samE s2 N0 = 17) := hide fun s2 got hi hg => by
        by_cases q : s2.wr = 0 ∧ N0 = 2 * s2.e
        · obtain ⟨q1, q2⟩ := hi.q (by have := q.2; omega) q.1
          exact Or.inl ⟨if_pos q, by rw [q2, hg, ← HTL.out, List.take_length]⟩
        · exact Or.inr (if_neg q)
      have HG0 : Hid (GS w M N T B0 w5.heap.size (.slice (some ⟨gx, 0, none⟩) s.l.length c4) s.l s s.l [] (.slice (some ⟨w5.heap.size, 0, none⟩) 0 0) (w5.alloc (.cells #[] 3))) := hide ⟨HB0.out, hsz4, by simp, HRd.out.below (below1 _ _), HOX.out.alloc _, lit0 w5, fun j hj => (HOX.out.lt j hj).2⟩
      rw [HTL.out] at HG0
      clear hn0 h0 HRd HOX HB0 hsz4
      go_wp2_with fail
      generalize w5.heap.size = B at *
      go_loopw [15, 16, 17] (fun v15 v16 v17 wr => ∃ (k p : Nat) (a : Option Addr) (c : Nat) (s2 : Ws) (tl2 got : List Int), v15 = .slice a k c ∧ v16 = .int .i64 (p : Int) ∧ v17 = .int .i64 (k : Int) ∧ k ≤ K ∧ p ≤ l2 ∧ Hid (got.length = k) ∧ Hid (Okw s2) ∧ Hid (s2.l.length = K) ∧ Hid (Inv s s2 got) ∧ Hid (GS w M N T B0 B (.slice (some ⟨gx, 0, none⟩) K c4) s.l s2 tl2 got (.slice a k c) wr)) (fun _ _ v17 _ => K - (intOf v17).toNat)
      case atStart => exact ⟨0, 0, _, _, s, s.l, [], rfl, rfl, rfl, by omega, by omega, hide rfl, HO, HL, HI0, HG0⟩
      case round =>
        clear HG0 HI0 HO
        obtain ⟨k, p, a, c, s2, tl2, got, rfl, rfl, rfl, hk, hp, HGL, HO, HL2, HI, HG⟩ := hrel
        by_cases q : k < K
        · have q1 : (k : Int) < (K : Int) := by omega
          clear HSM HAW HNE
          go_wp2_with fail
          go_loopw [16, 18] (fun v16 v18 wr => ∃ (p j : Nat) (s2 : Ws) (tl2 : List Int), v16 = .int .i64 (p : Int) ∧ v18 = .int .i64 (j : Int) ∧ p ≤ l2 ∧ j ≤ 3 ∧ Hid (Okw s2) ∧ Hid (s2.l.length = K) ∧ Hid (Inv s s2 got) ∧ Hid (GS w M N T B0 B (.slice (some ⟨gx, 0, none⟩) K c4) s.l s2 tl2 got (.slice a k c) wr)) (fun _ v18 _ => 3 - (intOf v18).toNat)
          case atStart => exact ⟨p, 0, s2, tl2, rfl, rfl, hp, by omega, HO, HL2, HI, HG⟩
          case round =>
            clear HO HL2 HI HG hp
            obtain ⟨p, j, s2, tl2, rfl, rfl, hp, hj, HO, HL2, HI, HG⟩ := hrel
            by_cases qj : j < 3
            · have qj1 : (j : Int) < 3 := by omega
              by_cases qp : p < l2
              · have qp1 : (p : Int) < (l2 : Int) := by omega
                have qp0 : (0 : Int) ≤ (p : Int) := by omega
                obtain ⟨b2, off2, d2, t2, x2, y2, rfl, hlt2, p0, p1, p2, p3, hd⟩ := HA2.out p qp
                have p0' := ((bcell HG.out.rs.low).1 _ _ hlt2).trans p0
                have p1' := ((bcell HG.out.rs.low).1 _ _ hlt2).trans p1
                have p2' := ((bcell HG.out.rs.low).1 _ _ hlt2).trans p2
                have p3' := ((bcell HG.out.rs.low).1 _ _ hlt2).trans p3
                have C1 := hide (write_any w M N T _ s2 tl2 HO.out d2 t2 x2 y2 hd _ HG.out.use)
                rw [HL2.out] at C1
                clear p0 p1 p2 p3 hd
                go_wp2_with fail
                refine C1.out.mono ?_
                rintro e w7 ⟨rfl, s3, tl3, hO3, hS3, hR3, hk3⟩
                have HG3 := hide (HG.out.next hR3 hk3)
                have HO3 := hide hO3
                have HL3 := hide (hS3.1.trans HL2.out)
                have HI3 := hide (HI.out.step hS3)
                clear hR3 hO3 hS3 hk3 p0' p1' p2' p3' HG HO C1 HL2 HI
                go_wp2_with fail
                go_roundw
                case rel => exact ⟨p + 1, j + 1, s3, tl3, by go_num, by go_num, by omega, by omega, HO3, HL3, HI3, HG3⟩
                case measure => simp [intOf]; omega
              · have qp1 : ¬ (p : Int) < (l2 : Int) := by omega
                have C1 := hide (one_word HO.out.l4 (k := k) (by rw [HL2.out]; exact q) HG.out.rs.xs)
                have HI2 := hide (HI.out.read (by rw [HGL.out, HL2.out]; exact q))
                rw [HGL.out] at HI2
                have HAP := hide (fun w5 v' => HG.out.app (ob := .cells #[.int .i64 (gz s2.l k)] 3) (w5 := w5) (v' := v') (g := gz s2.l k))
                rw [HGL.out] at HAP
                have HO1 := hide HG.out.got
                rw [HGL.out] at HO1
                have hB := HG.out.sz
                have HGL2 : Hid ((got ++ [gz s2.l k]).length = k + 1) := hide (by rw [List.length_append, HGL.out]; rfl)
                have hK4 := HK4.out
                clear HG HI
                generalize gz s2.l k = x at *
                go_wp2_with fail
                refine C1.out.mono ?_
                rintro e w7 ⟨rfl, hw7⟩
                subst hw7
                clear C1
                go_wp2_with (at_builtin; refine wpList_append_z _ rfl _ _ rfl B _ k got rfl (HO1.out.alloc _) (some ⟨w7.heap.size, 0, none⟩) 1 1 [x] rfl rfl (one_z (by simp) (by simp)) (by omega) (by simp; omega) ?_)
                intro a8 c8 w8 ho8 hg8
                have HG8 := hide (HAP.out w8 _ hg8 ho8)
                clear ho8 hg8 HAP HO1 hB
                go_wp2_with fail
                go_roundw
                case rel => exact ⟨k + 1, p, a8, c8, s2, tl2, got ++ [x], rfl, rfl, by go_num, by omega, by omega, HGL2, HO, HL2, HI2, HG8⟩
                case measure => simp [intOf]; omega
            · have qj1 : ¬ (j : Int) < 3 := by omega
              have C1 := hide (one_word HO.out.l4 (k := k) (by rw [HL2.out]; exact q) HG.out.rs.xs)
              have HI2 := hide (HI.out.read (by rw [HGL.out, HL2.out]; exact q))
              rw [HGL.out] at HI2
              have HAP := hide (fun w5 v' => HG.out.app (ob := .cells #[.int .i64 (gz s2.l k)] 3) (w5 := w5) (v' := v') (g := gz s2.l k))
              rw [HGL.out] at HAP
              have HO1 := hide HG.out.got
              rw [HGL.out] at HO1
              have hB := HG.out.sz
              have HGL2 : Hid ((got ++ [gz s2.l k]).length = k + 1) := hide (by rw [List.length_append, HGL.out]; rfl)
              have hK4 := HK4.out
              clear HG HI
              generalize gz s2.l k = x at *
              go_wp2_with fail
              refine C1.out.mono ?_
              rintro e w7 ⟨rfl, hw7⟩
              subst hw7
              clear C1
              go_wp2_with (at_builtin; refine wpList_append_z _ rfl _ _ rfl B _ k got rfl (HO1.out.alloc _) (some ⟨w7.heap.size, 0, none⟩) 1 1 [x] rfl rfl (one_z (by simp) (by simp)) (by omega) (by simp; omega) ?_)
              intro a8 c8 w8 ho8 hg8
              have HG8 := hide (HAP.out w8 _ hg8 ho8)
              clear ho8 hg8 HAP HO1 hB
              go_wp2_with fail
              go_roundw
              case rel => exact ⟨k + 1, p, a8, c8, s2, tl2, got ++ [x], rfl, rfl, by go_num, by omega, by omega, HGL2, HO, HL2, HI2, HG8⟩
              case measure => simp [intOf]; omega
        · have ek : k = K := by omega
          subst ek
          have q1 : ¬ (k : Int) < (k : Int) := by omega
          have C1 := hide (x_same N0 HG.out.rs.xs)
          have hcase := HSM.out s2 got HI.out HGL.out
          have HLOW := hide HG.out.rs.low
          clear HSM HI HO HL2 HA2
          generalize samE s2 N0 = E2 at *
          rcases hcase with ⟨e1, e2⟩ | e1
          · subst e1
            subst e2
            have hx5 := HG.out.want
            have hg5 := HG.out.got
            obtain ⟨gg, cg, hv, _, hgl, hgc, _⟩ := row_open hg5 (by rw [HGL.out]; exact HK4.out.1)
            rw [HGL.out] at hv hgc
            injection hv with hv1 _ hv3
            subst hv1
            subst hv3
            rw [← HGL.out] at hx5
            obtain ⟨gx2, cx2, hv, _, hxl, hxc, _⟩ := row_open (l := s.l) (by rw [HGL.out] at hx5 ⊢; exact hx5) (by rw [HGL.out]; exact HK4.out.1)
            rw [HGL.out] at hxc
            injection hv with hv1
            injection hv1 with hv1
            injection hv1 with hv1
            subst hv1
            have HGC := hide hgc
            have HXC := hide hxc
            have hK4 := HK4.out
            clear hx5 hg5 HG hgc hxc
            go_wp2_with fail
            refine C1.out.mono ?_
            rintro e w7 ⟨rfl, hw7⟩
            subst hw7
            clear C1
            go_wp2_with fail
            go_loopw [21] (fun v21 wr => ∃ j : Nat, v21 = .int .i64 (j : Int) ∧ j ≤ k ∧ Hid (Below w7.heap.size w7 wr)) (fun v21 _ => k - (intOf v21).toNat)
            case atStart => exact ⟨0, rfl, by omega, hide (Below.refl _ _)⟩
            case round =>
              obtain ⟨j, rfl, hj, HB⟩ := hrel
              by_cases qj : j < k
              · have j1 : (j : Int) < (k : Int) := by omega
                have j0 : (0 : Int) ≤ (j : Int) := by omega
                have d1 := ((bcell HB.out).1 _ j hgl).trans (HGC.out j qj).1
                have d2 := ((bcell HB.out).1 _ j hxl).trans (HXC.out j qj).1
                clear HGC HXC
                generalize gz s.l j = z at *
                have zz : (z == z) = true := by simp
                go_wp2_with fail
                go_quiet (fail)
                have HB2 := hide (below_next HB.out (below_drewN _ nq))
                generalize World.drewN _ nq = w8 at HB2 ⊢
                clear d1 d2 HB
                go_wp2_with fail
                go_roundw
                case rel => exact ⟨j + 1, by go_num, by omega, HB2⟩
                case measure => simp [intOf]; omega
              · have j1 : ¬ (j : Int) < (k : Int) := by omega
                have HLW := hide (below_next HLOW.out HB.out)
                clear HLOW HB HGC HXC
                go_wp2_with fail
                refine (HAW.out _).mono ?_
                rintro e w9 ⟨rfl, hb⟩
                have HF := hide (below_next HLW.out hb)
                clear hb HAW HLW
                go_wp2
                go_ret
                exact ⟨rfl, HF.out⟩
          · subst e1
            clear HG
            go_wp2_with fail
            refine C1.out.mono ?_
            rintro e w7 ⟨rfl, hw7⟩
            subst hw7
            clear C1
            go_wp2_with fail
            refine (HAW.out _).mono ?_
            rintro e w9 ⟨rfl, hb⟩
            have HF := hide (below_next HLOW.out hb)
            clear hb HAW HLOW
            go_wp2
            go_ret
            exact ⟨rfl, HF.out⟩

end Go.Proofs.Ythadcampbchihaa
