/- FrameTells, walked. -/
import Derived.Test.YtikibkagdjlhoaaFHead
import Derived.Deep.RegionHeld3
namespace Go.Proofs.Ytikibkagdjlhoaa
open Go.RowKit Go.Maps Go.WideMaps Go.Shelf

theorem getF_len (c : List UInt8) : (getF c).1.length ≤ 262144 := by
  rcases getF_err c with h | h
  · exact (getF_step h).2.2
  · rw [h.1]; simp
theorem allAux_len : ∀ (f : Nat) (c : List UInt8) (acc : List (List UInt8)), (allAux f c acc).1.length ≤ acc.length + f
  | 0, c, acc => by simp [allAux]
  | f + 1, c, acc => by
    simp only [allAux]
    split
    · simp
    · split
      · simp
      · have := allAux_len f (c.drop (getF c).2.1) (acc ++ [(getF c).1])
        simp only [List.length_append, List.length_singleton] at this
        omega
theorem allF_len (c : List UInt8) : (allF c).1.length ≤ c.length := by
  have := allAux_len c.length c []
  simpa [allF] using this
theorem wholeAux_len : ∀ (f a : Nat) (c : List UInt8) (acc : List (List UInt8)), (wholeAux f a c acc).1.length ≤ acc.length + f
  | 0, a, c, acc => by simp [wholeAux]
  | f + 1, a, c, acc => by
    simp only [wholeAux]
    split
    · simp
    · split
      · simp
      · have := wholeAux_len f (a + (getF c).2.1) (c.drop (getF c).2.1) (acc ++ [(getF c).1])
        simp only [List.length_append, List.length_singleton] at this
        omega
theorem wholeF_len (c : List UInt8) : (wholeF c).1.length ≤ c.length := by
  have := wholeAux_len c.length 0 c []
  simpa [wholeF] using this
theorem str_later {w : World} {A : Option Addr} {n c : Nat} {l : Nm} (h : BytesIn w A n l) : ∀ w', Below w.heap.size w w' → (convert 22 9 (.slice A n c)).run Try.prog w' = .ok (.string ⟨l.toArray⟩) w' := fun _ hb => str_of (h.below hb) c
theorem see_of {w : World} {base : Nat} {v : Value} {L : List Nm} (h : RowsAt w base v L) (h63 : L.length ≤ maxLen) : ∃ A c, v = .slice A L.length c ∧ RowsSee w A L.length L := by
  have h' := h
  obtain ⟨svs, ho, _⟩ := h'
  obtain ⟨A, c, rfl⟩ := own_slice ho
  exact ⟨A, c, rfl, (RowsAt.see h h63).1⟩

set_option linter.unusedSimpArgs false in
set_option maxHeartbeats 8000000 in
set_option maxRecDepth 100000 in
theorem frameTells_any (w : World) (A : Option Addr) (n c : Nat) (l : Nm) (hl : BytesIn w A n l) (B : Option Addr) (m d : Nat) (k : Nm) (hk : BytesIn w B m k) (hmd : m ≤ d) :
    Calls Try.prog 3 #[.slice A n c, .slice B m d] w fun e w' => e = .returned (.bool true) ∧ Below w.heap.size w w' := by
  have HL := Lib.hid hl
  have HK := Lib.hid hk
  have hn63 : n ≤ 9223372036854775807 := hl.1
  have hm63 : m ≤ 9223372036854775807 := hk.1
  have hkn : k.length = m := by have := hk.2.1.len; simpa using this
  clear hl hk
  obtain ⟨X, y, f, hg⟩ : ∃ X y f, getF k = (X, y, f) := ⟨_, _, _, rfl⟩
  have hXl := getF_len k
  rw [hg] at hXl
  have hXl : X.length ≤ 262144 := hXl
  obtain ⟨P, f2, ha⟩ : ∃ P f2, allF k = (P, f2) := ⟨_, _, rfl⟩
  have hPl := allF_len k
  rw [ha, hkn] at hPl
  have hPl : P.length ≤ m := hPl
  obtain ⟨Q, j, hw⟩ : ∃ Q j, wholeF k = (Q, j) := ⟨_, _, rfl⟩
  have hQl := wholeF_len k
  rw [hw, hkn] at hQl
  have hQl : Q.length ≤ m := hQl
  have HG := Lib.hid hg
  have HA := Lib.hid ha
  have HW := Lib.hid hw
  clear hg ha hw hkn
  go_enter Try.func3, Try.ntmps3
  go_wp2_with fail
  refine (frameHead_any w).mono ?_
  rintro e w1 ⟨rfl, hb⟩
  have B1 := Lib.hid hb
  have L1 := Lib.hid (HL.out.below hb)
  have K1 := Lib.hid (HK.out.below hb)
  clear hb
  by_cases hbig : 300000 < n
  · have hbz : (300000 : Int) < (n : Int) := by omega
    go_wp2
    go_ret
    exact ⟨rfl, B1.out⟩
  have hbz : ¬ (300000 : Int) < (n : Int) := by omega
  by_cases hbig2 : 300000 < m
  · have hbz2 : (300000 : Int) < (m : Int) := by omega
    go_wp2
    go_ret
    exact ⟨rfl, B1.out⟩
  have hbz2 : ¬ (300000 : Int) < (m : Int) := by omega
  go_wp2_with fail
  refine (fGet_any w1 B m d k K1.out hmd (by omega)).mono ?_
  rintro e w2 ⟨v2, rfl, hO, hB⟩
  rw [HG.out] at hO ⊢
  have hO' : w2.ownsRow w1.heap.size 5 1 v2 X.length (X.map byteV) := hO
  obtain ⟨A2, c2, hv⟩ := own_slice hO'
  subst hv
  have I2 := Lib.hid (BytesIn.own hO' (by unfold maxLen; omega))
  have B2 := Lib.hid (below_then B1.out hB B1.out.size)
  have L2 := Lib.hid (L1.out.below hB)
  have K2 := Lib.hid (K1.out.below hB)
  clear hO hO' hB
  go_wp2_with fail
  refine (r4Get_any w2 B m d k K2.out hmd (by omega)).mono ?_
  rintro e w3 ⟨v3, rfl, hO, hB⟩
  rw [HG.out] at hO ⊢
  have hO' : w3.ownsRow w2.heap.size 5 1 v3 X.length (X.map byteV) := hO
  obtain ⟨A3, c3, hv⟩ := own_slice hO'
  subst hv
  have I3 := Lib.hid (BytesIn.own hO' (by unfold maxLen; omega))
  have B3 := Lib.hid (below_then B2.out hB B2.out.size)
  have L3 := Lib.hid (L2.out.below hB)
  have K3 := Lib.hid (K2.out.below hB)
  have I23 := Lib.hid (I2.out.below hB)
  clear hO hO' hB
  go_wp2_with fail
  refine (fAll_any w3 B m d k K3.out hmd (by omega)).mono ?_
  rintro e w4 ⟨v4, rfl, hR, hB⟩
  rw [HA.out] at hR ⊢
  obtain ⟨A4, c4, hv, hsee⟩ := see_of hR (by show P.length ≤ _; unfold maxLen; omega)
  subst hv
  have J4 : Hid (RowsSee w4 A4 P.length P) := Lib.hid hsee
  have B4 := Lib.hid (below_then B3.out hB B3.out.size)
  have L4 := Lib.hid (L3.out.below hB)
  have K4 := Lib.hid (K3.out.below hB)
  replace I23 := Lib.hid (I23.out.below hB)
  replace I3 := Lib.hid (I3.out.below hB)
  clear hR hB hsee
  go_wp2_with fail
  refine (r4All_any w4 B m d k K4.out hmd (by omega)).mono ?_
  rintro e w5 ⟨v5, rfl, hR, hB⟩
  rw [HA.out] at hR ⊢
  obtain ⟨A5, c5, hv, hsee⟩ := see_of hR (by show P.length ≤ _; unfold maxLen; omega)
  subst hv
  have J5 : Hid (RowsSee w5 A5 P.length P) := Lib.hid hsee
  have B5 := Lib.hid (below_then B4.out hB B4.out.size)
  have L5 := Lib.hid (L4.out.below hB)
  have K5 := Lib.hid (K4.out.below hB)
  replace I23 := Lib.hid (I23.out.below hB)
  replace I3 := Lib.hid (I3.out.below hB)
  replace J4 := Lib.hid (J4.out.below hB)
  clear hR hB hsee
  go_wp2_with fail
  refine (fWhole_any w5 B m d k K5.out hmd (by omega)).mono ?_
  rintro e w6 ⟨v6, rfl, hR, hB⟩
  rw [HW.out] at hR ⊢
  obtain ⟨A6, c6, hv, hsee⟩ := see_of hR (by show Q.length ≤ _; unfold maxLen; omega)
  subst hv
  have J6 : Hid (RowsSee w6 A6 Q.length Q) := Lib.hid hsee
  have B6 := Lib.hid (below_then B5.out hB B5.out.size)
  have L6 := Lib.hid (L5.out.below hB)
  have K6 := Lib.hid (K5.out.below hB)
  replace I23 := Lib.hid (I23.out.below hB)
  replace I3 := Lib.hid (I3.out.below hB)
  replace J4 := Lib.hid (J4.out.below hB)
  replace J5 := Lib.hid (J5.out.below hB)
  clear hR hB hsee
  go_wp2_with fail
  refine (r4Whole_any w6 B m d k K6.out hmd (by omega)).mono ?_
  rintro e w7 ⟨v7, rfl, hR, hB⟩
  rw [HW.out] at hR ⊢
  obtain ⟨A7, c7, hv, hsee⟩ := see_of hR (by show Q.length ≤ _; unfold maxLen; omega)
  subst hv
  have J7 : Hid (RowsSee w7 A7 Q.length Q) := Lib.hid hsee
  have B7 := Lib.hid (below_then B6.out hB B6.out.size)
  have L7 := Lib.hid (L6.out.below hB)
  have K7 := Lib.hid (K6.out.below hB)
  replace I23 := Lib.hid (I23.out.below hB)
  replace I3 := Lib.hid (I3.out.below hB)
  replace J4 := Lib.hid (J4.out.below hB)
  replace J5 := Lib.hid (J5.out.below hB)
  replace J6 := Lib.hid (J6.out.below hB)
  clear hR hB hsee
  obtain ⟨F, hF⟩ : ∃ F, F = putF l := ⟨_, rfl⟩
  obtain ⟨N, hN⟩ : ∃ N, N = F.length := ⟨_, rfl⟩
  have hln : l.length = n := by have := HL.out.2.1.len; simpa using this
  have hp10 := putL_len n (by omega)
  have hNl : N ≤ 1000000 := by rw [hN, hF, putF_len, hln]; omega
  have HF := Lib.hid hF
  have HN := Lib.hid hN
  have xy : (X == X) = true := by simp
  have ff : (F == F) = true := by simp
  clear hF hN hln hp10 B1 L1 K1 B2 L2 K2 B3 L3 K3 B4 L4 K4 B5 L5 K5 B6 L6 K6 I2
  go_wp2_with fail
  refine wp_region_held_drew (S := fun w' => Below w7.heap.size w7 w') (by kernel_rfl) ?_ (fun hHeld => ?_)
  · exact (Below.refl _ _).drew
  refine wpAnyH_take (i := 0) (oi := ?oia0) (v := ?va0) ?hia0 (by kernel_rfl) (by kernel_rfl) (by kernel_rfl) ?hQa0 (Or.inl ⟨?hwa0, ?hya0⟩) (by assumption) ?resta0
  case hia0 => (first | (simp only [List.getElem?_toArray, List.getElem?_cons_zero, List.getElem?_cons_succ]; rfl) | rfl)
  case hQa0 => exact fun _ _ _ h => h
  case hwa0 => rfl
  case hya0 => ((intro w hSw; go_simp); first | done | with_reducible rfl)
  try simp only [Act.put, List.setIfInBounds_toArray, List.set_cons_zero, List.set_cons_succ]
  refine wpAnyH_take (i := 1) (oi := ?oia1) (v := ?va1) ?hia1 (by kernel_rfl) (by kernel_rfl) (by kernel_rfl) ?hQa1 (Or.inl ⟨?hwa1, ?hya1⟩) (by assumption) ?resta1
  case hia1 => (first | (simp only [List.getElem?_toArray, List.getElem?_cons_zero, List.getElem?_cons_succ]; rfl) | rfl)
  case hQa1 => exact fun _ _ _ h => h
  case hwa1 => rfl
  case hya1 => ((intro w hSw; go_simp); first | done | with_reducible rfl)
  try simp only [Act.put, List.setIfInBounds_toArray, List.set_cons_zero, List.set_cons_succ]
  refine wpAnyH_take (i := 2) (oi := ?oia2) (v := ?va2) ?hia2 (by kernel_rfl) (by kernel_rfl) (by kernel_rfl) ?hQa2 (Or.inl ⟨?hwa2, ?hya2⟩) (by assumption) ?resta2
  case hia2 => (first | (simp only [List.getElem?_toArray, List.getElem?_cons_zero, List.getElem?_cons_succ]; rfl) | rfl)
  case hQa2 => exact fun _ _ _ h => h
  case hwa2 => rfl
  case hya2 => ((intro w hSw; go_simp); first | done | with_reducible rfl)
  try simp only [Act.put, List.setIfInBounds_toArray, List.set_cons_zero, List.set_cons_succ]
  refine wpAnyH_take (i := 5) (oi := ?oia5) (v := ?va5) ?hia5 (by kernel_rfl) (by kernel_rfl) (by kernel_rfl) ?hQa5 (Or.inl ⟨?hwa5, ?hya5⟩) (by assumption) ?resta5
  case hia5 => (first | (simp only [List.getElem?_toArray, List.getElem?_cons_zero, List.getElem?_cons_succ]; rfl) | rfl)
  case hQa5 => exact fun _ _ _ h => h
  case hwa5 => rfl
  case hya5 => ((intro w hSw; go_simp); first | done | with_reducible rfl)
  try simp only [Act.put, List.setIfInBounds_toArray, List.set_cons_zero, List.set_cons_succ]
  refine wpAnyH_ready (rs := [3]) (by kernel_rfl) (by simp) ?_
  refine AllReadyH.cons (o := ?o1) ?hc1 ?st1 AllReadyH.nil
  case hc1 => (simp only [List.getElem?_toArray, List.getElem?_cons_zero, List.getElem?_cons_succ]; rfl)
  intro K hK
  go_simp
  refine (fPut_any _ A n c l (L7.out.below hHeld) (by omega)).mono ?_
  rintro e w8 ⟨v8, rfl, hO, hB⟩
  rw [← HF.out, ← HN.out] at hO
  obtain ⟨A8, c8, hv⟩ := own_slice hO
  subst hv
  have H8 := Lib.hid (below_then hHeld hB (Below.size hHeld))
  have s8 := str_later (c := c8) (BytesIn.own hO (by unfold maxLen; omega))
  clear hO hB
  go_wp2_with fail
  refine hK.out _ _ H8.out (fun _ => ?_)
  clear hK K
  refine heldMore (S' := fun w' => Below w8.heap.size w8 w' ∧ Below w7.heap.size w7 w') (fun w h => h.2) _ _ _ _ ?_
  have hHeld2 : (fun w' => Below w8.heap.size w8 w' ∧ Below w7.heap.size w7 w') _ := ⟨Below.refl _ _, H8.out⟩
  try simp only [Act.put, List.setIfInBounds_toArray, List.set_cons_zero, List.set_cons_succ]
  refine wpAnyH_take (i := 4) (oi := ?oib4) (v := ?vb4) ?hib4 (by kernel_rfl) (by kernel_rfl) (by kernel_rfl) ?hQb4 (Or.inl ⟨?hwb4, ?hyb4⟩) (by assumption) ?restb4
  case hib4 => (first | (simp only [List.getElem?_toArray, List.getElem?_cons_zero, List.getElem?_cons_succ]; rfl) | rfl)
  case hQb4 => exact fun _ _ _ h => h
  case hwb4 => rfl
  case hyb4 => ((intro w hSw; go_simp); first | done | with_reducible rfl)
  try simp only [Act.put, List.setIfInBounds_toArray, List.set_cons_zero, List.set_cons_succ]
  refine wpAnyH_ready (rs := [6]) (by kernel_rfl) (by simp) ?_
  refine AllReadyH.cons (o := ?o2) ?hc2 ?st2 AllReadyH.nil
  case hc2 => (simp only [List.getElem?_toArray, List.getElem?_cons_zero, List.getElem?_cons_succ]; rfl)
  intro K hK
  go_simp
  refine (r4Put_any _ A n c l (L7.out.below H8.out) (by omega)).mono ?_
  rintro e w9 ⟨v9, rfl, hO, hB⟩
  rw [← HF.out, ← HN.out] at hO
  obtain ⟨A9, c9, hv⟩ := own_slice hO
  subst hv
  have H9 := Lib.hid (below_then H8.out hB (Below.size H8.out))
  have H9b := Lib.hid hB
  have s9 := str_later (c := c9) (BytesIn.own hO (by unfold maxLen; omega))
  have sx := str_later (c := c2) (I23.out.below H9.out)
  have sy := str_later (c := c3) (I3.out.below H9.out)
  clear hO hB
  go_wp2_with fail
  refine hK.out _ _ ⟨H9b.out, H9.out⟩ (fun _ => ?_)
  clear hK K
  refine heldMore (S' := fun w' => Below w9.heap.size w9 w' ∧ Below w7.heap.size w7 w') (fun w h => ⟨below_then H9b.out h.1 H9b.out.size, h.2⟩) _ _ _ _ ?_
  have hHeld3 : (fun w' => Below w9.heap.size w9 w' ∧ Below w7.heap.size w7 w') _ := ⟨Below.refl _ _, H9.out⟩
  try simp only [Act.put, List.setIfInBounds_toArray, List.set_cons_zero, List.set_cons_succ]
  refine wpAnyH_take (i := 7) (oi := ?oic7) (v := ?vc7) ?hic7 (by kernel_rfl) (by kernel_rfl) (by kernel_rfl) ?hQc7 (Or.inl ⟨?hwc7, ?hyc7⟩) (by assumption) ?restc7
  case hic7 => (first | (simp only [List.getElem?_toArray, List.getElem?_cons_zero, List.getElem?_cons_succ]; rfl) | rfl)
  case hQc7 => exact fun _ _ _ h => h
  case hwc7 => rfl
  case hyc7 => ((intro w hSw; go_simp); first | done | with_reducible rfl)
  try simp only [Act.put, List.setIfInBounds_toArray, List.set_cons_zero, List.set_cons_succ]
  refine wpAnyH_take (i := 8) (oi := ?oic8) (v := ?vc8) ?hic8 (by kernel_rfl) (by kernel_rfl) (by kernel_rfl) ?hQc8 (Or.inl ⟨?hwc8, ?hyc8⟩) (by assumption) ?restc8
  case hic8 => (first | (simp only [List.getElem?_toArray, List.getElem?_cons_zero, List.getElem?_cons_succ]; rfl) | rfl)
  case hQc8 => exact fun _ _ _ h => h
  case hwc8 => rfl
  case hyc8 => ((intro w hSw; go_simp); first | done | with_reducible rfl)
  try simp only [Act.put, List.setIfInBounds_toArray, List.set_cons_zero, List.set_cons_succ]
  refine wpAnyH_take (i := 9) (oi := ?oic9) (v := ?vc9) ?hic9 (by kernel_rfl) (by kernel_rfl) (by kernel_rfl) ?hQc9 (Or.inl ⟨?hwc9, ?hyc9⟩) (by assumption) ?restc9
  case hic9 => (first | (simp only [List.getElem?_toArray, List.getElem?_cons_zero, List.getElem?_cons_succ]; rfl) | rfl)
  case hQc9 => exact fun _ _ _ h => h
  case hwc9 => rfl
  case hyc9 => ((intro w hSw; go_simp); first | done | with_reducible rfl)
  try simp only [Act.put, List.setIfInBounds_toArray, List.set_cons_zero, List.set_cons_succ]
  refine wpAnyH_take (i := 10) (oi := ?oic10) (v := ?vc10) ?hic10 (by kernel_rfl) (by kernel_rfl) (by kernel_rfl) ?hQc10 (Or.inl ⟨?hwc10, ?hyc10⟩) (by assumption) ?restc10
  case hic10 => (first | (simp only [List.getElem?_toArray, List.getElem?_cons_zero, List.getElem?_cons_succ]; rfl) | rfl)
  case hQc10 => exact fun _ _ _ h => h
  case hwc10 => rfl
  case hyc10 => ((intro w hSw; go_simp); first | done | with_reducible rfl)
  try simp only [Act.put, List.setIfInBounds_toArray, List.set_cons_zero, List.set_cons_succ]
  refine wpAnyH_take (i := 11) (oi := ?oic11) (v := ?vc11) ?hic11 (by kernel_rfl) (by kernel_rfl) (by kernel_rfl) ?hQc11 (Or.inl ⟨?hwc11, ?hyc11⟩) (by assumption) ?restc11
  case hic11 => (first | (simp only [List.getElem?_toArray, List.getElem?_cons_zero, List.getElem?_cons_succ]; rfl) | rfl)
  case hQc11 => exact fun _ _ _ h => h
  case hwc11 => rfl
  case hyc11 => ((intro w hSw; go_simp); first | done | with_reducible rfl)
  try simp only [Act.put, List.setIfInBounds_toArray, List.set_cons_zero, List.set_cons_succ]
  refine wpAnyH_take (i := 12) (oi := ?oic12) (v := ?vc12) ?hic12 (by kernel_rfl) (by kernel_rfl) (by kernel_rfl) ?hQc12 (Or.inl ⟨?hwc12, ?hyc12⟩) (by assumption) ?restc12
  case hic12 => (first | (simp only [List.getElem?_toArray, List.getElem?_cons_zero, List.getElem?_cons_succ]; rfl) | rfl)
  case hQc12 => exact fun _ _ _ h => h
  case hwc12 => rfl
  case hyc12 => ((intro w hSw; go_simp); first | done | with_reducible rfl)
  try simp only [Act.put, List.setIfInBounds_toArray, List.set_cons_zero, List.set_cons_succ]
  refine wpAnyH_take (i := 13) (oi := ?oic13) (v := ?vc13) ?hic13 (by kernel_rfl) (by kernel_rfl) (by kernel_rfl) ?hQc13 (Or.inl ⟨?hwc13, ?hyc13⟩) (by assumption) ?restc13
  case hic13 => (first | (simp only [List.getElem?_toArray, List.getElem?_cons_zero, List.getElem?_cons_succ]; rfl) | rfl)
  case hQc13 => exact fun _ _ _ h => h
  case hwc13 => rfl
  case hyc13 => ((intro w hSw; go_simp); first | done | with_reducible rfl)
  try simp only [Act.put, List.setIfInBounds_toArray, List.set_cons_zero, List.set_cons_succ]
  refine wpAnyH_take (i := 14) (oi := ?oic14) (v := ?vc14) ?hic14 (by kernel_rfl) (by kernel_rfl) (by kernel_rfl) ?hQc14 (Or.inl ⟨?hwc14, ?hyc14⟩) (by assumption) ?restc14
  case hic14 => (first | (simp only [List.getElem?_toArray, List.getElem?_cons_zero, List.getElem?_cons_succ]; rfl) | rfl)
  case hQc14 => exact fun _ _ _ h => h
  case hwc14 => rfl
  case hyc14 => ((intro w hSw; go_simp); first | done | with_reducible rfl)
  try simp only [Act.put, List.setIfInBounds_toArray, List.set_cons_zero, List.set_cons_succ]
  refine wpAnyH_take (i := 15) (oi := ?oic15) (v := ?vc15) ?hic15 (by kernel_rfl) (by kernel_rfl) (by kernel_rfl) ?hQc15 (Or.inl ⟨?hwc15, ?hyc15⟩) (by assumption) ?restc15
  case hic15 => (first | (simp only [List.getElem?_toArray, List.getElem?_cons_zero, List.getElem?_cons_succ]; rfl) | rfl)
  case hQc15 => exact fun _ _ _ h => h
  case hwc15 => rfl
  case hyc15 => ((intro w hSw; go_simp); first | done | with_reducible rfl)
  try simp only [Act.put, List.setIfInBounds_toArray, List.set_cons_zero, List.set_cons_succ]
  refine wpAnyH_take (i := 16) (oi := ?oic16) (v := ?vc16) ?hic16 (by kernel_rfl) (by kernel_rfl) (by kernel_rfl) ?hQc16 (Or.inl ⟨?hwc16, ?hyc16⟩) (by assumption) ?restc16
  case hic16 => (first | (simp only [List.getElem?_toArray, List.getElem?_cons_zero, List.getElem?_cons_succ]; rfl) | rfl)
  case hQc16 => exact fun _ _ _ h => h
  case hwc16 => rfl
  case hyc16 => ((intro w hSw; go_simp); first | done | with_reducible rfl)
  try simp only [Act.put, List.setIfInBounds_toArray, List.set_cons_zero, List.set_cons_succ]
  refine wpAnyH_take (i := 17) (oi := ?oic17) (v := ?vc17) ?hic17 (by kernel_rfl) (by kernel_rfl) (by kernel_rfl) ?hQc17 (Or.inl ⟨?hwc17, ?hyc17⟩) (by assumption) ?restc17
  case hic17 => (first | (simp only [List.getElem?_toArray, List.getElem?_cons_zero, List.getElem?_cons_succ]; rfl) | rfl)
  case hQc17 => exact fun _ _ _ h => h
  case hwc17 => rfl
  case hyc17 => ((intro w hSw; go_simp); first | done | with_reducible rfl)
  try simp only [Act.put, List.setIfInBounds_toArray, List.set_cons_zero, List.set_cons_succ]
  refine wpAnyH_take (i := 18) (oi := ?oic18) (v := ?vc18) ?hic18 (by kernel_rfl) (by kernel_rfl) (by kernel_rfl) ?hQc18 (Or.inl ⟨?hwc18, ?hyc18⟩) (by assumption) ?restc18
  case hic18 => (first | (simp only [List.getElem?_toArray, List.getElem?_cons_zero, List.getElem?_cons_succ]; rfl) | rfl)
  case hQc18 => exact fun _ _ _ h => h
  case hwc18 => rfl
  case hyc18 => ((intro w hSw; go_simp); first | done | with_reducible rfl)
  try simp only [Act.put, List.setIfInBounds_toArray, List.set_cons_zero, List.set_cons_succ]
  refine wpAnyH_take (i := 19) (oi := ?oic19) (v := ?vc19) ?hic19 (by kernel_rfl) (by kernel_rfl) (by kernel_rfl) ?hQc19 (Or.inl ⟨?hwc19, ?hyc19⟩) (by assumption) ?restc19
  case hic19 => (first | (simp only [List.getElem?_toArray, List.getElem?_cons_zero, List.getElem?_cons_succ]; rfl) | rfl)
  case hQc19 => exact fun _ _ _ h => h
  case hwc19 => rfl
  case hyc19 => ((intro w hSw; go_simp); first | done | with_reducible rfl)
  try simp only [Act.put, List.setIfInBounds_toArray, List.set_cons_zero, List.set_cons_succ]
  refine wpAnyH_take (i := 20) (oi := ?oic20) (v := ?vc20) ?hic20 (by kernel_rfl) (by kernel_rfl) (by kernel_rfl) ?hQc20 (Or.inl ⟨?hwc20, ?hyc20⟩) (by assumption) ?restc20
  case hic20 => (first | (simp only [List.getElem?_toArray, List.getElem?_cons_zero, List.getElem?_cons_succ]; rfl) | rfl)
  case hQc20 => exact fun _ _ _ h => h
  case hwc20 => rfl
  case hyc20 => ((intro w hSw; go_simp); first | done | with_reducible rfl)
  try simp only [Act.put, List.setIfInBounds_toArray, List.set_cons_zero, List.set_cons_succ]
  refine wpAnyH_take (i := 21) (oi := ?oic21) (v := ?vc21) ?hic21 (by kernel_rfl) (by kernel_rfl) (by kernel_rfl) ?hQc21 (Or.inl ⟨?hwc21, ?hyc21⟩) (by assumption) ?restc21
  case hic21 => (first | (simp only [List.getElem?_toArray, List.getElem?_cons_zero, List.getElem?_cons_succ]; rfl) | rfl)
  case hQc21 => exact fun _ _ _ h => h
  case hwc21 => rfl
  case hyc21 => ((intro w hSw; go_simp); first | done | with_reducible rfl)
  try simp only [Act.put, List.setIfInBounds_toArray, List.set_cons_zero, List.set_cons_succ]
  refine wpAnyH_take (i := 22) (oi := ?oic22) (v := ?vc22) ?hic22 (by kernel_rfl) (by kernel_rfl) (by kernel_rfl) ?hQc22 (Or.inl ⟨?hwc22, ?hyc22⟩) (by assumption) ?restc22
  case hic22 => (first | (simp only [List.getElem?_toArray, List.getElem?_cons_zero, List.getElem?_cons_succ]; rfl) | rfl)
  case hQc22 => exact fun _ _ _ h => h
  case hwc22 => rfl
  case hyc22 => ((intro w hSw; go_simp); first | done | with_reducible rfl)
  try simp only [Act.put, List.setIfInBounds_toArray, List.set_cons_zero, List.set_cons_succ]
  refine wpAnyH_take (i := 23) (oi := ?oic23) (v := ?vc23) ?hic23 (by kernel_rfl) (by kernel_rfl) (by kernel_rfl) ?hQc23 (Or.inl ⟨?hwc23, ?hyc23⟩) (by assumption) ?restc23
  case hic23 => (first | (simp only [List.getElem?_toArray, List.getElem?_cons_zero, List.getElem?_cons_succ]; rfl) | rfl)
  case hQc23 => exact fun _ _ _ h => h
  case hwc23 => rfl
  case hyc23 => ((intro w hSw; go_simp); first | done | with_reducible rfl)
  try simp only [Act.put, List.setIfInBounds_toArray, List.set_cons_zero, List.set_cons_succ]
  refine wpAnyH_take (i := 24) (oi := ?oic24) (v := ?vc24) ?hic24 (by kernel_rfl) (by kernel_rfl) (by kernel_rfl) ?hQc24 (Or.inl ⟨?hwc24, ?hyc24⟩) (by assumption) ?restc24
  case hic24 => (first | (simp only [List.getElem?_toArray, List.getElem?_cons_zero, List.getElem?_cons_succ]; rfl) | rfl)
  case hQc24 => exact fun _ _ _ h => h
  case hwc24 => rfl
  case hyc24 => ((intro w hSw; go_simp); first | done | with_reducible rfl)
  try simp only [Act.put, List.setIfInBounds_toArray, List.set_cons_zero, List.set_cons_succ]
  refine wpAnyH_take (i := 25) (oi := ?oic25) (v := ?vc25) ?hic25 (by kernel_rfl) (by kernel_rfl) (by kernel_rfl) ?hQc25 (Or.inl ⟨?hwc25, ?hyc25⟩) (by assumption) ?restc25
  case hic25 => (first | (simp only [List.getElem?_toArray, List.getElem?_cons_zero, List.getElem?_cons_succ]; rfl) | rfl)
  case hQc25 => exact fun _ _ _ h => h
  case hwc25 => rfl
  case hyc25 => ((intro w hSw; go_simp); first | done | with_reducible rfl)
  try simp only [Act.put, List.setIfInBounds_toArray, List.set_cons_zero, List.set_cons_succ]
  refine wpAnyH_take (i := 26) (oi := ?oic26) (v := ?vc26) ?hic26 (by kernel_rfl) (by kernel_rfl) (by kernel_rfl) ?hQc26 (Or.inl ⟨?hwc26, ?hyc26⟩) (by assumption) ?restc26
  case hic26 => (first | (simp only [List.getElem?_toArray, List.getElem?_cons_zero, List.getElem?_cons_succ]; rfl) | rfl)
  case hQc26 => exact fun _ _ _ h => h
  case hwc26 => rfl
  case hyc26 => ((intro w hSw; go_simp); first | done | with_reducible rfl)
  try simp only [Act.put, List.setIfInBounds_toArray, List.set_cons_zero, List.set_cons_succ]
  refine wpAnyH_take (i := 27) (oi := ?oic27) (v := ?vc27) ?hic27 (by kernel_rfl) (by kernel_rfl) (by kernel_rfl) ?hQc27 (Or.inl ⟨?hwc27, ?hyc27⟩) (by assumption) ?restc27
  case hic27 => (first | (simp only [List.getElem?_toArray, List.getElem?_cons_zero, List.getElem?_cons_succ]; rfl) | rfl)
  case hQc27 => exact fun _ _ _ h => h
  case hwc27 => rfl
  case hyc27 => ((intro w hSw; go_simp); first | done | with_reducible rfl)
  try simp only [Act.put, List.setIfInBounds_toArray, List.set_cons_zero, List.set_cons_succ]
  refine wpAnyH_take (i := 28) (oi := ?oic28) (v := ?vc28) ?hic28 (by kernel_rfl) (by kernel_rfl) (by kernel_rfl) ?hQc28 (Or.inl ⟨?hwc28, ?hyc28⟩) (by assumption) ?restc28
  case hic28 => (first | (simp only [List.getElem?_toArray, List.getElem?_cons_zero, List.getElem?_cons_succ]; rfl) | rfl)
  case hQc28 => exact fun _ _ _ h => h
  case hwc28 => rfl
  case hyc28 => ((intro w hSw; go_simp); first | done | with_reducible rfl)
  try simp only [Act.put, List.setIfInBounds_toArray, List.set_cons_zero, List.set_cons_succ]
  refine wpAnyH_take (i := 29) (oi := ?oic29) (v := ?vc29) ?hic29 (by kernel_rfl) (by kernel_rfl) (by kernel_rfl) ?hQc29 (Or.inl ⟨?hwc29, ?hyc29⟩) (by assumption) ?restc29
  case hic29 => (first | (simp only [List.getElem?_toArray, List.getElem?_cons_zero, List.getElem?_cons_succ]; rfl) | rfl)
  case hQc29 => exact fun _ _ _ h => h
  case hwc29 => rfl
  case hyc29 => ((intro w hSw; go_simp); first | done | with_reducible rfl)
  try simp only [Act.put, List.setIfInBounds_toArray, List.set_cons_zero, List.set_cons_succ]
  refine wpAnyH_ready (rs := [30]) (by kernel_rfl) (by simp) ?_
  refine AllReadyH.cons (o := ?o3) ?hc3 ?st3 AllReadyH.nil
  case hc3 => (simp only [List.getElem?_toArray, List.getElem?_cons_zero, List.getElem?_cons_succ]; rfl)
  intro K hK
  go_simp
  refine (r4Same_any _ A4 A5 P.length P.length c4 c5 P P (J4.out.below H9.out) (J5.out.below H9.out)).mono ?_
  rintro e w10 ⟨rfl, q, hw⟩
  rw [hw, decide_eq_true rfl]
  have h910 : Below w9.heap.size w9 (w9.drewN q) := below_drewN (Below.refl _ _) q
  have H10 := Lib.hid (below_then H9.out h910 (Below.size H9.out))
  have H10b := Lib.hid h910
  clear hw w10 h910
  go_wp2_with fail
  refine hK.out _ _ ⟨H10b.out, H10.out⟩ (fun _ => ?_)
  clear hK K
  try simp only [Act.put, List.setIfInBounds_toArray, List.set_cons_zero, List.set_cons_succ]
  have hHeld4 : (fun w' => Below w9.heap.size w9 w' ∧ Below w7.heap.size w7 w') (w9.drewN q) := ⟨H10b.out, H10.out⟩
  refine wpAnyH_take (i := 31) (oi := ?oid31) (v := ?vd31) ?hid31 (by kernel_rfl) (by kernel_rfl) (by kernel_rfl) ?hQd31 (Or.inl ⟨?hwd31, ?hyd31⟩) (by assumption) ?restd31
  case hid31 => (first | (simp only [List.getElem?_toArray, List.getElem?_cons_zero, List.getElem?_cons_succ]; rfl) | rfl)
  case hQd31 => exact fun _ _ _ h => h
  case hwd31 => rfl
  case hyd31 => ((intro w hSw; go_simp); first | done | with_reducible rfl)
  try simp only [Act.put, List.setIfInBounds_toArray, List.set_cons_zero, List.set_cons_succ]
  refine wpAnyH_take (i := 32) (oi := ?oid32) (v := ?vd32) ?hid32 (by kernel_rfl) (by kernel_rfl) (by kernel_rfl) ?hQd32 (Or.inl ⟨?hwd32, ?hyd32⟩) (by assumption) ?restd32
  case hid32 => (first | (simp only [List.getElem?_toArray, List.getElem?_cons_zero, List.getElem?_cons_succ]; rfl) | rfl)
  case hQd32 => exact fun _ _ _ h => h
  case hwd32 => rfl
  case hyd32 => ((intro w hSw; go_simp); first | done | with_reducible rfl)
  try simp only [Act.put, List.setIfInBounds_toArray, List.set_cons_zero, List.set_cons_succ]
  refine wpAnyH_take (i := 33) (oi := ?oid33) (v := ?vd33) ?hid33 (by kernel_rfl) (by kernel_rfl) (by kernel_rfl) ?hQd33 (Or.inl ⟨?hwd33, ?hyd33⟩) (by assumption) ?restd33
  case hid33 => (first | (simp only [List.getElem?_toArray, List.getElem?_cons_zero, List.getElem?_cons_succ]; rfl) | rfl)
  case hQd33 => exact fun _ _ _ h => h
  case hwd33 => rfl
  case hyd33 => ((intro w hSw; go_simp); first | done | with_reducible rfl)
  try simp only [Act.put, List.setIfInBounds_toArray, List.set_cons_zero, List.set_cons_succ]
  refine wpAnyH_take (i := 34) (oi := ?oid34) (v := ?vd34) ?hid34 (by kernel_rfl) (by kernel_rfl) (by kernel_rfl) ?hQd34 (Or.inl ⟨?hwd34, ?hyd34⟩) (by assumption) ?restd34
  case hid34 => (first | (simp only [List.getElem?_toArray, List.getElem?_cons_zero, List.getElem?_cons_succ]; rfl) | rfl)
  case hQd34 => exact fun _ _ _ h => h
  case hwd34 => rfl
  case hyd34 => ((intro w hSw; go_simp); first | done | with_reducible rfl)
  try simp only [Act.put, List.setIfInBounds_toArray, List.set_cons_zero, List.set_cons_succ]
  refine wpAnyH_take (i := 35) (oi := ?oid35) (v := ?vd35) ?hid35 (by kernel_rfl) (by kernel_rfl) (by kernel_rfl) ?hQd35 (Or.inl ⟨?hwd35, ?hyd35⟩) (by assumption) ?restd35
  case hid35 => (first | (simp only [List.getElem?_toArray, List.getElem?_cons_zero, List.getElem?_cons_succ]; rfl) | rfl)
  case hQd35 => exact fun _ _ _ h => h
  case hwd35 => rfl
  case hyd35 => ((intro w hSw; go_simp); first | done | with_reducible rfl)
  try simp only [Act.put, List.setIfInBounds_toArray, List.set_cons_zero, List.set_cons_succ]
  refine wpAnyH_take (i := 36) (oi := ?oid36) (v := ?vd36) ?hid36 (by kernel_rfl) (by kernel_rfl) (by kernel_rfl) ?hQd36 (Or.inl ⟨?hwd36, ?hyd36⟩) (by assumption) ?restd36
  case hid36 => (first | (simp only [List.getElem?_toArray, List.getElem?_cons_zero, List.getElem?_cons_succ]; rfl) | rfl)
  case hQd36 => exact fun _ _ _ h => h
  case hwd36 => rfl
  case hyd36 => ((intro w hSw; go_simp); first | done | with_reducible rfl)
  try simp only [Act.put, List.setIfInBounds_toArray, List.set_cons_zero, List.set_cons_succ]
  refine wpAnyH_take (i := 37) (oi := ?oid37) (v := ?vd37) ?hid37 (by kernel_rfl) (by kernel_rfl) (by kernel_rfl) ?hQd37 (Or.inl ⟨?hwd37, ?hyd37⟩) (by assumption) ?restd37
  case hid37 => (first | (simp only [List.getElem?_toArray, List.getElem?_cons_zero, List.getElem?_cons_succ]; rfl) | rfl)
  case hQd37 => exact fun _ _ _ h => h
  case hwd37 => rfl
  case hyd37 => ((intro w hSw; go_simp); first | done | with_reducible rfl)
  try simp only [Act.put, List.setIfInBounds_toArray, List.set_cons_zero, List.set_cons_succ]
  refine wpAnyH_take (i := 38) (oi := ?oid38) (v := ?vd38) ?hid38 (by kernel_rfl) (by kernel_rfl) (by kernel_rfl) ?hQd38 (Or.inl ⟨?hwd38, ?hyd38⟩) (by assumption) ?restd38
  case hid38 => (first | (simp only [List.getElem?_toArray, List.getElem?_cons_zero, List.getElem?_cons_succ]; rfl) | rfl)
  case hQd38 => exact fun _ _ _ h => h
  case hwd38 => rfl
  case hyd38 => ((intro w hSw; go_simp); first | done | with_reducible rfl)
  try simp only [Act.put, List.setIfInBounds_toArray, List.set_cons_zero, List.set_cons_succ]
  refine wpAnyH_take (i := 39) (oi := ?oid39) (v := ?vd39) ?hid39 (by kernel_rfl) (by kernel_rfl) (by kernel_rfl) ?hQd39 (Or.inl ⟨?hwd39, ?hyd39⟩) (by assumption) ?restd39
  case hid39 => (first | (simp only [List.getElem?_toArray, List.getElem?_cons_zero, List.getElem?_cons_succ]; rfl) | rfl)
  case hQd39 => exact fun _ _ _ h => h
  case hwd39 => rfl
  case hyd39 => ((intro w hSw; go_simp); first | done | with_reducible rfl)
  try simp only [Act.put, List.setIfInBounds_toArray, List.set_cons_zero, List.set_cons_succ]
  refine wpAnyH_ready (rs := [40]) (by kernel_rfl) (by simp) ?_
  refine AllReadyH.cons (o := ?o4) ?hc4 ?st4 AllReadyH.nil
  case hc4 => (simp only [List.getElem?_toArray, List.getElem?_cons_zero, List.getElem?_cons_succ]; rfl)
  intro K hK
  go_simp
  refine (r4Same_any _ A6 A7 Q.length Q.length c6 c7 Q Q (J6.out.below H10.out) (J7.out.below H10.out)).mono ?_
  rintro e w10 ⟨rfl, q2, hw⟩
  rw [hw, decide_eq_true rfl]
  have h911 : Below w9.heap.size w9 (w9.drewN (q + q2)) := below_drewN (Below.refl _ _) _
  have H11 := Lib.hid (below_then H9.out h911 (Below.size H9.out))
  have H11b := Lib.hid h911
  clear hw w10 h911
  go_wp2_with fail
  refine hK.out _ _ ⟨H11b.out, H11.out⟩ (fun _ => ?_)
  clear hK K
  try simp only [Act.put, List.setIfInBounds_toArray, List.set_cons_zero, List.set_cons_succ]
  have hHeld5 : (fun w' => Below w9.heap.size w9 w' ∧ Below w7.heap.size w7 w') (w9.drewN (q + q2)) := ⟨H11b.out, H11.out⟩
  refine wpAnyH_take (i := 41) (oi := ?oie41) (v := ?ve41) ?hie41 (by kernel_rfl) (by kernel_rfl) (by kernel_rfl) ?hQe41 (Or.inl ⟨?hwe41, ?hye41⟩) (by assumption) ?reste41
  case hie41 => (first | (simp only [List.getElem?_toArray, List.getElem?_cons_zero, List.getElem?_cons_succ]; rfl) | rfl)
  case hQe41 => exact fun _ _ _ h => h
  case hwe41 => rfl
  case hye41 => ((intro w hSw; go_simp); first | done | with_reducible rfl)
  try simp only [Act.put, List.setIfInBounds_toArray, List.set_cons_zero, List.set_cons_succ]
  refine wpAnyH_take (i := 42) (oi := ?oie42) (v := ?ve42) ?hie42 (by kernel_rfl) (by kernel_rfl) (by kernel_rfl) ?hQe42 (Or.inl ⟨?hwe42, ?hye42⟩) (by assumption) ?reste42
  case hie42 => (first | (simp only [List.getElem?_toArray, List.getElem?_cons_zero, List.getElem?_cons_succ]; rfl) | rfl)
  case hQe42 => exact fun _ _ _ h => h
  case hwe42 => rfl
  case hye42 => ((intro w hSw; go_simp); first | done | with_reducible rfl)
  try simp only [Act.put, List.setIfInBounds_toArray, List.set_cons_zero, List.set_cons_succ]
  refine wpAnyH_take (i := 43) (oi := ?oie43) (v := ?ve43) ?hie43 (by kernel_rfl) (by kernel_rfl) (by kernel_rfl) ?hQe43 (Or.inl ⟨?hwe43, ?hye43⟩) (by assumption) ?reste43
  case hie43 => (first | (simp only [List.getElem?_toArray, List.getElem?_cons_zero, List.getElem?_cons_succ]; rfl) | rfl)
  case hQe43 => exact fun _ _ _ h => h
  case hwe43 => rfl
  case hye43 => ((intro w hSw; go_simp); first | done | with_reducible rfl)
  try simp only [Act.put, List.setIfInBounds_toArray, List.set_cons_zero, List.set_cons_succ]
  refine wpAnyH_take (i := 44) (oi := ?oie44) (v := ?ve44) ?hie44 (by kernel_rfl) (by kernel_rfl) (by kernel_rfl) ?hQe44 (Or.inl ⟨?hwe44, ?hye44⟩) (by assumption) ?reste44
  case hie44 => (first | (simp only [List.getElem?_toArray, List.getElem?_cons_zero, List.getElem?_cons_succ]; rfl) | rfl)
  case hQe44 => exact fun _ _ _ h => h
  case hwe44 => rfl
  case hye44 => ((intro w hSw; go_simp); first | done | with_reducible rfl)
  try simp only [Act.put, List.setIfInBounds_toArray, List.set_cons_zero, List.set_cons_succ]
  refine wpAnyH_take (i := 45) (oi := ?oie45) (v := ?ve45) ?hie45 (by kernel_rfl) (by kernel_rfl) (by kernel_rfl) ?hQe45 (Or.inl ⟨?hwe45, ?hye45⟩) (by assumption) ?reste45
  case hie45 => (first | (simp only [List.getElem?_toArray, List.getElem?_cons_zero, List.getElem?_cons_succ]; rfl) | rfl)
  case hQe45 => exact fun _ _ _ h => h
  case hwe45 => rfl
  case hye45 => ((intro w hSw; go_simp); first | done | with_reducible rfl)
  try simp only [Act.put, List.setIfInBounds_toArray, List.set_cons_zero, List.set_cons_succ]
  refine wpAnyH_take (i := 46) (oi := ?oie46) (v := ?ve46) ?hie46 (by kernel_rfl) (by kernel_rfl) (by kernel_rfl) ?hQe46 (Or.inl ⟨?hwe46, ?hye46⟩) (by assumption) ?reste46
  case hie46 => (first | (simp only [List.getElem?_toArray, List.getElem?_cons_zero, List.getElem?_cons_succ]; rfl) | rfl)
  case hQe46 => exact fun _ _ _ h => h
  case hwe46 => rfl
  case hye46 => ((intro w hSw; go_simp); first | done | with_reducible rfl)
  try simp only [Act.put, List.setIfInBounds_toArray, List.set_cons_zero, List.set_cons_succ]
  refine wpAnyH_take (i := 47) (oi := ?oie47) (v := ?ve47) ?hie47 (by kernel_rfl) (by kernel_rfl) (by kernel_rfl) ?hQe47 (Or.inl ⟨?hwe47, ?hye47⟩) (by assumption) ?reste47
  case hie47 => (first | (simp only [List.getElem?_toArray, List.getElem?_cons_zero, List.getElem?_cons_succ]; rfl) | rfl)
  case hQe47 => exact fun _ _ _ h => h
  case hwe47 => rfl
  case hye47 => ((intro w hSw; go_simp); first | done | with_reducible rfl)
  try simp only [Act.put, List.setIfInBounds_toArray, List.set_cons_zero, List.set_cons_succ]
  refine wpAnyH_done (by kernel_rfl) ?_ _
  go_wp2
  go_ret
  exact ⟨rfl, below_then B7.out H11.out B7.out.size⟩
end Go.Proofs.Ytikibkagdjlhoaa
