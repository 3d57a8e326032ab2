/- The document's headed. The document's block. The document's Put. -/
import Derived.Test.YtkligdaademakaaZp5
import Derived.Test.YtkligdaademakaaPRef1
import Derived.Test.YtkligdaademakaaLRef1
import Derived.Deep.RegionHeld3
import Derived.Lib.SmallJoins
import Derived.Test.YtkligdaademakaaLRef3
import Derived.Test.YtkligdaademakaaZp6
import Derived.Lib.MinMax
namespace Go.Proofs.Ytkligdaademakaa
open Go.RowKit Go.Maps Go.WideMaps
set_option linter.unusedSimpArgs false

set_option maxHeartbeats 4000000 in
set_option maxRecDepth 100000 in
theorem r9headed_any (w : World) (A B : Option Addr) (n c m cb : Nat) (l : List Pst) (b : Nm) (h : PostsSee w A n l) (hb : BytesIn w B m b) (hm : m ≤ 1099511627776) (f t : Nat) (hf : f ≤ n) (ht0 : 0 < t) (ht : t ≤ n) (hv : lastD l f < (pAt l (t - 1)).1) (hv1 : -1 ≤ lastD l f) (hv2 : (pAt l (t - 1)).1 ≤ 4294967296) :
    Calls Try.prog 47 #[.slice A n c, .int .i64 f, .int .i64 t, .slice B m cb] w fun e w' => ∃ v, e = .returned v ∧ w'.ownsRow w.heap.size 5 1 v (headB l f t b ++ b).length ((headB l f t b ++ b).map byteV) ∧ Below w.heap.size w w' := by
  obtain ⟨i0, hi, hz0, hz1, hz2⟩ := info_parts byteInfo
  have hbl : b.length = m := by have := hb.2.1.len; simpa using this
  have hn63 : n ≤ 9223372036854775807 := h.fit
  obtain ⟨k, hk⟩ : ∃ k, t = k + 1 := ⟨t - 1, by omega⟩
  have hw1 : IntKind.i64.wrap ((t : Int) - 1) = (k : Int) := by rw [show (t : Int) - 1 = (k : Int) by omega]; exact IntWalk.i64_in _ (by omega)
  have k0 : (0 : Int) ≤ (k : Int) := by omega
  have k1 : (k : Int) < (n : Int) := by omega
  obtain ⟨ad, x, B0, c0, rfl, hx, -, a0, -, -, -⟩ := h.at k (by omega)
  have hpx : pAt l (t - 1) = x := by rw [hk, Nat.add_sub_cancel]; exact pAt_eq hx
  obtain ⟨p, hp⟩ : ∃ p, p = lastD l f := ⟨_, rfl⟩
  obtain ⟨d, hd⟩ : ∃ d : Nat, d = (x.1 - p - 1).toNat := ⟨_, rfl⟩
  have hH : headB l f t b = putL d ++ putL m := by unfold headB; rw [hpx, ← hp, ← hd, hbl]
  rw [hpx, ← hp] at hv
  rw [hpx] at hv2
  rw [← hp] at hv1
  have hw2 : IntKind.i64.wrap (x.1 - p) = x.1 - p := IntWalk.i64_in _ (by omega)
  have hw3 : IntKind.i64.wrap (x.1 - p - 1) = (d : Int) := by rw [IntWalk.i64_in _ (by omega)]; omega
  have hw4 : IntKind.u64.wrap (d : Int) = (d : Int) := IntWalk.u64_in _ (by omega)
  have hw5 : IntKind.u64.wrap (m : Int) = (m : Int) := IntWalk.u64_in _ (by omega)
  have hlast := r9last_any w (some ad) n c l h f hf
  rw [← hp] at hlast
  have hd64 : d < 18446744073709551616 := by omega
  have HP := Lib.hid h
  have HB := Lib.hid hb
  have HBL := Lib.hid hbl
  have HH := Lib.hid hH
  have HLP := Lib.hid (fun q => by have h1 := r9last_any (w.drewN q) (some ad) n c l (h.drewN q) f hf; rw [← hp] at h1; exact h1 : ∀ q : Nat, Calls Try.prog 57 #[.slice (some ad) n c, .int .i64 f] (w.drewN q) fun e w' => e = .returned (.int .i64 p) ∧ w' = w.drewN q)
  have HD := Lib.hid hd
  obtain ⟨x1, x2⟩ := x
  simp only at a0 hw2 hw3 hv hv2
  rw [hH]
  clear h hb hbl hk hx hpx hp hd hlast hH hv hv1 hv2
  go_enter Try.func47, Try.ntmps47
  go_wp2_with fail
  refine wp_region_held_drew (S := fun w' => w'.cell? (ad.add (k * 2)) = some (.int .i64 x1)) (by kernel_rfl) ?_ (fun hHeld => ?_)
  · exact a0
  refine wpAnyH_take (i := 0) (oi := ?oix1) (v := ?vx1) ?hix1 (by kernel_rfl) (by kernel_rfl) (by kernel_rfl) ?hQx1 (Or.inl ⟨?hwx1, ?hyx1⟩) (by assumption) ?restx1
  case hix1 => (first | (simp only [List.getElem?_toArray, List.getElem?_cons_zero, List.getElem?_cons_succ]; rfl) | rfl)
  case hQx1 => exact fun _ _ _ h => h
  case hwx1 => rfl
  case hyx1 => ((intro w hSw; go_simp); first | done | with_reducible rfl)
  try simp only [Act.put, List.setIfInBounds_toArray, List.set_cons_zero, List.set_cons_succ]
  refine wpAnyH_take (i := 1) (oi := ?oix2) (v := ?vx2) ?hix2 (by kernel_rfl) (by kernel_rfl) (by kernel_rfl) ?hQx2 (Or.inl ⟨?hwx2, ?hyx2⟩) (by assumption) ?restx2
  case hix2 => (first | (simp only [List.getElem?_toArray, List.getElem?_cons_zero, List.getElem?_cons_succ]; rfl) | rfl)
  case hQx2 => exact fun _ _ _ h => h
  case hwx2 => rfl
  case hyx2 => ((intro w hSw; go_simp); first | done | with_reducible rfl)
  try simp only [Act.put, List.setIfInBounds_toArray, List.set_cons_zero, List.set_cons_succ]
  refine wpAnyH_take (i := 2) (oi := ?oix3) (v := ?vx3) ?hix3 (by kernel_rfl) (by kernel_rfl) (by kernel_rfl) ?hQx3 (Or.inl ⟨?hwx3, ?hyx3⟩) (by assumption) ?restx3
  case hix3 => (first | (simp only [List.getElem?_toArray, List.getElem?_cons_zero, List.getElem?_cons_succ]; rfl) | rfl)
  case hQx3 => exact fun _ _ _ h => h
  case hwx3 => rfl
  case hyx3 => ((intro w hSw; go_simp); first | done | with_reducible rfl)
  try simp only [Act.put, List.setIfInBounds_toArray, List.set_cons_zero, List.set_cons_succ]
  refine wpAnyH_take (i := 3) (oi := ?oix4) (v := ?vx4) ?hix4 (by kernel_rfl) (by kernel_rfl) (by kernel_rfl) ?hQx4 (Or.inl ⟨?hwx4, ?hyx4⟩) (by assumption) ?restx4
  case hix4 => (first | (simp only [List.getElem?_toArray, List.getElem?_cons_zero, List.getElem?_cons_succ]; rfl) | rfl)
  case hQx4 => exact fun _ _ _ h => h
  case hwx4 => rfl
  case hyx4 => ((intro w hSw; go_simp); first | done | with_reducible rfl)
  try simp only [Act.put, List.setIfInBounds_toArray, List.set_cons_zero, List.set_cons_succ]
  refine wpAnyH_take (i := 4) (oi := ?oix5) (v := ?vx5) ?hix5 (by kernel_rfl) (by kernel_rfl) (by kernel_rfl) ?hQx5 (Or.inl ⟨?hwx5, ?hyx5⟩) (by assumption) ?restx5
  case hix5 => (first | (simp only [List.getElem?_toArray, List.getElem?_cons_zero, List.getElem?_cons_succ]; rfl) | rfl)
  case hQx5 => exact fun _ _ _ h => h
  case hwx5 => rfl
  case hyx5 => ((intro w hSw; go_simp); first | done | with_reducible rfl)
  try simp only [Act.put, List.setIfInBounds_toArray, List.set_cons_zero, List.set_cons_succ]
  refine wpAnyH_take (i := 5) (oi := ?oix6) (v := ?vx6) ?hix6 (by kernel_rfl) (by kernel_rfl) (by kernel_rfl) ?hQx6 (Or.inl ⟨?hwx6, ?hyx6⟩) (by assumption) ?restx6
  case hix6 => (first | (simp only [List.getElem?_toArray, List.getElem?_cons_zero, List.getElem?_cons_succ]; rfl) | rfl)
  case hQx6 => exact fun _ _ _ h => h
  case hwx6 => rfl
  case hyx6 => ((intro w hSw; have hSw1 := hSw; go_simp); first | done | with_reducible rfl)
  try simp only [Act.put, List.setIfInBounds_toArray, List.set_cons_zero, List.set_cons_succ]
  refine wpAnyH_take (i := 6) (oi := ?oix7) (v := ?vx7) ?hix7 (by kernel_rfl) (by kernel_rfl) (by kernel_rfl) ?hQx7 (Or.inl ⟨?hwx7, ?hyx7⟩) (by assumption) ?restx7
  case hix7 => (first | (simp only [List.getElem?_toArray, List.getElem?_cons_zero, List.getElem?_cons_succ]; rfl) | rfl)
  case hQx7 => exact fun _ _ _ h => h
  case hwx7 => rfl
  case hyx7 => ((intro w hSw; go_simp); first | done | with_reducible rfl)
  try simp only [Act.put, List.setIfInBounds_toArray, List.set_cons_zero, List.set_cons_succ]
  refine wpAnyH_take (i := 7) (oi := ?oix8) (v := ?vx8) ?hix8 (by kernel_rfl) (by kernel_rfl) (by kernel_rfl) ?hQx8 (Or.inl ⟨?hwx8, ?hyx8⟩) (by assumption) ?restx8
  case hix8 => (first | (simp only [List.getElem?_toArray, List.getElem?_cons_zero, List.getElem?_cons_succ]; rfl) | rfl)
  case hQx8 => exact fun _ _ _ h => h
  case hwx8 => rfl
  case hyx8 => ((intro w hSw; go_simp); first | done | with_reducible rfl)
  try simp only [Act.put, List.setIfInBounds_toArray, List.set_cons_zero, List.set_cons_succ]
  refine wpAnyH_ready (rs := [8]) (by kernel_rfl) (by simp) ?_
  refine AllReadyH.cons (o := ?oc1) ?hcc1 ?stc1 AllReadyH.nil
  case hcc1 => (simp only [List.getElem?_toArray, List.getElem?_cons_zero, List.getElem?_cons_succ]; rfl)
  intro K hK
  go_simp
  refine (HLP.out 1).mono ?_
  rintro e w8 ⟨rfl, rfl⟩
  go_wp2_with fail
  refine hK.out _ _ a0 (fun hHeld2 => ?_)
  clear hK K
  try simp only [Act.put, List.setIfInBounds_toArray, List.set_cons_zero, List.set_cons_succ]
  refine wpAnyH_take (i := 9) (oi := ?oix9) (v := ?vx9) ?hix9 (by kernel_rfl) (by kernel_rfl) (by kernel_rfl) ?hQx9 (Or.inl ⟨?hwx9, ?hyx9⟩) (by assumption) ?restx9
  case hix9 => (first | (simp only [List.getElem?_toArray, List.getElem?_cons_zero, List.getElem?_cons_succ]; rfl) | rfl)
  case hQx9 => exact fun _ _ _ h => h
  case hwx9 => rfl
  case hyx9 => ((intro w hSw; go_simp); first | done | with_reducible rfl)
  try simp only [Act.put, List.setIfInBounds_toArray, List.set_cons_zero, List.set_cons_succ]
  refine wpAnyH_take (i := 10) (oi := ?oix10) (v := ?vx10) ?hix10 (by kernel_rfl) (by kernel_rfl) (by kernel_rfl) ?hQx10 (Or.inl ⟨?hwx10, ?hyx10⟩) (by assumption) ?restx10
  case hix10 => (first | (simp only [List.getElem?_toArray, List.getElem?_cons_zero, List.getElem?_cons_succ]; rfl) | rfl)
  case hQx10 => exact fun _ _ _ h => h
  case hwx10 => rfl
  case hyx10 => ((intro w hSw; go_simp); first | done | with_reducible rfl)
  try simp only [Act.put, List.setIfInBounds_toArray, List.set_cons_zero, List.set_cons_succ]
  refine wpAnyH_take (i := 11) (oi := ?oix11) (v := ?vx11) ?hix11 (by kernel_rfl) (by kernel_rfl) (by kernel_rfl) ?hQx11 (Or.inl ⟨?hwx11, ?hyx11⟩) (by assumption) ?restx11
  case hix11 => (first | (simp only [List.getElem?_toArray, List.getElem?_cons_zero, List.getElem?_cons_succ]; rfl) | rfl)
  case hQx11 => exact fun _ _ _ h => h
  case hwx11 => rfl
  case hyx11 => ((intro w hSw; go_simp); first | done | with_reducible rfl)
  try simp only [Act.put, List.setIfInBounds_toArray, List.set_cons_zero, List.set_cons_succ]
  refine wpAnyH_ready (rs := [12]) (by kernel_rfl) (by simp) ?_
  refine AllReadyH.cons (o := ?oc2) ?hcc2 ?stc2 AllReadyH.nil
  case hcc2 => (simp only [List.getElem?_toArray, List.getElem?_cons_zero, List.getElem?_cons_succ]; rfl)
  intro K hK
  go_simp
  refine (r3Put_any _ d hd64).mono ?_
  rintro e w9 ⟨v9, rfl, ho9, hb9⟩
  have HB9 : Hid (Below w.heap.size w w9) := Lib.hid (below_then (below_drewN (Below.refl w.heap.size w) 1) hb9 (Nat.le_refl _))
  have HO9 : Hid (w9.ownsRow w.heap.size 5 1 v9 (putL d).length ((putL d).map byteV)) := Lib.hid ho9
  clear ho9 hb9
  go_wp2_with fail
  refine hK.out _ _ (below_cells HB9.out a0) (fun hHeld3 => ?_)
  clear hK K
  try simp only [Act.put, List.setIfInBounds_toArray, List.set_cons_zero, List.set_cons_succ]
  refine wpAnyH_take (i := 13) (oi := ?oix12) (v := ?vx12) ?hix12 (by kernel_rfl) (by kernel_rfl) (by kernel_rfl) ?hQx12 (Or.inl ⟨?hwx12, ?hyx12⟩) (by assumption) ?restx12
  case hix12 => (first | (simp only [List.getElem?_toArray, List.getElem?_cons_zero, List.getElem?_cons_succ]; rfl) | rfl)
  case hQx12 => exact fun _ _ _ h => h
  case hwx12 => rfl
  case hyx12 => ((intro w hSw; go_simp); first | done | with_reducible rfl)
  try simp only [Act.put, List.setIfInBounds_toArray, List.set_cons_zero, List.set_cons_succ]
  refine wpAnyH_done (by kernel_rfl) ?_ _
  clear hHeld hHeld2 hHeld3
  obtain ⟨X9, c9, hv9, hc9⟩ := own_cap HO9.out
  subst hv9
  have hdl := putL_len d (by omega)
  have hml := putL_len m (by omega)
  go_wp2_with fail
  refine (r3Put_any _ m (by omega)).mono ?_
  rintro e w10 ⟨v10, rfl, ho10, hb10⟩
  obtain ⟨X10, c10, hv10, hc10⟩ := own_cap ho10
  subst hv10
  have HB10 := Lib.hid (below_then HB9.out hb10 HB9.out.size)
  have HO10 := Lib.hid (ownsRow_block HO9.out (fun g hg => hb10.block g (HO9.out.lt g hg).2))
  have HP10 := Lib.hid (src_of_own ho10)
  clear ho10 hb10
  go_wp2_with (at_builtin; refine wpList_append_src _ rfl (.tmp 23) (.tmp 27) 46 rfl w.heap.size 5 i0 (.int .u8 0) 1 Try.underlying46 hi hz0 hz1 hz2 rfl _ (putL d).length _ rfl HO10.out _ (putL m).length _ _ rfl HP10.out (u8_one (putL m)) (by unfold maxLen; omega) (by omega) HB10.out.size ?_; intro v11 w11 hown hgrow _; obtain ⟨X11, c11, hv11⟩ := own_slice hown; subst hv11; rw [← List.map_append] at hown; have HO11 := Lib.hid hown; have HB11 := Lib.hid (HB10.out.grown hgrow HB10.out.size (fun g hg => (HO10.out.lt g hg).1)); clear hown hgrow; go_wp2_with (at_builtin; refine wpList_append_src _ rfl (.tmp 29) (.tmp 30) 46 rfl w.heap.size 5 i0 (.int .u8 0) 1 Try.underlying46 hi hz0 hz1 hz2 rfl _ _ _ rfl HO11.out B m cb _ rfl (HB.out.below HB11.out).2.1 (u8_one b) (by unfold maxLen; omega) (by omega) HB11.out.size ?_; intro v12 w12 hown hgrow _; obtain ⟨X12, c12, hv12⟩ := own_slice hown; subst hv12; rw [← List.map_append] at hown; have HO12 := Lib.hid hown; have HB12 := Lib.hid (HB11.out.grown hgrow HB11.out.size (fun g hg => (HO11.out.lt g hg).1)); clear hown hgrow))
  go_ret
  refine ⟨_, rfl, ?_, HB12.out⟩
  have e1 : (putL d ++ putL m ++ b).length = (putL d).length + (putL m).length + m := by rw [List.length_append, List.length_append, HBL.out]
  rw [e1]
  exact HO12.out
end Go.Proofs.Ytkligdaademakaa
namespace Go.Proofs.Ytkligdaademakaa
open Go.RowKit Go.Maps Go.WideMaps
set_option linter.unusedSimpArgs false

set_option maxHeartbeats 8000000 in
set_option maxRecDepth 100000 in
theorem r9block_any (w : World) (A : Option Addr) (n c : Nat) (l : List Pst) (h : PostsSee w A n l) (hV : ValidP l) (f t : Nat) (hft : f ≤ t) (ht : t ≤ n) :
    Calls Try.prog 48 #[.slice A n c, .int .i64 f, .int .i64 t] w fun e w' => ∃ v, e = .returned v ∧ w'.ownsRow w.heap.size 5 1 v (cat (unitB l) f (t - f)).length ((cat (unitB l) f (t - f)).map byteV) ∧ Below w.heap.size w w' := by
  obtain ⟨i0, hi, hz0, hz1, hz2⟩ := info_parts byteInfo
  have HP := Lib.hid h
  have HV := Lib.hid hV
  have HLEN := Lib.hid h.len
  have hn4 : n ≤ 4096 := by have := hV.few; rw [h.len] at this; exact this
  clear h hV
  go_enter Try.func48, Try.ntmps48
  go_wp2
  go_loopw [7, 8] (fun v i wr => ∃ k : Nat, f + k ≤ t ∧ i = .int .i64 (f + k : Nat) ∧ wr.ownsRow w.heap.size 5 1 v (cat (unitB l) f k).length ((cat (unitB l) f k).map byteV) ∧ Below w.heap.size w wr) (fun _ i _ => t - (intOf i).toNat)
  case atStart => exact ⟨0, by omega, rfl, ⟨rfl, .inl ⟨rfl, rfl⟩⟩, Below.refl _ _⟩
  case round =>
    obtain ⟨k, hk, rfl, hO, hB⟩ := hrel
    have HO := Lib.hid hO
    have HB := Lib.hid hB
    clear hO hB
    obtain ⟨j, hj⟩ : ∃ j, j = f + k := ⟨_, rfl⟩
    rw [← hj] at hk ⊢
    obtain ⟨Av, cv, hv⟩ := own_slice HO.out
    subst hv
    rcases Nat.lt_or_ge j t with hlt | hge
    · have hlt' : (j : Int) < (t : Int) := by omega
      have p0 : (0 : Int) ≤ (j : Int) := by omega
      have p1 : (j : Int) < (n : Int) := by omega
      have hw5 : IntKind.i64.wrap ((j : Int) + 1) = (j : Int) + 1 := IntWalk.i64_in _ (by omega)
      obtain ⟨pa, x, SA, da, rfl, hx, -, a0, a1, -, sa⟩ := (HP.out.below HB.out).at j (by omega)
      have hpx := pAt_eq hx
      have hjl : j < l.length := by have := HLEN.out; omega
      have hmem := pAt_mem hjl
      have hun : unitB l j = putL ((pAt l j).1 - lastD l j - 1).toNat ++ (putR (poss (pAt l j).2) ++ putR (atss (pAt l j).2)) := rfl
      have v1 := HV.out.up j hjl
      have v2 := (HV.out.docs _ hmem).2
      have v3 := (HV.out.last (i := j) (by omega)).1
      have v4 := HV.out.pos _ hmem
      have v5 := HV.out.at_ _ hmem
      have v6 := poss_le (HV.out.fit _ hmem)
      have v7 := HV.out.spots _ hmem
      have v8 := units_len HV.out (i := f) (k := k) (by omega)
      rw [hpx] at v1 v2 v4 v5 v6 v7 hun
      obtain ⟨x1, x2⟩ := x
      simp only at a0 a1 sa v1 v2 v4 v5 v6 v7 hun
      obtain ⟨p, hp⟩ : ∃ p, p = lastD l j := ⟨_, rfl⟩
      rw [← hp] at v1 v3 hun
      obtain ⟨d, hd⟩ : ∃ d : Nat, d = (x1 - p - 1).toNat := ⟨_, rfl⟩
      rw [← hd] at hun
      have hcat : cat (unitB l) f (k + 1) = cat (unitB l) f k ++ unitB l j := by rw [cat, hj]
      obtain ⟨M, hM⟩ : ∃ M, M = cat (unitB l) f k := ⟨_, rfl⟩
      rw [← hM] at HO v8 hcat ⊢
      have hMl : M.length ≤ 368640000 := by have : 90000 * k ≤ 90000 * 4096 := Nat.mul_le_mul_left _ (by omega); omega
      have hw2 : IntKind.i64.wrap (x1 - p) = x1 - p := IntWalk.i64_in _ (by omega)
      have hw3 : IntKind.i64.wrap (x1 - p - 1) = (d : Int) := by rw [IntWalk.i64_in _ (by omega)]; omega
      have hw4 : IntKind.u64.wrap (d : Int) = (d : Int) := IntWalk.u64_in _ (by omega)
      have hd64 : d < 18446744073709551616 := by omega
      have hlp : ∀ q : Nat, Calls Try.prog 57 #[.slice (some pa) n c, .int .i64 j] (wr.drewN q) fun e w' => e = .returned (.int .i64 p) ∧ w' = wr.drewN q := fun q => by
        have h1 := r9last_any (wr.drewN q) (some pa) n c l ((HP.out.below HB.out).drewN q) j (by omega)
        rw [← hp] at h1
        exact h1
      have HLP := Lib.hid hlp
      have HX := Lib.hid hx
      have HSA := Lib.hid sa
      have HUN := Lib.hid hun
      have HCAT := Lib.hid hcat
      have HJ := Lib.hid hj
      have HV4 := Lib.hid v4
      have HV5 := Lib.hid v5
      have HV6 := Lib.hid v6
      have hpl := putR_len (by rw [(poss_len x2).1]; exact v7) v4 v6.1
      have hal := putR_len (by rw [(poss_len x2).2]; exact v7) v5 v6.2
      have hdl := putL_len d (by omega)
      clear hx hpx hmem hun hcat hM hj hlp sa v1 v2 v3 v4 v5 v6 v8 hp hd
      go_wp2_with fail
      refine wp_region_held_drew (S := fun w' => w'.cell? (pa.add (j * 2)) = some (.int .i64 x1)) (by kernel_rfl) ?_ (fun hHeld => ?_)
      · exact a0
      refine wpAnyH_take (i := 0) (oi := ?oix1) (v := ?vx1) ?hix1 (by kernel_rfl) (by kernel_rfl) (by kernel_rfl) ?hQx1 (Or.inl ⟨?hwx1, ?hyx1⟩) (by assumption) ?restx1
      case hix1 => (first | (simp only [List.getElem?_toArray, List.getElem?_cons_zero, List.getElem?_cons_succ]; rfl) | rfl)
      case hQx1 => exact fun _ _ _ h => h
      case hwx1 => rfl
      case hyx1 => ((intro w hSw; go_simp); first | done | with_reducible rfl)
      try simp only [Act.put, List.setIfInBounds_toArray, List.set_cons_zero, List.set_cons_succ]
      refine wpAnyH_take (i := 1) (oi := ?oix2) (v := ?vx2) ?hix2 (by kernel_rfl) (by kernel_rfl) (by kernel_rfl) ?hQx2 (Or.inl ⟨?hwx2, ?hyx2⟩) (by assumption) ?restx2
      case hix2 => (first | (simp only [List.getElem?_toArray, List.getElem?_cons_zero, List.getElem?_cons_succ]; rfl) | rfl)
      case hQx2 => exact fun _ _ _ h => h
      case hwx2 => rfl
      case hyx2 => ((intro w hSw; go_simp); first | done | with_reducible rfl)
      try simp only [Act.put, List.setIfInBounds_toArray, List.set_cons_zero, List.set_cons_succ]
      refine wpAnyH_take (i := 2) (oi := ?oix3) (v := ?vx3) ?hix3 (by kernel_rfl) (by kernel_rfl) (by kernel_rfl) ?hQx3 (Or.inl ⟨?hwx3, ?hyx3⟩) (by assumption) ?restx3
      case hix3 => (first | (simp only [List.getElem?_toArray, List.getElem?_cons_zero, List.getElem?_cons_succ]; rfl) | rfl)
      case hQx3 => exact fun _ _ _ h => h
      case hwx3 => rfl
      case hyx3 => ((intro w hSw; go_simp); first | done | with_reducible rfl)
      try simp only [Act.put, List.setIfInBounds_toArray, List.set_cons_zero, List.set_cons_succ]
      refine wpAnyH_take (i := 3) (oi := ?oix4) (v := ?vx4) ?hix4 (by kernel_rfl) (by kernel_rfl) (by kernel_rfl) ?hQx4 (Or.inl ⟨?hwx4, ?hyx4⟩) (by assumption) ?restx4
      case hix4 => (first | (simp only [List.getElem?_toArray, List.getElem?_cons_zero, List.getElem?_cons_succ]; rfl) | rfl)
      case hQx4 => exact fun _ _ _ h => h
      case hwx4 => rfl
      case hyx4 => ((intro w hSw; go_simp); first | done | with_reducible rfl)
      try simp only [Act.put, List.setIfInBounds_toArray, List.set_cons_zero, List.set_cons_succ]
      refine wpAnyH_take (i := 4) (oi := ?oix5) (v := ?vx5) ?hix5 (by kernel_rfl) (by kernel_rfl) (by kernel_rfl) ?hQx5 (Or.inl ⟨?hwx5, ?hyx5⟩) (by assumption) ?restx5
      case hix5 => (first | (simp only [List.getElem?_toArray, List.getElem?_cons_zero, List.getElem?_cons_succ]; rfl) | rfl)
      case hQx5 => exact fun _ _ _ h => h
      case hwx5 => rfl
      case hyx5 => ((intro w hSw; go_simp); first | done | with_reducible rfl)
      try simp only [Act.put, List.setIfInBounds_toArray, List.set_cons_zero, List.set_cons_succ]
      refine wpAnyH_take (i := 5) (oi := ?oix6) (v := ?vx6) ?hix6 (by kernel_rfl) (by kernel_rfl) (by kernel_rfl) ?hQx6 (Or.inl ⟨?hwx6, ?hyx6⟩) (by assumption) ?restx6
      case hix6 => (first | (simp only [List.getElem?_toArray, List.getElem?_cons_zero, List.getElem?_cons_succ]; rfl) | rfl)
      case hQx6 => exact fun _ _ _ h => h
      case hwx6 => rfl
      case hyx6 => ((intro w hSw; go_simp); first | done | with_reducible rfl)
      try simp only [Act.put, List.setIfInBounds_toArray, List.set_cons_zero, List.set_cons_succ]
      refine wpAnyH_take (i := 6) (oi := ?oix7) (v := ?vx7) ?hix7 (by kernel_rfl) (by kernel_rfl) (by kernel_rfl) ?hQx7 (Or.inl ⟨?hwx7, ?hyx7⟩) (by assumption) ?restx7
      case hix7 => (first | (simp only [List.getElem?_toArray, List.getElem?_cons_zero, List.getElem?_cons_succ]; rfl) | rfl)
      case hQx7 => exact fun _ _ _ h => h
      case hwx7 => rfl
      case hyx7 => ((intro w hSw; go_simp); first | done | with_reducible rfl)
      try simp only [Act.put, List.setIfInBounds_toArray, List.set_cons_zero, List.set_cons_succ]
      refine wpAnyH_take (i := 7) (oi := ?oix8) (v := ?vx8) ?hix8 (by kernel_rfl) (by kernel_rfl) (by kernel_rfl) ?hQx8 (Or.inl ⟨?hwx8, ?hyx8⟩) (by assumption) ?restx8
      case hix8 => (first | (simp only [List.getElem?_toArray, List.getElem?_cons_zero, List.getElem?_cons_succ]; rfl) | rfl)
      case hQx8 => exact fun _ _ _ h => h
      case hwx8 => rfl
      case hyx8 => ((intro w hSw; go_simp); first | done | with_reducible rfl)
      try simp only [Act.put, List.setIfInBounds_toArray, List.set_cons_zero, List.set_cons_succ]
      refine wpAnyH_ready (rs := [8]) (by kernel_rfl) (by simp) ?_
      refine AllReadyH.cons (o := ?oa) ?hca ?sta AllReadyH.nil
      case hca => (simp only [List.getElem?_toArray, List.getElem?_cons_zero, List.getElem?_cons_succ]; rfl)
      intro K hK
      go_simp
      refine (HLP.out 1).mono ?_
      rintro e w8 ⟨rfl, rfl⟩
      go_wp2_with fail
      refine hK.out _ _ a0 (fun hHeld2 => ?_)
      clear hK K
      try simp only [Act.put, List.setIfInBounds_toArray, List.set_cons_zero, List.set_cons_succ]
      refine wpAnyH_take (i := 9) (oi := ?oix9) (v := ?vx9) ?hix9 (by kernel_rfl) (by kernel_rfl) (by kernel_rfl) ?hQx9 (Or.inl ⟨?hwx9, ?hyx9⟩) (by assumption) ?restx9
      case hix9 => (first | (simp only [List.getElem?_toArray, List.getElem?_cons_zero, List.getElem?_cons_succ]; rfl) | rfl)
      case hQx9 => exact fun _ _ _ h => h
      case hwx9 => rfl
      case hyx9 => ((intro w hSw; go_simp); first | done | with_reducible rfl)
      try simp only [Act.put, List.setIfInBounds_toArray, List.set_cons_zero, List.set_cons_succ]
      refine wpAnyH_take (i := 10) (oi := ?oix10) (v := ?vx10) ?hix10 (by kernel_rfl) (by kernel_rfl) (by kernel_rfl) ?hQx10 (Or.inl ⟨?hwx10, ?hyx10⟩) (by assumption) ?restx10
      case hix10 => (first | (simp only [List.getElem?_toArray, List.getElem?_cons_zero, List.getElem?_cons_succ]; rfl) | rfl)
      case hQx10 => exact fun _ _ _ h => h
      case hwx10 => rfl
      case hyx10 => ((intro w hSw; go_simp); first | done | with_reducible rfl)
      try simp only [Act.put, List.setIfInBounds_toArray, List.set_cons_zero, List.set_cons_succ]
      refine wpAnyH_take (i := 11) (oi := ?oix11) (v := ?vx11) ?hix11 (by kernel_rfl) (by kernel_rfl) (by kernel_rfl) ?hQx11 (Or.inl ⟨?hwx11, ?hyx11⟩) (by assumption) ?restx11
      case hix11 => (first | (simp only [List.getElem?_toArray, List.getElem?_cons_zero, List.getElem?_cons_succ]; rfl) | rfl)
      case hQx11 => exact fun _ _ _ h => h
      case hwx11 => rfl
      case hyx11 => ((intro w hSw; go_simp); first | done | with_reducible rfl)
      try simp only [Act.put, List.setIfInBounds_toArray, List.set_cons_zero, List.set_cons_succ]
      refine wpAnyH_ready (rs := [12]) (by kernel_rfl) (by simp) ?_
      refine AllReadyH.cons (o := ?ob) ?hcb ?stb AllReadyH.nil
      case hcb => (simp only [List.getElem?_toArray, List.getElem?_cons_zero, List.getElem?_cons_succ]; rfl)
      intro K hK
      go_simp
      refine (r3Put_any _ d hd64).mono ?_
      rintro e w9 ⟨v9, rfl, ho9, hb9⟩
      have hb9' := below_then (below_drewN (Below.refl wr.heap.size wr) 1) hb9 (Nat.le_refl _)
      have HR9 := Lib.hid hb9'
      have HB9 := Lib.hid (below_then HB.out hb9' HB.out.size)
      have HO9 := Lib.hid (ownsRow_block HO.out (fun g hg => hb9'.block g (HO.out.lt g hg).2))
      obtain ⟨X9, c9, hv9⟩ := own_slice ho9
      subst hv9
      have HP9 := Lib.hid (src_of_own ho9)
      clear ho9 hb9 hb9'
      go_wp2_with fail
      refine hK.out _ _ (below_cells HR9.out a0) (fun hHeld3 => ?_)
      clear hK K
      try simp only [Act.put, List.setIfInBounds_toArray, List.set_cons_zero, List.set_cons_succ]
      refine wpAnyH_ready (rs := [13]) (by kernel_rfl) (by simp) ?_
      refine AllReadyH.cons (o := ?oc) ?hcc ?stc AllReadyH.nil
      case hcc => (simp only [List.getElem?_toArray, List.getElem?_cons_zero, List.getElem?_cons_succ]; rfl)
      intro K hK
      refine step_append_src _ rfl (.tmp 19) (.tmp 31) 46 rfl w.heap.size 5 i0 (.int .u8 0) 1 Try.underlying46 hi hz0 hz1 hz2 rfl _ M.length _ rfl HO9.out X9 (putL d).length c9 _ rfl HP9.out (u8_one (putL d)) (by unfold maxLen; omega) (by omega) HB9.out.size ?_
      intro v10 w10 hown hgrow _
      rw [← List.map_append] at hown
      have HB10 := Lib.hid (HB9.out.grown hgrow HB9.out.size (fun g hg => (HO9.out.lt g hg).1))
      have HO10 := Lib.hid hown
      clear hown hgrow
      obtain ⟨X10, c10, hv10⟩ := own_slice HO10.out
      subst hv10
      obtain ⟨pb, x', SB, db, hpb, hx', -, b0, b1, -, sb⟩ := (HP.out.below HB10.out).at j (by omega)
      obtain rfl : pa = pb := Option.some.inj hpb
      obtain rfl : (x1, x2) = x' := by have h1 := HX.out; rw [hx'] at h1; exact (Option.some.inj h1).symm
      simp only at b0 b1 sb
      refine hK.out _ _ b0 (fun hHeld4 => ?_)
      clear hK K hpb hx' a0 a1
      try simp only [Act.put, List.setIfInBounds_toArray, List.set_cons_zero, List.set_cons_succ]
      refine wpAnyH_take (i := 14) (oi := ?oix12) (v := ?vx12) ?hix12 (by kernel_rfl) (by kernel_rfl) (by kernel_rfl) ?hQx12 (Or.inl ⟨?hwx12, ?hyx12⟩) (by assumption) ?restx12
      case hix12 => (first | (simp only [List.getElem?_toArray, List.getElem?_cons_zero, List.getElem?_cons_succ]; rfl) | rfl)
      case hQx12 => exact fun _ _ _ h => h
      case hwx12 => rfl
      case hyx12 => ((intro w hSw; go_simp); first | done | with_reducible rfl)
      try simp only [Act.put, List.setIfInBounds_toArray, List.set_cons_zero, List.set_cons_succ]
      refine wpAnyH_done (by kernel_rfl) ?_ _
      clear hHeld hHeld2 hHeld3 hHeld4 b0
      have SSB := Lib.hid sb
      clear sb
      go_wp2_with fail
      refine (r9pos_any _ SB x2.length db x2 SSB.out (by omega)).mono ?_
      rintro e w11 ⟨v11, rfl, ho11, hb11⟩
      obtain ⟨X11, c11, hv11⟩ := own_slice ho11
      subst hv11
      have HB11 := Lib.hid (below_then HB10.out hb11 HB10.out.size)
      have HO11 := Lib.hid (ownsRow_block HO10.out (fun g hg => hb11.block g (HO10.out.lt g hg).2))
      have hi11 : IntsIn w11 X11 x2.length (poss x2) := IntsIn.own ho11 (by unfold maxLen; omega) (fun y hy => by have h1 := rises_low HV4.out y hy; have h2 := HV6.out.1 y hy; omega)
      have HI11 := Lib.hid hi11
      clear ho11 hb11 hi11
      go_wp2_with fail
      refine (r3PutRising_any _ X11 x2.length c11 (poss x2) HI11.out (by omega)).mono ?_
      rintro e w12 ⟨v12, z12, rfl, hb12, hcase⟩
      have HB12 := Lib.hid (below_then HB11.out hb12 HB11.out.size)
      have HO12 := Lib.hid (ownsRow_block HO11.out (fun g hg => hb12.block g (HO11.out.lt g hg).2))
      rcases hcase with ⟨-, rfl, hq12⟩ | ⟨hno, -, -⟩
      case inr => rw [HV4.out] at hno; cases hno
      obtain ⟨X12, c12, hv12⟩ := own_slice hq12
      subst hv12
      have HQ12 := Lib.hid (BytesIn.own hq12 (by unfold maxLen; omega))
      clear hb12 hq12
      obtain ⟨pc, x', SC, dc, hpc, hx', -, -, b2, -, sc⟩ := (HP.out.below HB12.out).at j (by omega)
      obtain rfl : pa = pc := Option.some.inj hpc
      obtain rfl : (x1, x2) = x' := by have h1 := HX.out; rw [hx'] at h1; exact (Option.some.inj h1).symm
      simp only at b2 sc
      have SSC := Lib.hid sc
      clear hpc hx' sc
      go_wp2_with fail
      refine (r9at_any _ SC x2.length dc x2 SSC.out (by omega)).mono ?_
      rintro e w13 ⟨v13, rfl, ho13, hb13⟩
      obtain ⟨X13, c13, hv13⟩ := own_slice ho13
      subst hv13
      have HB13 := Lib.hid (below_then HB12.out hb13 HB12.out.size)
      have HO13 := Lib.hid (ownsRow_block HO12.out (fun g hg => hb13.block g (HO12.out.lt g hg).2))
      have HQ13 := Lib.hid (HQ12.out.below hb13)
      have hi13 : IntsIn w13 X13 x2.length (atss x2) := IntsIn.own ho13 (by unfold maxLen; omega) (fun y hy => by have h1 := rises_low HV5.out y hy; have h2 := HV6.out.2 y hy; omega)
      have HI13 := Lib.hid hi13
      clear ho13 hb13 hi13
      go_wp2_with fail
      refine (r3PutRising_any _ X13 x2.length c13 (atss x2) HI13.out (by omega)).mono ?_
      rintro e w14 ⟨v14, z14, rfl, hb14, hcase⟩
      have HB14 := Lib.hid (below_then HB13.out hb14 HB13.out.size)
      have HO14 := Lib.hid (ownsRow_block HO13.out (fun g hg => hb14.block g (HO13.out.lt g hg).2))
      have HQ14 := Lib.hid (HQ13.out.below hb14)
      rcases hcase with ⟨-, rfl, hq14⟩ | ⟨hno, -, -⟩
      case inr => rw [HV5.out] at hno; cases hno
      obtain ⟨X14, c14, hv14⟩ := own_slice hq14
      subst hv14
      have HA14 := Lib.hid (BytesIn.own hq14 (by unfold maxLen; omega))
      have hne : ∀ ad, X14 = some ad → (Value.slice X10 (M.length + (putL d).length) c10).ownBlock ≠ some ad.block := fun ad e e2 => by
        have h1 := (hq14.lt ad.block (by rw [e]; rfl)).1
        have h2 := (HO13.out.lt ad.block e2).2
        omega
      have HNE := Lib.hid hne
      clear hne
      clear hb14 hq14
      go_wp2_with (at_builtin; refine wpList_append_src _ rfl (.tmp 53) (.tmp 54) 46 rfl w.heap.size 5 i0 (.int .u8 0) 1 Try.underlying46 hi hz0 hz1 hz2 rfl _ _ _ rfl HO14.out X12 (putR (poss x2)).length c12 _ rfl HQ14.out.2.1 (u8_one _) (by unfold maxLen; omega) (by omega) HB14.out.size ?_; intro v15 w15 hown hgrow _; obtain ⟨X15, c15, hv15⟩ := own_slice hown; subst hv15; rw [← List.map_append] at hown; have HO15 := Lib.hid hown; have HB15 := Lib.hid (HB14.out.grown hgrow HB14.out.size (fun g hg => (HO14.out.lt g hg).1)); have HA15 := Lib.hid (BytesIn.grownOther HA14.out hgrow HNE.out); clear hown hgrow; go_wp2_with (at_builtin; refine wpList_append_src _ rfl (.tmp 55) (.tmp 56) 46 rfl w.heap.size 5 i0 (.int .u8 0) 1 Try.underlying46 hi hz0 hz1 hz2 rfl _ _ _ rfl HO15.out X14 (putR (atss x2)).length c14 _ rfl HA15.out.2.1 (u8_one _) (by unfold maxLen; omega) (by omega) HB15.out.size ?_; intro v16 w16 hown hgrow _; obtain ⟨X16, c16, hv16⟩ := own_slice hown; subst hv16; rw [← List.map_append] at hown; have HO16 := Lib.hid hown; have HB16 := Lib.hid (HB15.out.grown hgrow HB15.out.size (fun g hg => (HO15.out.lt g hg).1)); clear hown hgrow))
      go_roundw
      case rel =>
        refine ⟨k + 1, by have := HJ.out; omega, by rw [show ((f + (k + 1) : Nat) : Int) = (j : Int) + 1 by have := HJ.out; omega], ?_, HB16.out⟩
        have e : M ++ (putL d ++ (putR (poss x2) ++ putR (atss x2))) = M ++ putL d ++ putR (poss x2) ++ putR (atss x2) := by simp [List.append_assoc]
        rw [HCAT.out, HUN.out, e]
        simp only [List.length_append]
        exact HO16.out
      case measure => simp [intOf]; omega
    · obtain rfl : j = t := by omega
      have hlz : ¬ ((j : Int) < (j : Int)) := by omega
      have hkk : j - f = k := by omega
      go_wp2
      go_ret
      refine ⟨_, rfl, ?_, HB.out⟩
      first | (rw [hkk]; exact HO.out) | exact HO.out
end Go.Proofs.Ytkligdaademakaa
namespace Go.Proofs.Ytkligdaademakaa
open Go.RowKit Go.Maps Go.WideMaps
set_option linter.unusedSimpArgs false

set_option maxHeartbeats 8000000 in
set_option maxRecDepth 100000 in
theorem r9Put_any (w : World) (A : Option Addr) (n c : Nat) (l : List Pst) (h : PostsSee w A n l) (hn : n ≤ 9223372036854775807) :
    Calls Try.prog 24 #[.slice A n c] w (PutPOut w l) := by
  obtain ⟨i0, hi, hz0, hz1, hz2⟩ := info_parts byteInfo
  have HP := Lib.hid h
  have HLEN := Lib.hid h.len
  have HCK := Lib.hid (r9Check_any w A n c l h hn)
  have hok := check_ok (fit_of h)
  unfold PutPOut putE
  obtain ⟨R, hR⟩ : ∃ R, R = checkP l := ⟨_, rfl⟩
  rw [← hR] at HCK hok ⊢
  clear h hR
  by_cases h0 : R = 0
  · have hV := hok.1 h0
    rw [if_pos h0]
    subst h0
    have HV := Lib.hid hV
    have hn4 : n ≤ 4096 := by have := hV.few; rw [HLEN.out] at this; exact this
    have hn64 : n < 18446744073709551616 := by omega
    have hw4 : IntKind.u64.wrap (n : Int) = (n : Int) := IntWalk.u64_in _ (by omega)
    have hnl := putL_len n (by omega)
    clear hok hV
    go_enter Try.func24, Try.ntmps24
    go_wp2_with fail
    refine HCK.out.mono ?_
    rintro e w1 ⟨rfl, hb1⟩
    have HB1 := Lib.hid hb1
    clear hb1
    go_wp2_with fail
    refine (r3Put_any _ n hn64).mono ?_
    rintro e w2 ⟨v2, rfl, ho2, hb2⟩
    have HB2 := Lib.hid (below_then HB1.out hb2 HB1.out.size)
    have HO2 := Lib.hid (rowBase_le ho2 HB1.out.size)
    clear ho2 hb2
    go_wp2
    go_loopw [5, 6] (fun v i wr => ∃ I : Nat, I % 16 = 0 ∧ I ≤ n + 15 ∧ i = .int .i64 I ∧ wr.ownsRow w.heap.size 5 1 v (putL n ++ cat (lin l) 0 (min n I)).length ((putL n ++ cat (lin l) 0 (min n I)).map byteV) ∧ Below w.heap.size w wr) (fun _ i _ => n + 16 - (intOf i).toNat)
    case atStart => exact ⟨0, rfl, by omega, rfl, by simpa [cat] using HO2.out, HB2.out⟩
    case round =>
      obtain ⟨I, hI16, hIn, rfl, hO, hB⟩ := hrel
      obtain ⟨wo, hwo⟩ : ∃ z, z = wr := ⟨_, rfl⟩
      subst hwo
      have HO := Lib.hid hO
      have HB := Lib.hid hB
      clear hO hB
      rcases Nat.lt_or_ge I n with hlt | hge
      · have hlt' : (I : Int) < (n : Int) := by omega
        obtain ⟨E, hE⟩ : ∃ E, E = min n (I + 16) := ⟨_, rfl⟩
        have hw5 : IntKind.i64.wrap ((I : Int) + 16) = (I : Int) + 16 := IntWalk.i64_in _ (by omega)
        have hmin : ∀ w ty, (Builtin.min_ #[3, 3] ty #[.int .i64 (n : Int), .int .i64 ((I : Int) + 16)]).run Try.prog w = .ok (.int .i64 (E : Int)) w := fun w ty => by
          rw [Lib.run_min_ints, show min (n : Int) ((I : Int) + 16) = (E : Int) by omega]
        have hEl : E = min l.length (I + 16) := by rw [HLEN.out]; exact hE
        have hEI : I < E ∧ E ≤ n ∧ E ≤ I + 16 := by omega
        have hEmin : min n (I + 16) = E := hE.symm
        rw [Nat.min_eq_right (Nat.le_of_lt hlt)] at HO
        have HGN := Lib.hid (group_next (l := l) hI16 hEI.1 hEl)
        have HEL := Lib.hid hEl
        have HLL := Lib.hid (lins_len HV.out (i := 0) (k := E) (by rw [HLEN.out]; omega))
        have HEM := Lib.hid hEmin
        clear hE hEl hEmin
        have hIl := hEI.1
        have hEn := hEI.2.1
        have hEI16 := hEI.2.2
        clear hEI
        go_wp2
        go_loopw [8, 9] (fun v k wi => ∃ K : Nat, K % 4 = 0 ∧ I ≤ K ∧ K ≤ I + 16 ∧ (K < E ∨ E ≤ K) ∧ k = .int .i64 K ∧ wi.ownsRow wo.heap.size 5 1 v (cat (linB l) I (min E K - I)).length ((cat (linB l) I (min E K - I)).map byteV) ∧ Below wo.heap.size wo wi) (fun _ k _ => n + 16 - (intOf k).toNat)
        case atStart => exact ⟨I, by omega, by omega, by omega, by omega, rfl, by rw [show min E I - I = 0 by omega]; exact ⟨rfl, .inl ⟨rfl, rfl⟩⟩, Below.refl _ _⟩
        case round =>
          obtain ⟨K, hK4, hIK, hK16, hcs, rfl, hO2, hB2⟩ := hrel
          have HO2 := Lib.hid hO2
          have HB2' := Lib.hid hB2
          have HBW := Lib.hid (below_then HB.out hB2 HB.out.size)
          clear hO2 hB2
          obtain ⟨Av, cv, hv⟩ := own_slice HO2.out
          subst hv
          rcases Nat.lt_or_ge K E with hlt2 | hge2
          · have hlt2' : (K : Int) < (E : Int) := by omega
            have hmk : min E K = K := Nat.min_eq_right (Nat.le_of_lt hlt2)
            obtain ⟨T, hT⟩ : ∃ T, T = min E (K + 4) := ⟨_, rfl⟩
            have hw6 : IntKind.i64.wrap ((K : Int) + 4) = (K : Int) + 4 := IntWalk.i64_in _ (by omega)
            have hmin2 : ∀ w ty, (Builtin.min_ #[3, 3] ty #[.int .i64 (E : Int), .int .i64 ((K : Int) + 4)]).run Try.prog w = .ok (.int .i64 (T : Int)) w := fun w ty => by
              rw [Lib.run_min_ints, show min (E : Int) ((K : Int) + 4) = (T : Int) by omega]
            have hTl : T = min l.length (K + 4) := by have := HEL.out; omega
            have hKT : K < T := by omega
            have hTE : T ≤ E := by omega
            have HTm : Hid (min E (K + 4) = T) := Lib.hid hT.symm
            rw [hmk] at HO2
            have HBN := Lib.hid (block_next (l := l) hIK hK4 hKT hTl)
            have hml := linBs_len HV.out (i := I) (k := K - I) (by rw [HLEN.out]; omega)
            obtain ⟨M, hM⟩ : ∃ M, M = cat (linB l) I (K - I) := ⟨_, rfl⟩
            have hMl : M.length ≤ 1440320 := by
              rw [hM]
              have : 90020 * (K - I) ≤ 90020 * 16 := Nat.mul_le_mul_left _ (by omega)
              omega
            have hul := units_len HV.out (i := K) (k := T - K) (by rw [HLEN.out]; omega)
            rw [hmk]
            rw [← hM] at HO2 HBN ⊢
            have HM := Lib.hid hM
            have HBL := Lib.hid (r9block_any wr A n c l (HP.out.below HBW.out) HV.out K T (by omega) (by omega))
            obtain ⟨U, hU⟩ : ∃ U, U = cat (unitB l) K (T - K) := ⟨_, rfl⟩
            have hUl : U.length ≤ 360000 := by
              rw [hU]
              have : 90000 * (T - K) ≤ 90000 * 4 := Nat.mul_le_mul_left _ (by omega)
              omega
            rw [← hU] at HBL HBN
            have hhl := headB_len HV.out (f := K) (t := T) (b := U) (by rw [HLEN.out]; omega) (by rw [HLEN.out]; omega) (by omega)
            have HLT := Lib.hid (HV.out.last_lt hKT (by rw [HLEN.out]; omega))
            have HL1 := Lib.hid (HV.out.last (i := K) (by rw [HLEN.out]; omega)).1
            have HDL := Lib.hid (HV.out.doc_le (t := T) (by omega) (by rw [HLEN.out]; omega))
            clear hT hTl hmk hml hM hul hU
            go_wp2_with fail
            refine HBL.out.mono ?_
            rintro e w3 ⟨v3, rfl, ho3, hb3⟩
            obtain ⟨X3, c3, hv3⟩ := own_slice ho3
            subst hv3
            have HB3 := Lib.hid (below_then HBW.out hb3 HBW.out.size)
            have HV3 := Lib.hid (below_then HB2'.out hb3 HB2'.out.size)
            have HO3 := Lib.hid (ownsRow_block HO2.out (fun g hg => hb3.block g (HO2.out.lt g hg).2))
            have HHD := Lib.hid (r9headed_any w3 A X3 n c U.length c3 l U (HP.out.below HB3.out) (BytesIn.own ho3 (by unfold maxLen; omega)) (by omega) K T (by omega) (by omega) (by omega) HLT.out HL1.out HDL.out)
            clear ho3 hb3
            go_wp2_with fail
            refine HHD.out.mono ?_
            rintro e w4 ⟨v4, rfl, ho4, hb4⟩
            obtain ⟨X4, c4, hv4⟩ := own_slice ho4
            subst hv4
            have HB4 := Lib.hid (below_then HV3.out hb4 HV3.out.size)
            have HO4 := Lib.hid (ownsRow_block HO3.out (fun g hg => hb4.block g (HO3.out.lt g hg).2))
            have HS4 := Lib.hid (src_of_own ho4)
            obtain ⟨Y, hY⟩ : ∃ Y, Y = headB l K T U ++ U := ⟨_, rfl⟩
            rw [← hY] at HS4 HBN
            have hYl : Y.length ≤ 360020 := by rw [hY, List.length_append]; omega
            rw [← hY]
            clear ho4 hb4 hY
            go_wp2_with (at_builtin; refine wpList_append_src _ rfl (.tmp 41) (.tmp 49) 46 rfl wo.heap.size 5 i0 (.int .u8 0) 1 Try.underlying46 hi hz0 hz1 hz2 rfl _ M.length _ rfl HO4.out X4 Y.length c4 _ rfl HS4.out (u8_one Y) (by unfold maxLen; omega) (by omega) HB4.out.size ?_; intro v5 w5 hown hgrow _; rw [← List.map_append] at hown; have HB5 := Lib.hid (HB4.out.grown hgrow HB4.out.size (fun g hg => (HO4.out.lt g hg).1)); have HO5 := Lib.hid hown; clear hown hgrow)
            go_roundw
            case rel =>
              refine ⟨K + 4, by omega, by omega, by omega, by omega, by go_num, ?_, HB5.out⟩
              rw [HTm.out, ← HBN.out, List.length_append]
              exact HO5.out
            case measure => simp [intOf]; omega
          · have hlz : ¬ ((K : Int) < (E : Int)) := by omega
            have hmk : min E K = E := Nat.min_eq_left hge2
            rw [hmk] at HO2 ⊢
            have hml := linBs_len HV.out (i := I) (k := E - I) (by rw [HLEN.out]; omega)
            obtain ⟨Q, hQ⟩ : ∃ Q, Q = cat (linB l) I (E - I) := ⟨_, rfl⟩
            have hQl : Q.length ≤ 1440320 := by
              rw [hQ]
              have : 90020 * (E - I) ≤ 90020 * 16 := Nat.mul_le_mul_left _ (by omega)
              omega
            rw [← hQ] at HO2 HGN ⊢
            have HO2b := Lib.hid (BytesIn.own HO2.out (by unfold maxLen; omega))
            have hhl := headB_len HV.out (f := I) (t := E) (b := Q) (by rw [HLEN.out]; omega) (by rw [HLEN.out]; omega) (by omega)
            have HHD := Lib.hid (r9headed_any wr A Av n c Q.length cv l Q (HP.out.below HBW.out) HO2b.out (by omega) I E (by omega) (by omega) (by omega) (HV.out.last_lt hIl (by rw [HLEN.out]; omega)) (HV.out.last (i := I) (by rw [HLEN.out]; omega)).1 (HV.out.doc_le (t := E) (by omega) (by rw [HLEN.out]; omega)))
            obtain ⟨N, hN⟩ : ∃ N, N = putL n ++ cat (lin l) 0 I := ⟨_, rfl⟩
            have hNl : N.length ≤ 368803860 := by
              have h1 := lins_len HV.out (i := 0) (k := I) (by rw [HLEN.out]; omega)
              have h2 : 90040 * I ≤ 90040 * 4096 := Nat.mul_le_mul_left _ (by omega)
              rw [hN, List.length_append]
              omega
            have hHN : putL n ++ cat (lin l) 0 E = N ++ (headB l I E Q ++ Q) := by rw [hN, List.append_assoc, ← HGN.out]
            rw [← hN] at HO
            have HO3 := Lib.hid (ownsRow_block HO.out (fun g hg => HB2'.out.block g (HO.out.lt g hg).2))
            obtain ⟨Ao, co, hvo⟩ := own_slice HO.out
            subst hvo
            have HHN := Lib.hid hHN
            clear hml hQ hmk hN hHN
            go_wp2_with fail
            refine HHD.out.mono ?_
            rintro e w4 ⟨v4, rfl, ho4, hb4⟩
            obtain ⟨X4, c4, hv4⟩ := own_slice ho4
            subst hv4
            have HB4 := Lib.hid (below_then HBW.out hb4 HBW.out.size)
            have HO4 := Lib.hid (ownsRow_block HO3.out (fun g hg => hb4.block g (HO3.out.lt g hg).2))
            have HS4 := Lib.hid (src_of_own ho4)
            obtain ⟨Y, hY⟩ : ∃ Y, Y = headB l I E Q ++ Q := ⟨_, rfl⟩
            rw [← hY] at HS4 HHN
            have hYl : Y.length ≤ 1440340 := by rw [hY, List.length_append]; omega
            rw [← hY]
            clear ho4 hb4 hY
            go_wp2_with (at_builtin; refine wpList_append_src _ rfl (.tmp 51) (.tmp 56) 46 rfl w.heap.size 5 i0 (.int .u8 0) 1 Try.underlying46 hi hz0 hz1 hz2 rfl _ N.length _ rfl HO4.out X4 Y.length c4 _ rfl HS4.out (u8_one Y) (by unfold maxLen; omega) (by omega) HB4.out.size ?_; intro v5 w5 hown hgrow _; rw [← List.map_append] at hown; have HB5 := Lib.hid (HB4.out.grown hgrow HB4.out.size (fun g hg => (HO4.out.lt g hg).1)); have HO5 := Lib.hid hown; clear hown hgrow)
            refine ⟨⟨I + 16, by omega, by omega, by go_num, ?_, HB5.out⟩, by simp [intOf]; omega⟩
            rw [HEM.out, HHN.out, List.length_append]
            exact HO5.out
      · have hm : min n I = n := Nat.min_eq_left hge
        have hlz : ¬ ((I : Int) < (n : Int)) := by omega
        rw [hm] at HO
        clear hm
        go_wp2
        go_ret2
        refine ⟨_, rfl, ?_, HB.out⟩
        unfold putP
        rw [HLEN.out]
        exact HO.out
  · rw [if_neg h0]
    have d0 : (R == 0) = false := by simpa using h0
    have d1 : (R != 0) = true := by simpa using h0
    clear hok
    go_enter Try.func24, Try.ntmps24
    go_wp2_with fail
    refine HCK.out.mono ?_
    rintro e w1 ⟨rfl, hb1⟩
    go_wp2
    go_ret2
    exact ⟨_, rfl, ⟨rfl, .inl ⟨rfl, rfl⟩⟩, hb1⟩
end Go.Proofs.Ytkligdaademakaa
