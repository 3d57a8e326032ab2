/- The document's headed. -/
import Derived.Test.YtmcoooepoikgjaaPRef2
import Derived.Test.YtmcoooepoikgjaaLRef1
import Derived.Deep.RegionHeld3
import Derived.Lib.SmallJoins
namespace Go.Proofs.Ytmcoooepoikgjaa
open Go.RowKit Go.Maps Go.WideMaps
set_option linter.unusedSimpArgs false

set_option maxHeartbeats 4000000 in
set_option maxRecDepth 100000 in
theorem r9headed_any (w : World) (A B : Option Addr) (n c m cb : Nat) (l : List Pst) (b : Nm) (h : PostsSee w A n l) (hb : BytesIn w B m b) (hm : m ≤ 1099511627776) (f t : Nat) (hf : f ≤ n) (ht0 : 0 < t) (ht : t ≤ n) (hv : lastD l f < (pAt l (t - 1)).1) (hv1 : -1 ≤ lastD l f) (hv2 : (pAt l (t - 1)).1 ≤ 4294967296) :
    Calls Try.prog 25 #[.slice A n c, .int .i64 f, .int .i64 t, .slice B m cb] w fun e w' => ∃ v, e = .returned v ∧ w'.ownsRow w.heap.size 5 1 v (headB l f t b ++ b).length ((headB l f t b ++ b).map byteV) ∧ Below w.heap.size w w' := by
  obtain ⟨i0, hi, hz0, hz1, hz2⟩ := info_parts byteInfo
  have hbl : b.length = m := by have := hb.2.1.len; simpa using this
  have hn63 : n ≤ 9223372036854775807 := h.fit
  obtain ⟨k, hk⟩ : ∃ k, t = k + 1 := ⟨t - 1, by omega⟩
  have hw1 : IntKind.i64.wrap ((t : Int) - 1) = (k : Int) := by rw [show (t : Int) - 1 = (k : Int) by omega]; exact IntWalk.i64_in _ (by omega)
  have k0 : (0 : Int) ≤ (k : Int) := by omega
  have k1 : (k : Int) < (n : Int) := by omega
  obtain ⟨ad, x, B0, c0, rfl, hx, -, a0, -, -, -⟩ := h.at k (by omega)
  have hpx : pAt l (t - 1) = x := by rw [hk, Nat.add_sub_cancel]; exact pAt_eq hx
  obtain ⟨p, hp⟩ : ∃ p, p = lastD l f := ⟨_, rfl⟩
  obtain ⟨d, hd⟩ : ∃ d : Nat, d = (x.1 - p - 1).toNat := ⟨_, rfl⟩
  have hH : headB l f t b = putL d ++ putL m := by unfold headB; rw [hpx, ← hp, ← hd, hbl]
  rw [hpx, ← hp] at hv
  rw [hpx] at hv2
  rw [← hp] at hv1
  have hw2 : IntKind.i64.wrap (x.1 - p) = x.1 - p := IntWalk.i64_in _ (by omega)
  have hw3 : IntKind.i64.wrap (x.1 - p - 1) = (d : Int) := by rw [IntWalk.i64_in _ (by omega)]; omega
  have hw4 : IntKind.u64.wrap (d : Int) = (d : Int) := IntWalk.u64_in _ (by omega)
  have hw5 : IntKind.u64.wrap (m : Int) = (m : Int) := IntWalk.u64_in _ (by omega)
  have hlast := r9last_any w (some ad) n c l h f hf
  rw [← hp] at hlast
  have hd64 : d < 18446744073709551616 := by omega
  have HP := Lib.hid h
  have HB := Lib.hid hb
  have HBL := Lib.hid hbl
  have HH := Lib.hid hH
  have HLP := Lib.hid (fun q => by have h1 := r9last_any (w.drewN q) (some ad) n c l (h.drewN q) f hf; rw [← hp] at h1; exact h1 : ∀ q : Nat, Calls Try.prog 44 #[.slice (some ad) n c, .int .i64 f] (w.drewN q) fun e w' => e = .returned (.int .i64 p) ∧ w' = w.drewN q)
  have HD := Lib.hid hd
  obtain ⟨x1, x2⟩ := x
  simp only at a0 hw2 hw3 hv hv2
  rw [hH]
  clear h hb hbl hk hx hpx hp hd hlast hH hv hv1 hv2
  go_enter Try.func25, Try.ntmps25
  go_wp2_with fail
  refine wp_region_held_drew (S := fun w' => w'.cell? (ad.add (k * 2)) = some (.int .i64 x1)) (by kernel_rfl) ?_ (fun hHeld => ?_)
  · exact a0
  refine wpAnyH_take (i := 0) (oi := ?oix1) (v := ?vx1) ?hix1 (by kernel_rfl) (by kernel_rfl) (by kernel_rfl) ?hQx1 (Or.inl ⟨?hwx1, ?hyx1⟩) (by assumption) ?restx1
  case hix1 => (first | (simp only [List.getElem?_toArray, List.getElem?_cons_zero, List.getElem?_cons_succ]; rfl) | rfl)
  case hQx1 => exact fun _ _ _ h => h
  case hwx1 => rfl
  case hyx1 => ((intro w hSw; go_simp); first | done | with_reducible rfl)
  try simp only [Act.put, List.setIfInBounds_toArray, List.set_cons_zero, List.set_cons_succ]
  refine wpAnyH_take (i := 1) (oi := ?oix2) (v := ?vx2) ?hix2 (by kernel_rfl) (by kernel_rfl) (by kernel_rfl) ?hQx2 (Or.inl ⟨?hwx2, ?hyx2⟩) (by assumption) ?restx2
  case hix2 => (first | (simp only [List.getElem?_toArray, List.getElem?_cons_zero, List.getElem?_cons_succ]; rfl) | rfl)
  case hQx2 => exact fun _ _ _ h => h
  case hwx2 => rfl
  case hyx2 => ((intro w hSw; go_simp); first | done | with_reducible rfl)
  try simp only [Act.put, List.setIfInBounds_toArray, List.set_cons_zero, List.set_cons_succ]
  refine wpAnyH_take (i := 2) (oi := ?oix3) (v := ?vx3) ?hix3 (by kernel_rfl) (by kernel_rfl) (by kernel_rfl) ?hQx3 (Or.inl ⟨?hwx3, ?hyx3⟩) (by assumption) ?restx3
  case hix3 => (first | (simp only [List.getElem?_toArray, List.getElem?_cons_zero, List.getElem?_cons_succ]; rfl) | rfl)
  case hQx3 => exact fun _ _ _ h => h
  case hwx3 => rfl
  case hyx3 => ((intro w hSw; go_simp); first | done | with_reducible rfl)
  try simp only [Act.put, List.setIfInBounds_toArray, List.set_cons_zero, List.set_cons_succ]
  refine wpAnyH_take (i := 3) (oi := ?oix4) (v := ?vx4) ?hix4 (by kernel_rfl) (by kernel_rfl) (by kernel_rfl) ?hQx4 (Or.inl ⟨?hwx4, ?hyx4⟩) (by assumption) ?restx4
  case hix4 => (first | (simp only [List.getElem?_toArray, List.getElem?_cons_zero, List.getElem?_cons_succ]; rfl) | rfl)
  case hQx4 => exact fun _ _ _ h => h
  case hwx4 => rfl
  case hyx4 => ((intro w hSw; go_simp); first | done | with_reducible rfl)
  try simp only [Act.put, List.setIfInBounds_toArray, List.set_cons_zero, List.set_cons_succ]
  refine wpAnyH_take (i := 4) (oi := ?oix5) (v := ?vx5) ?hix5 (by kernel_rfl) (by kernel_rfl) (by kernel_rfl) ?hQx5 (Or.inl ⟨?hwx5, ?hyx5⟩) (by assumption) ?restx5
  case hix5 => (first | (simp only [List.getElem?_toArray, List.getElem?_cons_zero, List.getElem?_cons_succ]; rfl) | rfl)
  case hQx5 => exact fun _ _ _ h => h
  case hwx5 => rfl
  case hyx5 => ((intro w hSw; go_simp); first | done | with_reducible rfl)
  try simp only [Act.put, List.setIfInBounds_toArray, List.set_cons_zero, List.set_cons_succ]
  refine wpAnyH_take (i := 5) (oi := ?oix6) (v := ?vx6) ?hix6 (by kernel_rfl) (by kernel_rfl) (by kernel_rfl) ?hQx6 (Or.inl ⟨?hwx6, ?hyx6⟩) (by assumption) ?restx6
  case hix6 => (first | (simp only [List.getElem?_toArray, List.getElem?_cons_zero, List.getElem?_cons_succ]; rfl) | rfl)
  case hQx6 => exact fun _ _ _ h => h
  case hwx6 => rfl
  case hyx6 => ((intro w hSw; have hSw1 := hSw; go_simp); first | done | with_reducible rfl)
  try simp only [Act.put, List.setIfInBounds_toArray, List.set_cons_zero, List.set_cons_succ]
  refine wpAnyH_take (i := 6) (oi := ?oix7) (v := ?vx7) ?hix7 (by kernel_rfl) (by kernel_rfl) (by kernel_rfl) ?hQx7 (Or.inl ⟨?hwx7, ?hyx7⟩) (by assumption) ?restx7
  case hix7 => (first | (simp only [List.getElem?_toArray, List.getElem?_cons_zero, List.getElem?_cons_succ]; rfl) | rfl)
  case hQx7 => exact fun _ _ _ h => h
  case hwx7 => rfl
  case hyx7 => ((intro w hSw; go_simp); first | done | with_reducible rfl)
  try simp only [Act.put, List.setIfInBounds_toArray, List.set_cons_zero, List.set_cons_succ]
  refine wpAnyH_take (i := 7) (oi := ?oix8) (v := ?vx8) ?hix8 (by kernel_rfl) (by kernel_rfl) (by kernel_rfl) ?hQx8 (Or.inl ⟨?hwx8, ?hyx8⟩) (by assumption) ?restx8
  case hix8 => (first | (simp only [List.getElem?_toArray, List.getElem?_cons_zero, List.getElem?_cons_succ]; rfl) | rfl)
  case hQx8 => exact fun _ _ _ h => h
  case hwx8 => rfl
  case hyx8 => ((intro w hSw; go_simp); first | done | with_reducible rfl)
  try simp only [Act.put, List.setIfInBounds_toArray, List.set_cons_zero, List.set_cons_succ]
  refine wpAnyH_ready (rs := [8]) (by kernel_rfl) (by simp) ?_
  refine AllReadyH.cons (o := ?oc1) ?hcc1 ?stc1 AllReadyH.nil
  case hcc1 => (simp only [List.getElem?_toArray, List.getElem?_cons_zero, List.getElem?_cons_succ]; rfl)
  intro K hK
  go_simp
  refine (HLP.out 1).mono ?_
  rintro e w8 ⟨rfl, rfl⟩
  go_wp2_with fail
  refine hK.out _ _ a0 (fun hHeld2 => ?_)
  clear hK K
  try simp only [Act.put, List.setIfInBounds_toArray, List.set_cons_zero, List.set_cons_succ]
  refine wpAnyH_take (i := 9) (oi := ?oix9) (v := ?vx9) ?hix9 (by kernel_rfl) (by kernel_rfl) (by kernel_rfl) ?hQx9 (Or.inl ⟨?hwx9, ?hyx9⟩) (by assumption) ?restx9
  case hix9 => (first | (simp only [List.getElem?_toArray, List.getElem?_cons_zero, List.getElem?_cons_succ]; rfl) | rfl)
  case hQx9 => exact fun _ _ _ h => h
  case hwx9 => rfl
  case hyx9 => ((intro w hSw; go_simp); first | done | with_reducible rfl)
  try simp only [Act.put, List.setIfInBounds_toArray, List.set_cons_zero, List.set_cons_succ]
  refine wpAnyH_take (i := 10) (oi := ?oix10) (v := ?vx10) ?hix10 (by kernel_rfl) (by kernel_rfl) (by kernel_rfl) ?hQx10 (Or.inl ⟨?hwx10, ?hyx10⟩) (by assumption) ?restx10
  case hix10 => (first | (simp only [List.getElem?_toArray, List.getElem?_cons_zero, List.getElem?_cons_succ]; rfl) | rfl)
  case hQx10 => exact fun _ _ _ h => h
  case hwx10 => rfl
  case hyx10 => ((intro w hSw; go_simp); first | done | with_reducible rfl)
  try simp only [Act.put, List.setIfInBounds_toArray, List.set_cons_zero, List.set_cons_succ]
  refine wpAnyH_take (i := 11) (oi := ?oix11) (v := ?vx11) ?hix11 (by kernel_rfl) (by kernel_rfl) (by kernel_rfl) ?hQx11 (Or.inl ⟨?hwx11, ?hyx11⟩) (by assumption) ?restx11
  case hix11 => (first | (simp only [List.getElem?_toArray, List.getElem?_cons_zero, List.getElem?_cons_succ]; rfl) | rfl)
  case hQx11 => exact fun _ _ _ h => h
  case hwx11 => rfl
  case hyx11 => ((intro w hSw; go_simp); first | done | with_reducible rfl)
  try simp only [Act.put, List.setIfInBounds_toArray, List.set_cons_zero, List.set_cons_succ]
  refine wpAnyH_ready (rs := [12]) (by kernel_rfl) (by simp) ?_
  refine AllReadyH.cons (o := ?oc2) ?hcc2 ?stc2 AllReadyH.nil
  case hcc2 => (simp only [List.getElem?_toArray, List.getElem?_cons_zero, List.getElem?_cons_succ]; rfl)
  intro K hK
  go_simp
  refine (r3Put_any _ d hd64).mono ?_
  rintro e w9 ⟨v9, rfl, ho9, hb9⟩
  have HB9 : Hid (Below w.heap.size w w9) := Lib.hid (below_then (below_drewN (Below.refl w.heap.size w) 1) hb9 (Nat.le_refl _))
  have HO9 : Hid (w9.ownsRow w.heap.size 5 1 v9 (putL d).length ((putL d).map byteV)) := Lib.hid ho9
  clear ho9 hb9
  go_wp2_with fail
  refine hK.out _ _ (below_cells HB9.out a0) (fun hHeld3 => ?_)
  clear hK K
  try simp only [Act.put, List.setIfInBounds_toArray, List.set_cons_zero, List.set_cons_succ]
  refine wpAnyH_take (i := 13) (oi := ?oix12) (v := ?vx12) ?hix12 (by kernel_rfl) (by kernel_rfl) (by kernel_rfl) ?hQx12 (Or.inl ⟨?hwx12, ?hyx12⟩) (by assumption) ?restx12
  case hix12 => (first | (simp only [List.getElem?_toArray, List.getElem?_cons_zero, List.getElem?_cons_succ]; rfl) | rfl)
  case hQx12 => exact fun _ _ _ h => h
  case hwx12 => rfl
  case hyx12 => ((intro w hSw; go_simp); first | done | with_reducible rfl)
  try simp only [Act.put, List.setIfInBounds_toArray, List.set_cons_zero, List.set_cons_succ]
  refine wpAnyH_done (by kernel_rfl) ?_ _
  clear hHeld hHeld2 hHeld3
  obtain ⟨X9, c9, hv9, hc9⟩ := own_cap HO9.out
  subst hv9
  have hdl := putL_len d (by omega)
  have hml := putL_len m (by omega)
  go_wp2_with fail
  refine (r3Put_any _ m (by omega)).mono ?_
  rintro e w10 ⟨v10, rfl, ho10, hb10⟩
  obtain ⟨X10, c10, hv10, hc10⟩ := own_cap ho10
  subst hv10
  have HB10 := Lib.hid (below_then HB9.out hb10 HB9.out.size)
  have HO10 := Lib.hid (ownsRow_block HO9.out (fun g hg => hb10.block g (HO9.out.lt g hg).2))
  have HP10 := Lib.hid (src_of_own ho10)
  clear ho10 hb10
  go_wp2_with (at_builtin; refine wpList_append_src _ rfl (.tmp 23) (.tmp 27) 23 rfl w.heap.size 5 i0 (.int .u8 0) 1 Try.underlying23 hi hz0 hz1 hz2 rfl _ (putL d).length _ rfl HO10.out _ (putL m).length _ _ rfl HP10.out (u8_one (putL m)) (by unfold maxLen; omega) (by omega) HB10.out.size ?_; intro v11 w11 hown hgrow _; obtain ⟨X11, c11, hv11⟩ := own_slice hown; subst hv11; rw [← List.map_append] at hown; have HO11 := Lib.hid hown; have HB11 := Lib.hid (HB10.out.grown hgrow HB10.out.size (fun g hg => (HO10.out.lt g hg).1)); clear hown hgrow; go_wp2_with (at_builtin; refine wpList_append_src _ rfl (.tmp 29) (.tmp 30) 23 rfl w.heap.size 5 i0 (.int .u8 0) 1 Try.underlying23 hi hz0 hz1 hz2 rfl _ _ _ rfl HO11.out B m cb _ rfl (HB.out.below HB11.out).2.1 (u8_one b) (by unfold maxLen; omega) (by omega) HB11.out.size ?_; intro v12 w12 hown hgrow _; obtain ⟨X12, c12, hv12⟩ := own_slice hown; subst hv12; rw [← List.map_append] at hown; have HO12 := Lib.hid hown; have HB12 := Lib.hid (HB11.out.grown hgrow HB11.out.size (fun g hg => (HO11.out.lt g hg).1)); clear hown hgrow))
  go_ret
  refine ⟨_, rfl, ?_, HB12.out⟩
  have e1 : (putL d ++ putL m ++ b).length = (putL d).length + (putL m).length + m := by rw [List.length_append, List.length_append, HBL.out]
  rw [e1]
  exact HO12.out
end Go.Proofs.Ytmcoooepoikgjaa
