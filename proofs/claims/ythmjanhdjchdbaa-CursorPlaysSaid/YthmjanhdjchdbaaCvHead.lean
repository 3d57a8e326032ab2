/- The program's cursor: head, pass, begins. -/
import Derived.Test.YthmjanhdjchdbaaCvMem
namespace Go.Proofs.Ythmjanhdjchdbaa
open Go.RowKit Go.Maps Go.WideMaps
set_option linter.unusedSimpArgs false

theorem CuRaw.after {w w' : World} {F : Nat → Prop} {b : Nat} {po : List Pst} {lf : Nm} {la P N r : Int} (h : CuRaw w F b po lf la P N r) (hb : Below w.heap.size w w') : CuRaw w' F b po lf la P N r ∧ Kept (fun i => i = b) w w' := ⟨h.below hb, Kept.below hb⟩
theorem partCells : (Try.prog.info? 89).map (·.size) = some 2 := by kernel_rfl

set_option maxHeartbeats 4000000 in
set_option maxRecDepth 100000 in
theorem cHead_any {w : World} {F : Nat → Prop} {b : Nat} {po : List Pst} {lf rest : Nm} {la P N r : Int} (h : CuRaw w F b po lf la P N r) {u v : Nat} (hla : -1 ≤ la) (hla2 : la ≤ 4294967296) (hu : u < 2 ^ 40) (hv : v < 2 ^ 40) (hl : lf = putL u ++ (putL v ++ rest)) {t : Int} (ht : la + 1 + (u : Int) = t) :
    Calls Try.prog 49 #[at0 b] w fun e w' => e = .returned (.agg #[.int .i64 t, .int .i64 v]) ∧ CuRaw w' F b po rest la P N r ∧ Kept (fun i => i = b) w w' := by
  have hbl := h.lt
  have hFl := h.low.2
  obtain ⟨W1, hW1⟩ : ∃ W1, W1 = w.alloc (.cells #[.int .i64 0, .int .i64 0] 89) := ⟨_, rfl⟩
  have hb1 : Below w.heap.size w W1 := by rw [hW1]; exact (Below.refl _ w).alloc (Nat.le_refl _) _
  have hT1 : Blk W1 w.heap.size 89 #[.int .i64 0, .int .i64 0] := by rw [hW1]; exact Blk.new _ _ _
  have h1 := h.below hb1
  have hs1 : W1.heap.size = w.heap.size + 1 := by rw [hW1]; simp
  have HB1 := Lib.hid hb1
  have HT1 := Lib.hid hT1
  have HNUM := Lib.hid (cNum_any (h1.below ((Below.refl _ W1).drew)) (v := u) (rest := putL v ++ rest) (by omega) hl)
  have c2 : W1.cell? ⟨b, 2, none⟩ = some (.int .i64 la) := by
    obtain ⟨A, n, c, L, m, k, q1, q2⟩ := h1
    have := q1.cell 2
    simpa using this
  have HW1 := Lib.hid hW1
  have hw1 : IntKind.i64.wrap (la + 1) = la + 1 := IntWalk.i64_in _ (by omega)
  have hw3 : IntKind.i64.wrap (la + 1 + (u : Int)) = la + 1 + (u : Int) := IntWalk.i64_in _ (by omega)
  have HT := Lib.hid ht
  clear h h1 hW1 hb1 hT1 hl ht
  unfold at0
  go_enter Try.func49, Try.ntmps49
  go_wp2_with fail
  rw [← HW1.out]
  refine wp_region_held_drew (S := fun w' => w'.cell? ⟨b, 2, none⟩ = some (.int .i64 la)) (by kernel_rfl) ?_ (fun hHeld => ?_)
  · exact c2
  refine wpAnyH_take (i := 0) (oi := ?oit0) (v := ?vt0) ?hit0 (by kernel_rfl) (by kernel_rfl) (by kernel_rfl) ?hQt0 (Or.inl ⟨?hwt0, ?hyt0⟩) (by assumption) ?restt0
  case hit0 => (first | (simp only [List.getElem?_toArray, List.getElem?_cons_zero, List.getElem?_cons_succ]; rfl) | rfl)
  case hQt0 => exact fun _ _ _ h => h
  case hwt0 => rfl
  case hyt0 => ((intro w hSw; go_simp); first | done | with_reducible rfl)
  try simp only [Act.put, List.setIfInBounds_toArray, List.set_cons_zero, List.set_cons_succ]
  refine wpAnyH_take (i := 1) (oi := ?oit1) (v := ?vt1) ?hit1 (by kernel_rfl) (by kernel_rfl) (by kernel_rfl) ?hQt1 (Or.inl ⟨?hwt1, ?hyt1⟩) (by assumption) ?restt1
  case hit1 => (first | (simp only [List.getElem?_toArray, List.getElem?_cons_zero, List.getElem?_cons_succ]; rfl) | rfl)
  case hQt1 => exact fun _ _ _ h => h
  case hwt1 => rfl
  case hyt1 => ((intro w hSw; go_simp); first | done | with_reducible rfl)
  try simp only [Act.put, List.setIfInBounds_toArray, List.set_cons_zero, List.set_cons_succ]
  refine wpAnyH_take (i := 2) (oi := ?oit2) (v := ?vt2) ?hit2 (by kernel_rfl) (by kernel_rfl) (by kernel_rfl) ?hQt2 (Or.inl ⟨?hwt2, ?hyt2⟩) (by assumption) ?restt2
  case hit2 => (first | (simp only [List.getElem?_toArray, List.getElem?_cons_zero, List.getElem?_cons_succ]; rfl) | rfl)
  case hQt2 => exact fun _ _ _ h => h
  case hwt2 => rfl
  case hyt2 => ((intro w hSw; go_simp); first | done | with_reducible rfl)
  try simp only [Act.put, List.setIfInBounds_toArray, List.set_cons_zero, List.set_cons_succ]
  refine wpAnyH_take (i := 3) (oi := ?oit3) (v := ?vt3) ?hit3 (by kernel_rfl) (by kernel_rfl) (by kernel_rfl) ?hQt3 (Or.inl ⟨?hwt3, ?hyt3⟩) (by assumption) ?restt3
  case hit3 => (first | (simp only [List.getElem?_toArray, List.getElem?_cons_zero, List.getElem?_cons_succ]; rfl) | rfl)
  case hQt3 => exact fun _ _ _ h => h
  case hwt3 => rfl
  case hyt3 => ((intro w hSw; go_simp); first | done | with_reducible rfl)
  try simp only [Act.put, List.setIfInBounds_toArray, List.set_cons_zero, List.set_cons_succ]
  refine wpAnyH_take (i := 4) (oi := ?oit4) (v := ?vt4) ?hit4 (by kernel_rfl) (by kernel_rfl) (by kernel_rfl) ?hQt4 (Or.inl ⟨?hwt4, ?hyt4⟩) (by assumption) ?restt4
  case hit4 => (first | (simp only [List.getElem?_toArray, List.getElem?_cons_zero, List.getElem?_cons_succ]; rfl) | rfl)
  case hQt4 => exact fun _ _ _ h => h
  case hwt4 => rfl
  case hyt4 => ((intro w hSw; go_simp); first | done | with_reducible rfl)
  try simp only [Act.put, List.setIfInBounds_toArray, List.set_cons_zero, List.set_cons_succ]
  refine wpAnyH_take (i := 5) (oi := ?oit5) (v := ?vt5) ?hit5 (by kernel_rfl) (by kernel_rfl) (by kernel_rfl) ?hQt5 (Or.inl ⟨?hwt5, ?hyt5⟩) (by assumption) ?restt5
  case hit5 => (first | (simp only [List.getElem?_toArray, List.getElem?_cons_zero, List.getElem?_cons_succ]; rfl) | rfl)
  case hQt5 => exact fun _ _ _ h => h
  case hwt5 => rfl
  case hyt5 => ((intro w hSw; go_simp); first | done | with_reducible rfl)
  try simp only [Act.put, List.setIfInBounds_toArray, List.set_cons_zero, List.set_cons_succ]
  refine wpAnyH_ready (rs := [6]) (by kernel_rfl) (by simp) ?_
  refine AllReadyH.cons (o := ?oc1) ?hcc1 ?stc1 AllReadyH.nil
  case hcc1 => (simp only [List.getElem?_toArray, List.getElem?_cons_zero, List.getElem?_cons_succ]; rfl)
  intro K hK
  go_simp
  refine HNUM.out.mono ?_
  rintro e w2 ⟨rfl, hr2, hk2⟩
  have hS2 : w2.cell? ⟨b, 2, none⟩ = some (.int .i64 la) := by
    obtain ⟨A, n, c, L, m, k, q1, q2⟩ := hr2
    have := q1.cell 2
    simpa using this
  have HR2 := Lib.hid hr2
  have HK2 : Hid (Kept (fun i => i = b) W1 w2) := Lib.hid ⟨hk2.os, hk2.tape, hk2.output, hk2.size, hk2.block⟩
  have hs2 : W1.heap.size ≤ w2.heap.size := hk2.size
  clear hr2 hk2
  go_wp2_with fail
  refine hK.out _ _ hS2 (fun _ => ?_)
  clear hK K
  refine wpAnyH_take (i := 7) (oi := ?oiu7) (v := ?vu7) ?hiu7 (by kernel_rfl) (by kernel_rfl) (by kernel_rfl) ?hQu7 (Or.inl ⟨?hwu7, ?hyu7⟩) (by assumption) ?restu7
  case hiu7 => (first | (simp only [List.getElem?_toArray, List.getElem?_cons_zero, List.getElem?_cons_succ]; rfl) | rfl)
  case hQu7 => exact fun _ _ _ h => h
  case hwu7 => rfl
  case hyu7 => ((intro w hSw; go_simp); first | done | with_reducible rfl)
  try simp only [Act.put, List.setIfInBounds_toArray, List.set_cons_zero, List.set_cons_succ]
  refine wpAnyH_take (i := 8) (oi := ?oiu8) (v := ?vu8) ?hiu8 (by kernel_rfl) (by kernel_rfl) (by kernel_rfl) ?hQu8 (Or.inl ⟨?hwu8, ?hyu8⟩) (by assumption) ?restu8
  case hiu8 => (first | (simp only [List.getElem?_toArray, List.getElem?_cons_zero, List.getElem?_cons_succ]; rfl) | rfl)
  case hQu8 => exact fun _ _ _ h => h
  case hwu8 => rfl
  case hyu8 => ((intro w hSw; go_simp); first | done | with_reducible rfl)
  try simp only [Act.put, List.setIfInBounds_toArray, List.set_cons_zero, List.set_cons_succ]
  refine wpAnyH_done (by kernel_rfl) ?_ _
  have HT2 := Lib.hid (HT1.out.kept HK2.out (by omega))
  rw [HT.out]
  clear hw1 hw3
  have HNUM2 := Lib.hid (cNum_any HR2.out (v := v) (rest := rest) (by omega) rfl)
  go_wp2_with fail
  refine HNUM2.out.mono ?_
  rintro e w3 ⟨rfl, hr3, hk3⟩
  have HR3 := Lib.hid hr3
  have HK3 := Lib.hid (cu_then (cu_then (Kept.below HB1.out) HK2.out) hk3)
  have hs3 := hk3.size
  have HT3 := Lib.hid (HT2.out.kept hk3 (by omega))
  clear hr3 hk3
  have z0 := HT3.out.frozen 0
  have z1 := HT3.out.frozen 1
  have y0 := HT3.out.cell 0
  have y1 := HT3.out.cell 1
  simp at y0 y1
  have HT4 := Lib.hid ((HT3.out.set_ 0 (.int .i64 t)).set_ 1 (.int .i64 v))
  obtain ⟨W4, hW4⟩ : ∃ W4, W4 = (w3.setCell ⟨w.heap.size, 0, none⟩ (.int .i64 t)).setCell ⟨w.heap.size, 1, none⟩ (.int .i64 v) := ⟨_, rfl⟩
  rw [← hW4] at HT4
  have hk4 : Kept (fun i => i = w.heap.size) w3 W4 := by rw [hW4]; exact cu_set (cu_set (Kept.refl _ w3) 0 _) 1 _
  have HK4 := Lib.hid hk4
  have HR4 : Hid (CuRaw W4 F b po rest la P N r) := Lib.hid (HR3.out.all (fun i hi => ?hR) (by rw [hW4, size_setCell', size_setCell']; exact Nat.le_refl _))
  case hR =>
    have : i < w.heap.size := hFl i hi
    rw [hW4, heap_setCell_other _ _ _ (by simp only; omega), heap_setCell_other _ _ _ (by simp only; omega)]
  have HW4 := Lib.hid hW4
  clear hk4 hW4
  go_wp2
  rw [← HW4.out]
  refine bodyPost_ret (results_cell_row rfl _ _ w.heap.size 89 #[.int .i64 t, .int .i64 v] (0, 0) _ rfl ?_ Try.underlying89 rfl partCells) rfl ?_
  · have := HT4.out
    unfold Blk at this
    simpa using this
  · exact ⟨rfl, HR4.out, HK3.out.trans HK4.out (fun i hi e => by omega)⟩

set_option maxHeartbeats 4000000 in
set_option maxRecDepth 100000 in
theorem cPass_any {w : World} {F : Nat → Prop} {b : Nat} {po : List Pst} {lf : Nm} {la P N r : Int} (h : CuRaw w F b po lf la P N r) {t : Int} {v : Nat} {mm : Int} (hv : v ≤ lf.length) (h1 : 0 ≤ P) (h2 : P ≤ 10000) (h3 : 0 ≤ mm) (h4 : mm ≤ 16) :
    Calls Try.prog 50 #[at0 b, .agg #[.int .i64 t, .int .i64 v], .int .i64 mm] w fun e w' => e = .returned (.tuple #[]) ∧ CuRaw w' F b po (lf.drop v) t (P + mm) N r ∧ Kept (fun i => i = b) w w' := by
  have hbl := h.lt
  have hFl := h.low.2
  obtain ⟨W1, hW1⟩ : ∃ W1, W1 = w.alloc (.cells #[.int .i64 t, .int .i64 v] 89) := ⟨_, rfl⟩
  have hb1 : Below w.heap.size w W1 := by rw [hW1]; exact (Below.refl _ w).alloc (Nat.le_refl _) _
  have hT1 : Blk W1 w.heap.size 89 #[.int .i64 t, .int .i64 v] := by rw [hW1]; exact Blk.new _ _ _
  obtain ⟨A, n, c, L, m, k, q1, q2⟩ := h.below hb1
  have hln : lf.length = m := by have := q2.lf.1.2.1.len; simpa using this
  rw [hln] at hv
  have hk := q2.room.1
  have HB1 := Lib.hid hb1
  have HQ2 := Lib.hid (q2.left hv)
  have HQ1 := Lib.hid q1
  have c1 := q1.cell 1
  have c2 := q1.cell 2
  have c3 := q1.cell 3
  have z1 := q1.frozen 1
  have z2 := q1.frozen 2
  have z3 := q1.frozen 3
  have t0 := hT1.cell 0
  have t1 := hT1.cell 1
  simp only [List.getElem?_toArray, List.getElem?_cons_zero, List.getElem?_cons_succ] at c1 c2 c3 t0 t1
  have hsl := fun w => slice_from w L m k v hv
  have hw : IntKind.i64.wrap (P + mm) = P + mm := IntWalk.i64_in _ (by omega)
  have HW1 := Lib.hid hW1
  clear h q1 q2 hb1 hT1 hW1 hFl
  unfold at0
  go_enter Try.func50, Try.ntmps50
  go_wp2_with fail
  rw [← HW1.out]
  go_region
  obtain ⟨W2, hW2⟩ : ∃ W2, W2 = (W1.setCell ⟨b, 1, none⟩ (.slice (cutAddr L v k) (m - v) (k - v))).drew := ⟨_, rfl⟩
  have HB2 : Hid (Blk W2 b 62 #[.slice A n c, .slice (cutAddr L v k) (m - v) (k - v), .int .i64 la, .int .i64 P, .int .i64 N, .int .i64 r]) := Lib.hid (by rw [hW2]; simpa using (HQ1.out.set_ 1 (.slice (cutAddr L v k) (m - v) (k - v))).drew)
  have HK2 : Hid (Kept (fun i => i = b) W1 W2) := Lib.hid (by rw [hW2]; exact (cu_set (Kept.refl _ W1) 1 _).drew)
  have HI2 := Lib.hid (HQ2.out.kept HK2.out)
  have t0' : W2.cell? ⟨w.heap.size, 0, none⟩ = some (.int .i64 t) := by rw [hW2]; exact (World.cell?_of_block (heap_setCell_other W1 _ _ (by simp only; omega))).trans t0
  have c2' := HB2.out.cell 2
  have c3' := HB2.out.cell 3
  have z2' := HB2.out.frozen 2
  have z3' := HB2.out.frozen 3
  simp only [List.getElem?_toArray, List.getElem?_cons_zero, List.getElem?_cons_succ] at c2' c3'
  rw [← hW2]
  clear hW2 t0 t1 c1 c2 c3 z1 z2 z3
  go_wp2
  go_end0
  obtain ⟨W3, hW3⟩ : ∃ W3, W3 = (W2.setCell ⟨b, 2, none⟩ (.int .i64 t)).setCell ⟨b, 3, none⟩ (.int .i64 (P + mm)) := ⟨_, rfl⟩
  rw [← hW3]
  have hk3 : Kept (fun i => i = b) W2 W3 := by rw [hW3]; exact cu_set (cu_set (Kept.refl _ W2) 2 _) 3 _
  have hb3 := (HB2.out.set_ 2 (.int .i64 t)).set_ 3 (.int .i64 (P + mm))
  rw [← hW3] at hb3
  exact ⟨rfl, ⟨A, n, c, _, _, _, by simpa using hb3, HI2.out.kept hk3⟩, cu_then (cu_then (Kept.below HB1.out) HK2.out) hk3⟩

set_option maxHeartbeats 4000000 in
set_option maxRecDepth 100000 in
theorem cBegins_any {w : World} {F : Nat → Prop} {b : Nat} {po : List Pst} {lf : Nm} {la N r : Int} {P : Nat} (h : CuRaw w F b po lf la P N r) :
    Calls Try.prog 48 #[at0 b] w fun e w' => ∃ A n c l, e = .returned (.slice A n c) ∧ IntsIn w' A n l ∧ Below w.heap.size w w' ∧ l = (if P % 16 = 0 then [16, 4] else [4]) ∧ ∀ ad, A = some ad → w.heap.size ≤ ad.block := by
  obtain ⟨A, n, c, L, m, k, q1, q2⟩ := h
  have c3 := q1.cell 3
  simp only [List.getElem?_toArray, List.getElem?_cons_zero, List.getElem?_cons_succ] at c3
  clear q1 q2
  have hb := (Below.refl w.heap.size w).alloc (Nat.le_refl _)
  have hr : (P : Int).tmod 16 = ((P % 16 : Nat) : Int) := (Int.ofNat_tmod P 16).symm
  unfold at0
  by_cases h16 : P % 16 = 0
  · rw [if_pos h16]
    have hr0 : (P : Int).tmod 16 = 0 := by rw [hr, h16]; rfl
    go_enter Try.func48, Try.ntmps48
    go_wp2
    go_ret
    refine ⟨_, _, _, [16, 4], rfl, ?_, hb _, rfl, fun ad e => by cases e; exact Nat.le_refl _⟩
    refine ⟨by unfold maxLen; omega, ⟨rfl, fun ad e j x hx => ?_, fun e => by cases e⟩, by simp, fun ad e _ => by cases e; simp⟩
    cases e
    match j with
    | 0 => simp [i64V] at hx; subst hx; simp [Addr.add]
    | 1 => simp [i64V] at hx; subst hx; simp [Addr.add]
    | j + 2 => simp at hx
  · rw [if_neg h16]
    have hr1 : (((P % 16 : Nat) : Int) == 0) = false := beq_eq_false_iff_ne.2 (by omega)
    go_enter Try.func48, Try.ntmps48
    go_wp2
    go_ret
    exact ⟨_, _, _, [4], rfl, ⟨by unfold maxLen; omega, one_int_src w 3 4, by simp, fun ad e _ => by cases e; simp⟩, hb _, rfl, fun ad e => by cases e; exact Nat.le_refl _⟩
end Go.Proofs.Ythmjanhdjchdbaa
