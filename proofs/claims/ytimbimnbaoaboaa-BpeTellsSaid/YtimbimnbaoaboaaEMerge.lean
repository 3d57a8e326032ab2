/- The program's mergeFirst: one merge. (Printed by mk/merge.py.) -/
import Derived.Test.YtimbimnbaoaboaaEIns
import Derived.Test.YtimbimnbaoaboaaEAdd
namespace Go.Proofs.Ytimbimnbaoaboaa
open Go.RowKit Go.Maps Go.WideMaps
set_option linter.unusedSimpArgs false

/-- Behind one merge. -/
def Merged (w0 : World) (r b : Nat) (M : List Mg) (n : Nat) (l : List Int) (m : Nat) (e : Ending) (w' : World) : Prop :=
  ∃ k i qs at_ before behind st, e = .returned (.tuple #[]) ∧ bestOf M l = some (k, i) ∧ Row w0 w' r b at_ before behind st ∧ RowOK n (mergeAt l i (toOf M k)) qs at_ before behind ∧ StOK st (stepSet M (mergeAt l i (toOf M k)) qs) ∧ st.length ≤ m + 1
set_option maxHeartbeats 8000000 in
set_option maxRecDepth 100000 in
theorem mergeFirst_any (w0 w : World) (r b : Nat) (V : Voc) (hC : Coder w0 b V) {n : Nat} {l : List Int} {qs : List Nat} {at_ before behind : List Int} {st : List (Nat × Nat)} (hR : Row w0 w r b at_ before behind st)
    (hO : RowOK n l qs at_ before behind) (hS : StOK st (stepSet V.mer l qs)) (hne : 0 < st.length) (hsm : st.length ≤ 1000000) (hn : n ≤ 1000000) (hM : V.mer.length ≤ 1000000) :
    Calls Try.prog 24 #[at0 r] w (Merged w0 r b V.mer n l st.length) := by
  obtain ⟨va, vb, vc, vs, hR⟩ := hR
  have hlast : st[st.length - 1]? = some (st[st.length - 1]'(by omega)) := List.getElem?_eq_getElem _
  obtain ⟨s, hs⟩ : ∃ s, s = st[st.length - 1]'(by omega) := ⟨_, rfl⟩
  rw [← hs] at hlast
  obtain ⟨k, p⟩ := s
  obtain ⟨i, g, q, hbest, hp, hg, hq, hstep⟩ := best_last hO hS hlast
  have hil : i + 1 < l.length := by
    have := (List.getElem?_eq_some_iff.1 hq).1
    rw [hO.len] at this
    omega
  obtain ⟨pa, hpa, hst1⟩ := hO.ahead hp (by omega) V.mer
  have hbg := hO.beh i p g hp hg
  have hbq := hO.beh (i + 1) g q hg hq
  have hap := hO.tok i _ p (List.getElem?_eq_getElem (by omega)) hp
  obtain ⟨xa, hxa⟩ : ∃ x, x = l[i]'(by omega) := ⟨_, rfl⟩
  rw [← hxa] at hap
  have hqB : before[q]? = some (g : Int) := hO.bef (i + 1) g q hg hq
  have hpn : p < n := hO.lt (by omega) hp
  have hgn : g < n := hO.lt (by omega) hg
  have hqn : q ≤ n := hO.le hq
  have hpg : p < g := hO.inc i (i + 1) p g (by omega) hp hg
  have hgq : g < q := hO.inc (i + 1) (i + 2) g q (by omega) hg hq
  obtain ⟨hkl, m, hm⟩ : k < V.mer.length ∧ ∃ m, V.mer[k]? = some m := by
    obtain ⟨a, b, _, _, h⟩ := pairRk_some (bestOf_rk hbest)
    obtain ⟨h1, m, h2, _⟩ := rkOf_lt h
    exact ⟨h1, m, h2⟩
  have hto : toOf V.mer k = m.t := by unfold toOf; rw [List.getD_eq_getElem?_getD, hm]; rfl
  obtain ⟨ads, cs, e1, _, l1, l2⟩ := own_step_at hR.stR hlast
  subst e1
  obtain ⟨ada, ca, e1, _, _⟩ := own_int_at hR.atR hap
  subst e1
  obtain ⟨adb, cb, e1, _, _⟩ := own_int_at hR.befR hpa
  subst e1
  obtain ⟨adc, cc, e1, _, _⟩ := own_int_at hR.behR hbg
  subst e1
  have HR := Lib.hid hR
  have HO := Lib.hid hO
  have HS := Lib.hid hS
  have HC := Lib.hid hC
  have HNS : Hid (ads.block ≠ w.heap.size) := Lib.hid (fun e => by have := (hR.stR.lt _ rfl).2; omega)
  have HNA : Hid (ada.block ≠ w.heap.size) := Lib.hid (fun e => by have := (hR.atR.lt _ rfl).2; omega)
  have HNB : Hid (adb.block ≠ w.heap.size) := Lib.hid (fun e => by have := (hR.befR.lt _ rfl).2; omega)
  have HNC : Hid (adc.block ≠ w.heap.size) := Lib.hid (fun e => by have := (hR.behR.lt _ rfl).2; omega)
  have HNR : Hid (w.heap.size ≠ r) := Lib.hid (fun e => by have := hR.blk.lt; omega)
  have g4 : w.cell? ⟨r, 4, none⟩ = some (.slice (some ads) st.length cs) := hR.cl.2.2.2.2
  obtain ⟨N, hN⟩ : ∃ N, N = st.length := ⟨_, rfl⟩
  rw [← hN] at g4 hne hsm l1 l2
  obtain ⟨NA, hNA⟩ : ∃ N, N = at_.length := ⟨_, rfl⟩
  obtain ⟨NB, hNB⟩ : ∃ N, N = before.length := ⟨_, rfl⟩
  obtain ⟨NC, hNC⟩ : ∃ N, N = behind.length := ⟨_, rfl⟩
  have hN1 : IntKind.i64.wrap ((N : Int) - 1) = ((N - 1 : Nat) : Int) := by rw [IntKind.wrap_i64]; omega
  have hN2 : ((N - 1 : Nat) : Int) < (N : Int) := by omega
  have bA : (p : Int) < (NA : Int) := by rw [hNA, hO.atL]; omega
  have bB : (p : Int) < (NB : Int) := by rw [hNB, hO.befL]; omega
  have bB2 : (q : Int) < (NB : Int) := by rw [hNB, hO.befL]; omega
  have bC : (p : Int) < (NC : Int) := by rw [hNC, hO.behL]; omega
  have bC2 : (g : Int) < (NC : Int) := by rw [hNC, hO.behL]; omega
  have hp0 : (0 : Int) ≤ (p : Int) := by omega
  have hg0 : (0 : Int) ≤ (g : Int) := by omega
  have hq0 : (0 : Int) ≤ (q : Int) := by omega
  have hk0 : (0 : Int) ≤ (k : Int) := by omega
  have hkM : (k : Int) < (V.mer.length : Int) := by omega
  have HN := Lib.hid hN
  have HNa := Lib.hid hNA
  have HNb := Lib.hid hNB
  have HNc := Lib.hid hNC
  have HBG := Lib.hid hbg
  have HBQ := Lib.hid hbq
  have HAP := Lib.hid hap
  have HPA := Lib.hid hpa
  have HQB := Lib.hid hqB
  have HST1 := Lib.hid hst1
  have HBEST := Lib.hid hbest
  have HSTEP := Lib.hid hstep
  have HP := Lib.hid hp
  have HG := Lib.hid hg
  have HQ := Lib.hid hq
  have HM := Lib.hid hm
  have HTO := Lib.hid hto
  clear hR hO hS hC hs hlast hN hNA hNB hNC hbg hbq hap hpa hqB hst1 hbest hstep hp hg hq hm hto hxa
  unfold at0
  go_enter Try.func24, Try.ntmps24
  go_wp2_with fail
  refine wp_region_held_drew (S := fun w' => w'.cell? ⟨r, 4, none⟩ = some (.slice (some ads) N cs) ∧ w'.cell? (ads.add ((N - 1) * 2)) = some (.int .i64 k) ∧ w'.cell? ⟨(ads.add ((N - 1) * 2)).block, (ads.add ((N - 1) * 2)).off + 1, none⟩ = some (.int .i64 p)) (by kernel_rfl) ⟨g4, l1, l2⟩ (fun hHeld => ?_)
  refine wpAnyH_take (i := 0) (oi := ?oit10) (v := ?vt10) ?hit10 (by kernel_rfl) (by kernel_rfl) (by kernel_rfl) ?hQt10 (Or.inl ⟨?hwt10, ?hyt10⟩) (by assumption) ?restt10
  case hit10 => (first | (simp only [List.getElem?_toArray, List.getElem?_cons_zero, List.getElem?_cons_succ]; rfl) | rfl)
  case hQt10 => exact fun _ _ _ h => h
  case hwt10 => rfl
  case hyt10 => ((intro w hSw; go_simp); first | done | with_reducible rfl)
  try simp only [Act.put, List.setIfInBounds_toArray, List.set_cons_zero, List.set_cons_succ]
  refine wpAnyH_take (i := 4) (oi := ?oit24) (v := ?vt24) ?hit24 (by kernel_rfl) (by kernel_rfl) (by kernel_rfl) ?hQt24 (Or.inl ⟨?hwt24, ?hyt24⟩) (by assumption) ?restt24
  case hit24 => (first | (simp only [List.getElem?_toArray, List.getElem?_cons_zero, List.getElem?_cons_succ]; rfl) | rfl)
  case hQt24 => exact fun _ _ _ h => h
  case hwt24 => rfl
  case hyt24 => ((intro w hSw; go_simp); first | done | with_reducible rfl)
  try simp only [Act.put, List.setIfInBounds_toArray, List.set_cons_zero, List.set_cons_succ]
  refine wpAnyH_take (i := 1) (oi := ?oit31) (v := ?vt31) ?hit31 (by kernel_rfl) (by kernel_rfl) (by kernel_rfl) ?hQt31 (Or.inl ⟨?hwt31, ?hyt31⟩) (by assumption) ?restt31
  case hit31 => (first | (simp only [List.getElem?_toArray, List.getElem?_cons_zero, List.getElem?_cons_succ]; rfl) | rfl)
  case hQt31 => exact fun _ _ _ h => h
  case hwt31 => rfl
  case hyt31 => ((intro w hSw; go_simp); first | done | with_reducible rfl)
  try simp only [Act.put, List.setIfInBounds_toArray, List.set_cons_zero, List.set_cons_succ]
  refine wpAnyH_take (i := 5) (oi := ?oit45) (v := ?vt45) ?hit45 (by kernel_rfl) (by kernel_rfl) (by kernel_rfl) ?hQt45 (Or.inl ⟨?hwt45, ?hyt45⟩) (by assumption) ?restt45
  case hit45 => (first | (simp only [List.getElem?_toArray, List.getElem?_cons_zero, List.getElem?_cons_succ]; rfl) | rfl)
  case hQt45 => exact fun _ _ _ h => h
  case hwt45 => rfl
  case hyt45 => ((intro w hSw; go_simp); first | done | with_reducible rfl)
  try simp only [Act.put, List.setIfInBounds_toArray, List.set_cons_zero, List.set_cons_succ]
  refine wpAnyH_take (i := 2) (oi := ?oit52) (v := ?vt52) ?hit52 (by kernel_rfl) (by kernel_rfl) (by kernel_rfl) ?hQt52 (Or.inl ⟨?hwt52, ?hyt52⟩) (by assumption) ?restt52
  case hit52 => (first | (simp only [List.getElem?_toArray, List.getElem?_cons_zero, List.getElem?_cons_succ]; rfl) | rfl)
  case hQt52 => exact fun _ _ _ h => h
  case hwt52 => rfl
  case hyt52 => ((intro w hSw; go_simp); first | done | with_reducible rfl)
  try simp only [Act.put, List.setIfInBounds_toArray, List.set_cons_zero, List.set_cons_succ]
  refine wpAnyH_take (i := 6) (oi := ?oit66) (v := ?vt66) ?hit66 (by kernel_rfl) (by kernel_rfl) (by kernel_rfl) ?hQt66 (Or.inl ⟨?hwt66, ?hyt66⟩) (by assumption) ?restt66
  case hit66 => (first | (simp only [List.getElem?_toArray, List.getElem?_cons_zero, List.getElem?_cons_succ]; rfl) | rfl)
  case hQt66 => exact fun _ _ _ h => h
  case hwt66 => rfl
  case hyt66 => ((intro w hSw; go_simp); first | done | with_reducible rfl)
  try simp only [Act.put, List.setIfInBounds_toArray, List.set_cons_zero, List.set_cons_succ]
  refine wpAnyH_take (i := 3) (oi := ?oit73) (v := ?vt73) ?hit73 (by kernel_rfl) (by kernel_rfl) (by kernel_rfl) ?hQt73 (Or.inl ⟨?hwt73, ?hyt73⟩) (by assumption) ?restt73
  case hit73 => (first | (simp only [List.getElem?_toArray, List.getElem?_cons_zero, List.getElem?_cons_succ]; rfl) | rfl)
  case hQt73 => exact fun _ _ _ h => h
  case hwt73 => rfl
  case hyt73 => ((intro w hSw; go_simp); first | done | with_reducible rfl)
  try simp only [Act.put, List.setIfInBounds_toArray, List.set_cons_zero, List.set_cons_succ]
  refine wpAnyH_take (i := 7) (oi := ?oit87) (v := ?vt87) ?hit87 (by kernel_rfl) (by kernel_rfl) (by kernel_rfl) ?hQt87 (Or.inl ⟨?hwt87, ?hyt87⟩) (by assumption) ?restt87
  case hit87 => (first | (simp only [List.getElem?_toArray, List.getElem?_cons_zero, List.getElem?_cons_succ]; rfl) | rfl)
  case hQt87 => exact fun _ _ _ h => h
  case hwt87 => rfl
  case hyt87 => ((intro w hSw; go_simp); first | done | with_reducible rfl)
  try simp only [Act.put, List.setIfInBounds_toArray, List.set_cons_zero, List.set_cons_succ]
  refine wpAnyH_take (i := 8) (oi := ?oit98) (v := ?vt98) ?hit98 (by kernel_rfl) (by kernel_rfl) (by kernel_rfl) ?hQt98 (Or.inl ⟨?hwt98, ?hyt98⟩) (by assumption) ?restt98
  case hit98 => (first | (simp only [List.getElem?_toArray, List.getElem?_cons_zero, List.getElem?_cons_succ]; rfl) | rfl)
  case hQt98 => exact fun _ _ _ h => h
  case hwt98 => rfl
  case hyt98 => ((intro w hSw; go_simp); first | done | with_reducible rfl)
  try simp only [Act.put, List.setIfInBounds_toArray, List.set_cons_zero, List.set_cons_succ]
  refine wpAnyH_take (i := 9) (oi := ?oit109) (v := ?vt109) ?hit109 (by kernel_rfl) (by kernel_rfl) (by kernel_rfl) ?hQt109 (Or.inl ⟨?hwt109, ?hyt109⟩) (by assumption) ?restt109
  case hit109 => (first | (simp only [List.getElem?_toArray, List.getElem?_cons_zero, List.getElem?_cons_succ]; rfl) | rfl)
  case hQt109 => exact fun _ _ _ h => h
  case hwt109 => rfl
  case hyt109 => ((intro w hSw; go_simp); first | done | with_reducible rfl)
  try simp only [Act.put, List.setIfInBounds_toArray, List.set_cons_zero, List.set_cons_succ]
  refine wpAnyH_take (i := 10) (oi := ?oit1110) (v := ?vt1110) ?hit1110 (by kernel_rfl) (by kernel_rfl) (by kernel_rfl) ?hQt1110 (Or.inl ⟨?hwt1110, ?hyt1110⟩) (by assumption) ?restt1110
  case hit1110 => (first | (simp only [List.getElem?_toArray, List.getElem?_cons_zero, List.getElem?_cons_succ]; rfl) | rfl)
  case hQt1110 => exact fun _ _ _ h => h
  case hwt1110 => rfl
  case hyt1110 => ((intro w hSw; go_simp); first | done | with_reducible rfl)
  try simp only [Act.put, List.setIfInBounds_toArray, List.set_cons_zero, List.set_cons_succ]
  refine wpAnyH_take (i := 11) (oi := ?oit1211) (v := ?vt1211) ?hit1211 (by kernel_rfl) (by kernel_rfl) (by kernel_rfl) ?hQt1211 (Or.inl ⟨?hwt1211, ?hyt1211⟩) (by assumption) ?restt1211
  case hit1211 => (first | (simp only [List.getElem?_toArray, List.getElem?_cons_zero, List.getElem?_cons_succ]; rfl) | rfl)
  case hQt1211 => exact fun _ _ _ h => h
  case hwt1211 => rfl
  case hyt1211 => ((intro w hSw; go_simp); first | done | with_reducible rfl)
  try simp only [Act.put, List.setIfInBounds_toArray, List.set_cons_zero, List.set_cons_succ]
  refine wpAnyH_ready (rs := [12]) (by kernel_rfl) (by simp) ?_
  refine AllReadyH.cons (o := ?ot13) ?ht13 ?st13 AllReadyH.nil
  case ht13 => (simp only [List.getElem?_toArray, List.getElem?_cons_zero, List.getElem?_cons_succ]; rfl)
  case st13 =>
    intro K hK
    go_simp
    obtain ⟨W1, hW1⟩ : ∃ z, z = (w.alloc (.cells #[.int .i64 0, .int .i64 0] 78)).drew := ⟨_, rfl⟩
    have HN1 : Hid (Blk W1 w.heap.size 78 #[.int .i64 0, .int .i64 0]) := Lib.hid (by rw [hW1]; exact (Blk.new w _ _).drew)
    rw [← hW1]
    have hb1 : Below w.heap.size w W1 := by rw [hW1]; exact ((Below.refl _ w).alloc (Nat.le_refl _) _).drew
    have HB1 := Lib.hid hb1
    clear hW1 hb1
    refine hK.out _ _ ⟨below_cells HB1.out g4, below_cells HB1.out l1, below_cells HB1.out l2⟩ (fun ht14 => ?_)
    clear hK K
    try simp only [Act.put, List.setIfInBounds_toArray, List.set_cons_zero, List.set_cons_succ]
    refine wpAnyH_ready (rs := [13]) (by kernel_rfl) (by simp) ?_
    refine AllReadyH.cons (o := ?ot15) ?ht15 ?st15 AllReadyH.nil
    case ht15 => (simp only [List.getElem?_toArray, List.getElem?_cons_zero, List.getElem?_cons_succ]; rfl)
    case st15 =>
      intro K hK
      have y0 := HN1.out.cell 0
      have y1 := HN1.out.cell 1
      simp only [List.getElem?_toArray, List.getElem?_cons_zero, List.getElem?_cons_succ] at y0 y1
      have z0 := HN1.out.frozen 0
      have z1 := HN1.out.frozen 1
      go_simp
      clear y0 y1 z0 z1
      obtain ⟨W2, hW2⟩ : ∃ z, z = (W1.setCell ⟨w.heap.size, 0, none⟩ (.int .i64 k)).setCell ⟨w.heap.size, 1, none⟩ (.int .i64 p) := ⟨_, rfl⟩
      have HN2 : Hid (Blk W2 w.heap.size 78 #[.int .i64 k, .int .i64 p]) := Lib.hid (by
        rw [hW2]
        have := (HN1.out.set_ 0 (.int .i64 k)).set_ 1 (.int .i64 p)
        simpa using this)
      rw [← hW2]
      have HB2 : Hid (Below w.heap.size w W2) := Lib.hid (by rw [hW2]; exact (HB1.out.setCell (Nat.le_refl _) _).setCell (Nat.le_refl _) _)
      clear hW2
      refine hK.out _ _ ⟨below_cells HB2.out g4, below_cells HB2.out l1, below_cells HB2.out l2⟩ (fun ht16 => ?_)
      clear hK K
      try simp only [Act.put, List.setIfInBounds_toArray, List.set_cons_zero, List.set_cons_succ]
      refine wpAnyH_done (by kernel_rfl) ?_ _
      skip
      have HR2 := Lib.hid (HR.out.then HB2.out)
      obtain ⟨_, _, f2, f3, _⟩ := HR2.out.cl
      rw [← HNb.out] at f2
      rw [← HNc.out] at f3
      have f1 : W2.cell? ⟨w.heap.size, 1, none⟩ = some (.int .i64 p) := (two_cells HN2.out).2
      have x1 := (own_int_cell HR2.out.behR HBG.out).1
      have x2 := (own_int_cell HR2.out.befR HPA.out).1
      clear g4 l1 l2
      go_wp2_with fail
      clear f1 f2 f3 x1 x2
      obtain ⟨d1, d2, d3, d4, d5⟩ := HO.out.drop3 HS.out i
      have D1 := Lib.hid d1
      have D2 := Lib.hid d2
      have D3 := Lib.hid d3
      have D4 := Lib.hid d4
      have D5 := Lib.hid d5
      clear d1 d2 d3 d4 d5
      refine (drop_any w0 W2 r b V HC.out HR2.out HS.out.sorted HST1.out (fun x hx => HS.out.at_ (by
        obtain ⟨j, _, hj⟩ := stepAhead_some.1 hx
        exact ⟨j, hj⟩))).mono ?_
      rintro e W3 ⟨rfl, v3, hR3, hK3⟩
      have HR3 := Lib.hid hR3
      have HK3 := Lib.hid hK3
      clear hR3 hK3
      go_wp2_with fail
      refine (drop_any w0 W3 r b V HC.out HR3.out D1.out.sorted (HO.out.stepAt HP.out (by omega)) (fun x hx => D1.out.at_ (D2.out x hx))).mono ?_
      rintro e W4 ⟨rfl, v4, hR4, hK4⟩
      have HR4 := Lib.hid hR4
      have HK4 := Lib.hid (HK3.out.trans hK4)
      clear hR4 hK4
      go_wp2_with fail
      refine (drop_any w0 W4 r b V HC.out HR4.out D3.out.sorted (HO.out.stepAt HG.out hil) (fun x hx => D3.out.at_ (D4.out x hx))).mono ?_
      rintro e W5 ⟨rfl, v5, hR5, hK5⟩
      have HR5 := Lib.hid hR5
      have HK5 := Lib.hid (HK4.out.trans hK5)
      clear hR5 hK5
      have HN5 := Lib.hid (HK5.out.blk HN2.out HNR.out (fun e => HNS.out (by simpa [Value.ownBlock] using e)))
      obtain ⟨Ac, Bc, ca', cb', bp, D, csC, hC5⟩ := HC.out.below HR5.out.below
      obtain ⟨adm, e1, _, _, mt⟩ := hC5.mer.at_ k m HM.out
      subst e1
      have fm := (hC5.mer.bound m (List.mem_of_getElem? HM.out)).2.2
      obtain ⟨m0, m1, _, _, _⟩ := HR5.out.cl
      have mc : W5.cell? ⟨b, 1, none⟩ = some (.slice (some adm) V.mer.length cb') := by rw [hC5.blk.cell 1]; exact hC5.c1
      have fk := (two_cells HN5.out).1
      obtain ⟨x1, z1⟩ := own_int_cell HR5.out.atR HAP.out
      rw [← HNa.out] at m1
      clear hC5
      go_wp2_with fail
      go_still_tail 18, (by kernel_rfl)
      change wpList _ _ _ _ _ W5.drew
      go_wp2_with fail
      obtain ⟨W6, hW6⟩ : ∃ z, z = (W5.setCell (ada.add p) (.int .i64 m.t)).drew := ⟨_, rfl⟩
      rw [← hW6]
      have hR6 := (HR5.out.setAt (p := p) (x := m.t) fm).then ((Below.refl _ _).drew)
      rw [← hW6] at hR6
      have HR6 := Lib.hid hR6
      have HN6 : Hid (Blk W6 w.heap.size 78 #[.int .i64 k, .int .i64 p]) := Lib.hid (by rw [hW6]; exact (Blk.far HN5.out (by rw [add_block]; exact fun e => HNA.out e.symm) _).drew)
      clear hW6 hR6 mt mc m0 m1 fk x1 z1
      obtain ⟨_, _, _, m3, _⟩ := HR6.out.cl
      obtain ⟨x2, _⟩ := own_int_cell HR6.out.behR HBQ.out
      obtain ⟨x1, z1⟩ := own_int_cell HR6.out.behR HBG.out
      rw [← HNc.out] at m3
      go_still_tail 13, (by kernel_rfl)
      change wpList _ _ _ _ _ W6.drew
      go_wp2_with fail
      obtain ⟨W7, hW7⟩ : ∃ z, z = (W6.setCell (adc.add p) (.int .i64 (q : Int))).drew := ⟨_, rfl⟩
      rw [← hW7]
      have hR7 := (HR6.out.setBeh (p := p) (x := (q : Int)) ⟨by omega, by omega⟩).then ((Below.refl _ _).drew)
      rw [← hW7] at hR7
      have HR7 := Lib.hid hR7
      clear hW7 hR7 m3 x1 x2 z1
      obtain ⟨_, _, m2, m3, _⟩ := HR7.out.cl
      have hbq' : (behind.set p (q : Int))[g]? = some (q : Int) := by rw [List.getElem?_set_ne (by omega)]; exact HBQ.out
      obtain ⟨x2, _⟩ := own_int_cell (ad := adc) (c := cc) (n := behind.length) (l := behind.set p (q : Int)) (by have := HR7.out.behR; rw [List.length_set] at this; exact this) hbq'
      obtain ⟨x1, z1⟩ := own_int_cell HR7.out.befR HQB.out
      rw [← HNc.out] at m3
      rw [← HNb.out] at m2
      clear hbq'
      have hO8 := HO.out.merge HP.out HG.out HQ.out m.t
      obtain ⟨hA8, hB8⟩ := HO.out.add2 HS.out HP.out HG.out HQ.out m.t
      have hp' : (qs.eraseIdx (i + 1))[i]? = some p := by rw [List.getElem?_eraseIdx, if_pos (by omega)]; exact HP.out
      have hil' : i < (mergeAt l i m.t).length := by rw [mergeAt_len hil]; omega
      have hpa' : (before.set q (p : Int))[p]? = some pa := by rw [List.getElem?_set_ne (by omega)]; exact HPA.out
      have hR8 := (HR7.out.setBef (p := q) (x := (p : Int)) ⟨by omega, by omega⟩).then ((Below.refl _ _).drew)
      obtain ⟨_, _, n2, _, _⟩ := hR8.cl
      obtain ⟨y1, _⟩ := own_int_cell (ad := adb) (c := cb) (n := before.length) (l := before.set q (p : Int)) (by have := hR8.befR; rw [List.length_set] at this; exact this) hpa'
      rw [← HNb.out] at n2
      obtain ⟨W8, hW8⟩ : ∃ z, z = (W7.setCell (adb.add q) (.int .i64 (p : Int))).drew := ⟨_, rfl⟩
      rw [← hW8] at hR8
      have n2' : (W7.setCell (adb.add q) (.int .i64 (p : Int))).cell? ⟨r, 2, none⟩ = some (.slice (some adb) NB cb) := n2
      have y1' : (W7.setCell (adb.add q) (.int .i64 (p : Int))).cell? (adb.add p) = some (.int .i64 pa) := y1
      obtain ⟨pa2, e1, hst2⟩ := hO8.ahead hp' hil' V.mer
      obtain rfl : pa = pa2 := by rw [hpa'] at e1; exact Option.some.inj e1
      have hst3 := hO8.stepAt (M := V.mer) hp' hil'
      have l3 : (st3 V.mer l qs i st).length + 1 ≤ st.length := by
        have a1 := dropO_len st (stepAhead V.mer l qs i)
        have a2 := dropO_less D1.out (D2.out _ HSTEP.out)
        have a3 := dropO_len (dropO (dropO st (stepAhead V.mer l qs i)) (some (k, p))) (stepOf V.mer l qs (i + 1))
        show (dropO (dropO (dropO st (stepAhead V.mer l qs i)) (stepOf V.mer l qs i)) (stepOf V.mer l qs (i + 1))).length + 1 ≤ _
        rw [HSTEP.out]
        omega
      have l4 := addO_len (st3 V.mer l qs i st) (stepAhead V.mer (mergeAt l i m.t) (qs.eraseIdx (i + 1)) i)
      have l5 := addO_len (addO (st3 V.mer l qs i st) (stepAhead V.mer (mergeAt l i m.t) (qs.eraseIdx (i + 1)) i)) (stepOf V.mer (mergeAt l i m.t) (qs.eraseIdx (i + 1)) i)
      have L3 := Lib.hid l3
      have L4 := Lib.hid l4
      have L5 := Lib.hid l5
      have HT2 := Lib.hid hst2
      have HT3 := Lib.hid hst3
      have HR8 := Lib.hid hR8
      have HW8 := Lib.hid hW8
      have HO8 := Lib.hid hO8
      have HA8 := Lib.hid hA8
      have HB8 := Lib.hid hB8
      clear hpa' hR8 hW8 hO8 hA8 hB8 n2 y1 hp' hil' e1 hst2 hst3 l3 l4 l5
      go_still_tail 13, (by kernel_rfl)
      change wpList _ _ _ _ _ W7.drew
      go_wp2_with fail
      rw [← HW8.out]
      clear m2 m3 x1 x2 z1 n2' y1'
      refine (add_any w0 W8 r b V HC.out HR8.out D5.out.sorted HT2.out (by have h1 := L3.out; have h2 := HN.out; exact (by omega : (st3 V.mer l qs i st).length < 1048576)) (fun x hx => by
        obtain ⟨j, _, hj⟩ := stepAhead_some.1 hx
        have := HO8.out.step_small hj
        omega)).mono ?_
      rintro e W9 ⟨rfl, v9, hR9, _⟩
      have HR9 := Lib.hid hR9
      clear hR9
      go_wp2_with fail
      refine (add_any w0 W9 r b V HC.out HR9.out HA8.out.sorted HT3.out (by have h1 := L3.out; have h2 := HN.out; have h3 := L4.out; exact (by omega : (addO (st3 V.mer l qs i st) (stepAhead V.mer (mergeAt l i m.t) (qs.eraseIdx (i + 1)) i)).length < 1048576)) (fun x hx => by
        have := HO8.out.step_small hx
        omega)).mono ?_
      rintro e W10 ⟨rfl, v10, hR10, _⟩
      have HR10 := Lib.hid hR10
      clear hR10
      go_wp2_with fail
      go_end0
      refine ⟨k, i, qs.eraseIdx (i + 1), _, _, _, _, rfl, HBEST.out, ⟨_, _, _, _, HR10.out⟩, ?_, ?_, ?_⟩
      · rw [HTO.out]; exact HO8.out
      · rw [HTO.out]; exact HB8.out
      · have h1 := L3.out
        have h2 := L4.out
        have h3 := L5.out
        exact (by omega : (addO (addO (st3 V.mer l qs i st) (stepAhead V.mer (mergeAt l i m.t) (qs.eraseIdx (i + 1)) i)) (stepOf V.mer (mergeAt l i m.t) (qs.eraseIdx (i + 1)) i)).length ≤ st.length + 1)
end Go.Proofs.Ytimbimnbaoaboaa
