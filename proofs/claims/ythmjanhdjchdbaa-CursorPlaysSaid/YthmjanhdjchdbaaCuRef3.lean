/- The document's cursor: Spots, New. Printed by mk/spots.py. -/
import Derived.Test.YthmjanhdjchdbaaCuRef2
import Derived.Test.YthmjanhdjchdbaaPMath4
import Derived.Deep.RegionHeld3
import Derived.Lib.SmallJoins
namespace Go.Proofs.Ythmjanhdjchdbaa
open Go.RowKit Go.Maps Go.WideMaps
set_option linter.unusedSimpArgs false

/-- Spots have come back. -/
def SpotsOut (w : World) (l : List (Int × Int)) (e : Ending) (w' : World) : Prop := ∃ A c, e = .returned (.slice A l.length c) ∧ PairsIn w' A l.length l ∧ Below w.heap.size w w'
theorem pairs_src {w : World} {ad : Addr} {n : Nat} {l : List (Int × Int)} (h : PairsIn w (some ad) n l) : ∀ (j : Nat) (u : Value), (l.flatMap twoCells)[j]? = some u → w.cell? (ad.add j) = some u := by
  have key : ∀ (R : List (Int × Int)) (j : Nat) (u : Value), (R.flatMap twoCells)[j]? = some u → ∃ i r p, j = i * 2 + r ∧ r < 2 ∧ R[i]? = some p ∧ (twoCells p)[r]? = some u := by
    intro R
    induction R with
    | nil => intro j u h; simp at h
    | cons a R ih =>
      intro j u h
      rw [List.flatMap_cons] at h
      have hl : (twoCells a).length = 2 := rfl
      rcases Nat.lt_or_ge j 2 with hj | hj
      · rw [List.getElem?_append_left (by omega)] at h
        exact ⟨0, j, a, by omega, hj, rfl, h⟩
      · rw [List.getElem?_append_right (by omega), hl] at h
        obtain ⟨i, r, p, h1, h2, h3, h4⟩ := ih (j - 2) u h
        exact ⟨i + 1, r, p, by omega, h2, by simpa using h3, h4⟩
  intro j u hu
  obtain ⟨i, r, p, rfl, hr, hp, hu2⟩ := key l j u hu
  obtain ⟨c0, c1⟩ := h.cells ad rfl i p hp
  match r, hr with
  | 0, _ => simp [twoCells] at hu2; subst hu2; exact c0
  | 1, _ => simp [twoCells] at hu2; subst hu2; exact c1
theorem twos_one (l : List (Int × Int)) : ∀ u ∈ l.flatMap twoCells, u.oneCell' = true := fun u hu => by
  obtain ⟨p, _, hp⟩ := List.mem_flatMap.1 hu
  exact two_one p u hp

set_option maxHeartbeats 4000000 in
set_option maxRecDepth 100000 in
theorem r10Spots_any {w : World} {lo b : Nat} {s : CSt} (h : R10At w lo b s) : Calls Try.prog 17 #[.pointer (some ⟨b, 0, none⟩)] w (SpotsOut w (cSpots s)) := by
  obtain ⟨A, c, hS⟩ := h.sees
  have hW := h.1
  obtain ⟨N, hN⟩ : ∃ N, N = s.l.length := ⟨_, rfl⟩
  obtain ⟨a, ha⟩ : ∃ a, a = s.at_ := ⟨_, rfl⟩
  have hN4 : N ≤ 4096 := by rw [hN]; exact hW.few
  have hcell : ∀ w', Below w.heap.size w w' → w'.cell? ⟨b, 0, none⟩ = some (.slice A N c) ∧ w'.cell? ⟨b, 1, none⟩ = some (.int .i64 (a : Int)) := fun w' hb => by
    rw [hN, ha]
    exact ⟨(hS.blk.below hb hS.blk.lt).cell 0, (hS.blk.below hb hS.blk.lt).cell 1⟩
  have c0 : ∀ q, (w.drewN q).cell? ⟨b, 0, none⟩ = some (.slice A N c) := fun q => (hcell _ (below_drewN (Below.refl _ _) q)).1
  have c1 : ∀ q, (w.drewN q).cell? ⟨b, 1, none⟩ = some (.int .i64 (a : Int)) := fun q => (hcell _ (below_drewN (Below.refl _ _) q)).2
  have HCE := Lib.hid hcell
  have HP := Lib.hid hS.see
  rw [← hN] at HP
  have HSO := Lib.hid hW.some
  obtain ⟨P, hP⟩ : ∃ P, P = cSpots s := ⟨_, rfl⟩
  rw [← hP]
  unfold cSpots at hP
  rw [← ha, ← hN] at hP
  clear h hS hW hN ha hcell
  rcases Nat.lt_or_ge a N with hlt | hge
  · have d1 : decide ((N : Int) ≤ (a : Int)) = false := decide_eq_false (by omega)
    have d1n : decide (N ≤ a) = false := decide_eq_false (by omega)
    have p0 : (0 : Int) ≤ (a : Int) := by omega
    have p1 : (a : Int) < (N : Int) := by omega
    rw [if_pos hlt] at hP
    obtain ⟨pa, x, SA, c2, rfl, hx, -, -, a1, -, sa1⟩ := HP.out.at a hlt
    have hpx := pAt_eq hx
    rw [hpx] at hP
    have hxs := HSO.out x (List.mem_of_getElem? hx)
    rw [← hP] at a1 sa1 hxs
    obtain ⟨sa, rfl⟩ : ∃ ad, SA = some ad := by
      cases SA with
      | none => have := sa1.nil rfl; omega
      | some ad => exact ⟨ad, rfl⟩
    obtain ⟨n, hn⟩ : ∃ n, n = P.length := ⟨_, rfl⟩
    rw [← hn] at a1 sa1
    have hn63 : n ≤ 9223372036854775807 := sa1.fit
    have HNL := Lib.hid hn
    have HSA := Lib.hid sa1
    have HLT : Hid ((P.flatMap twoCells).length = n * 2) := Lib.hid (by rw [two_len, hn])
    have HONE := Lib.hid (twos_one P)
    have HSRC : Hid (∀ w', Below w.heap.size w w' → ∀ (j : Nat) (u : Value), (P.flatMap twoCells)[j]? = some u → w'.cell? (sa.add j) = some u) := Lib.hid (fun w' hb => pairs_src (sa1.below hb))
    have HSS : Hid (∀ w', Below w.heap.size w w' → w'.cell? ⟨b, 0, none⟩ = some (.slice (some pa) N c) ∧ w'.cell? ⟨b, 1, none⟩ = some (.int .i64 (a : Int)) ∧ w'.cell? ⟨(pa.add (a * 2)).block, (pa.add (a * 2)).off + 1, none⟩ = some (.slice (some sa) n c2)) := Lib.hid (fun w' hb => ⟨(HCE.out w' hb).1, (HCE.out w' hb).2, below_cells hb a1⟩)
    obtain ⟨i1, hi1, hy0, hy1, hy2⟩ := info_parts spotInfo
    have hsz : n ≤ 4096 := by omega
    clear hx hpx hP hxs hn a1 sa1
    go_enter Try.func17, Try.ntmps17
    go_wp2
    go_quiet (fail)
    go_wp2_with fail
    refine wp_region_held_drew (S := fun w' => w'.cell? ⟨b, 0, none⟩ = some (.slice (some pa) N c) ∧ w'.cell? ⟨b, 1, none⟩ = some (.int .i64 (a : Int)) ∧ w'.cell? ⟨(pa.add (a * 2)).block, (pa.add (a * 2)).off + 1, none⟩ = some (.slice (some sa) n c2)) (by kernel_rfl) (HSS.out (w.drewN nq) (below_drewN (Below.refl w.heap.size w) nq)) (fun hHeld => ?_)
    obtain ⟨u0, hu0⟩ : ∃ z, z = (w.drewN nq).drew := ⟨_, rfl⟩
    rw [← hu0]
    have HBU : Hid (Below w.heap.size w u0) := Lib.hid (by rw [hu0]; exact (below_drewN (Below.refl w.heap.size w) _).drew)
    have hSu := HSS.out _ HBU.out
    clear hu0
    refine wpAnyH_take (i := 1) (oi := ?oiy11) (v := ?vy11) ?hiy11 (by kernel_rfl) (by kernel_rfl) (by kernel_rfl) ?hQy11 (Or.inl ⟨?hwy11, ?hyy11⟩) (by assumption) ?resty11
    case hiy11 => (first | (simp only [List.getElem?_toArray, List.getElem?_cons_zero, List.getElem?_cons_succ]; rfl) | rfl)
    case hQy11 => exact fun _ _ _ h => h
    case hwy11 => rfl
    case hyy11 => ((intro w hSw; go_simp); first | done | with_reducible rfl)
    try simp only [Act.put, List.setIfInBounds_toArray, List.set_cons_zero, List.set_cons_succ]
    refine wpAnyH_take (i := 5) (oi := ?oiy25) (v := ?vy25) ?hiy25 (by kernel_rfl) (by kernel_rfl) (by kernel_rfl) ?hQy25 (Or.inl ⟨?hwy25, ?hyy25⟩) (by assumption) ?resty25
    case hiy25 => (first | (simp only [List.getElem?_toArray, List.getElem?_cons_zero, List.getElem?_cons_succ]; rfl) | rfl)
    case hQy25 => exact fun _ _ _ h => h
    case hwy25 => rfl
    case hyy25 => ((intro w hSw; go_simp); first | done | with_reducible rfl)
    try simp only [Act.put, List.setIfInBounds_toArray, List.set_cons_zero, List.set_cons_succ]
    refine wpAnyH_take (i := 2) (oi := ?oiy32) (v := ?vy32) ?hiy32 (by kernel_rfl) (by kernel_rfl) (by kernel_rfl) ?hQy32 (Or.inl ⟨?hwy32, ?hyy32⟩) (by assumption) ?resty32
    case hiy32 => (first | (simp only [List.getElem?_toArray, List.getElem?_cons_zero, List.getElem?_cons_succ]; rfl) | rfl)
    case hQy32 => exact fun _ _ _ h => h
    case hwy32 => rfl
    case hyy32 => ((intro w hSw; go_simp); first | done | with_reducible rfl)
    try simp only [Act.put, List.setIfInBounds_toArray, List.set_cons_zero, List.set_cons_succ]
    refine wpAnyH_take (i := 6) (oi := ?oiy46) (v := ?vy46) ?hiy46 (by kernel_rfl) (by kernel_rfl) (by kernel_rfl) ?hQy46 (Or.inl ⟨?hwy46, ?hyy46⟩) (by assumption) ?resty46
    case hiy46 => (first | (simp only [List.getElem?_toArray, List.getElem?_cons_zero, List.getElem?_cons_succ]; rfl) | rfl)
    case hQy46 => exact fun _ _ _ h => h
    case hwy46 => rfl
    case hyy46 => ((intro w hSw; go_simp); first | done | with_reducible rfl)
    try simp only [Act.put, List.setIfInBounds_toArray, List.set_cons_zero, List.set_cons_succ]
    refine wpAnyH_take (i := 3) (oi := ?oiy53) (v := ?vy53) ?hiy53 (by kernel_rfl) (by kernel_rfl) (by kernel_rfl) ?hQy53 (Or.inl ⟨?hwy53, ?hyy53⟩) (by assumption) ?resty53
    case hiy53 => (first | (simp only [List.getElem?_toArray, List.getElem?_cons_zero, List.getElem?_cons_succ]; rfl) | rfl)
    case hQy53 => exact fun _ _ _ h => h
    case hwy53 => rfl
    case hyy53 => ((intro w hSw; go_simp); first | done | with_reducible rfl)
    try simp only [Act.put, List.setIfInBounds_toArray, List.set_cons_zero, List.set_cons_succ]
    refine wpAnyH_take (i := 7) (oi := ?oiy67) (v := ?vy67) ?hiy67 (by kernel_rfl) (by kernel_rfl) (by kernel_rfl) ?hQy67 (Or.inl ⟨?hwy67, ?hyy67⟩) (by assumption) ?resty67
    case hiy67 => (first | (simp only [List.getElem?_toArray, List.getElem?_cons_zero, List.getElem?_cons_succ]; rfl) | rfl)
    case hQy67 => exact fun _ _ _ h => h
    case hwy67 => rfl
    case hyy67 => ((intro w hSw; go_simp); first | done | with_reducible rfl)
    try simp only [Act.put, List.setIfInBounds_toArray, List.set_cons_zero, List.set_cons_succ]
    refine wpAnyH_take (i := 4) (oi := ?oiy74) (v := ?vy74) ?hiy74 (by kernel_rfl) (by kernel_rfl) (by kernel_rfl) ?hQy74 (Or.inl ⟨?hwy74, ?hyy74⟩) (by assumption) ?resty74
    case hiy74 => (first | (simp only [List.getElem?_toArray, List.getElem?_cons_zero, List.getElem?_cons_succ]; rfl) | rfl)
    case hQy74 => exact fun _ _ _ h => h
    case hwy74 => rfl
    case hyy74 => ((intro w hSw; go_simp); first | done | with_reducible rfl)
    try simp only [Act.put, List.setIfInBounds_toArray, List.set_cons_zero, List.set_cons_succ]
    refine wpAnyH_take (i := 8) (oi := ?oiy88) (v := ?vy88) ?hiy88 (by kernel_rfl) (by kernel_rfl) (by kernel_rfl) ?hQy88 (Or.inl ⟨?hwy88, ?hyy88⟩) (by assumption) ?resty88
    case hiy88 => (first | (simp only [List.getElem?_toArray, List.getElem?_cons_zero, List.getElem?_cons_succ]; rfl) | rfl)
    case hQy88 => exact fun _ _ _ h => h
    case hwy88 => rfl
    case hyy88 => ((intro w hSw; go_simp); first | done | with_reducible rfl)
    try simp only [Act.put, List.setIfInBounds_toArray, List.set_cons_zero, List.set_cons_succ]
    refine wpAnyH_take (i := 9) (oi := ?oiy99) (v := ?vy99) ?hiy99 (by kernel_rfl) (by kernel_rfl) (by kernel_rfl) ?hQy99 (Or.inl ⟨?hwy99, ?hyy99⟩) (by assumption) ?resty99
    case hiy99 => (first | (simp only [List.getElem?_toArray, List.getElem?_cons_zero, List.getElem?_cons_succ]; rfl) | rfl)
    case hQy99 => exact fun _ _ _ h => h
    case hwy99 => rfl
    case hyy99 => ((intro w hSw; go_simp); first | done | with_reducible rfl)
    try simp only [Act.put, List.setIfInBounds_toArray, List.set_cons_zero, List.set_cons_succ]
    refine wpAnyH_take (i := 10) (oi := ?oiy1010) (v := ?vy1010) ?hiy1010 (by kernel_rfl) (by kernel_rfl) (by kernel_rfl) ?hQy1010 (Or.inl ⟨?hwy1010, ?hyy1010⟩) (by assumption) ?resty1010
    case hiy1010 => (first | (simp only [List.getElem?_toArray, List.getElem?_cons_zero, List.getElem?_cons_succ]; rfl) | rfl)
    case hQy1010 => exact fun _ _ _ h => h
    case hwy1010 => rfl
    case hyy1010 => ((intro w hSw; go_simp); first | done | with_reducible rfl)
    try simp only [Act.put, List.setIfInBounds_toArray, List.set_cons_zero, List.set_cons_succ]
    refine wpAnyH_take (i := 11) (oi := ?oiy1111) (v := ?vy1111) ?hiy1111 (by kernel_rfl) (by kernel_rfl) (by kernel_rfl) ?hQy1111 (Or.inl ⟨?hwy1111, ?hyy1111⟩) (by assumption) ?resty1111
    case hiy1111 => (first | (simp only [List.getElem?_toArray, List.getElem?_cons_zero, List.getElem?_cons_succ]; rfl) | rfl)
    case hQy1111 => exact fun _ _ _ h => h
    case hwy1111 => rfl
    case hyy1111 => ((intro w hSw; go_simp); first | done | with_reducible rfl)
    try simp only [Act.put, List.setIfInBounds_toArray, List.set_cons_zero, List.set_cons_succ]
    refine wpAnyH_ready (rs := [0]) (by kernel_rfl) (by simp) ?_
    refine AllReadyH.cons (o := ?oy12) ?hy12 ?sy12 AllReadyH.nil
    case hy12 => (simp only [List.getElem?_toArray, List.getElem?_cons_zero, List.getElem?_cons_succ]; rfl)
    case sy12 =>
      intro K hK
      go_simp
      obtain ⟨u1, hu1⟩ : ∃ z, z = u0.alloc (.cells #[] 53) := ⟨_, rfl⟩
      have HO : Hid (u1.ownsRow w.heap.size 53 2 (.slice (some ⟨u0.heap.size, 0, none⟩) 0 0) 0 []) := Lib.hid (by rw [hu1]; exact rowBase_le (World.ownsRow_made u0 #[] 0 (Nat.le_refl _) (Nat.zero_le _) rfl) HBU.out.size)
      have HB1 : Hid (Below w.heap.size w u1) := Lib.hid (by rw [hu1]; exact HBU.out.alloc HBU.out.size _)
      rw [← hu1]
      have hS1 := HSS.out _ HB1.out
      clear hu1
      refine hK.out _ _ (HSS.out _ HB1.out) (fun hy13 => ?_)
      clear hK K
      try simp only [Act.put, List.setIfInBounds_toArray, List.set_cons_zero, List.set_cons_succ]
      refine wpAnyH_ready (rs := [12]) (by kernel_rfl) (by simp) ?_
      refine AllReadyH.cons (o := ?oy14) ?hy14 ?sy14 AllReadyH.nil
      case hy14 => (simp only [List.getElem?_toArray, List.getElem?_cons_zero, List.getElem?_cons_succ]; rfl)
      case sy14 =>
        intro K hK
        refine step_append_recK _ rfl (.tmp 13) (.tmp 24) 38 rfl w.heap.size 53 i1 _ 2 16 Try.underlying38 hi1 hy0 hy1 hy2 rfl (by decide) _ 0 [] rfl HO.out sa n c2 (P.flatMap twoCells) rfl HLT.out (HSRC.out _ HB1.out) HONE.out (by unfold maxLen; omega) (by omega) HB1.out.size ?_
        intro v2 u2 hw2 hg2 _
        rw [Nat.zero_add, List.nil_append] at hw2
        obtain ⟨A2, c3, hv2⟩ := own_slice hw2
        subst hv2
        have HWL := Lib.hid hw2
        have HB2 := Lib.hid (HB1.out.grown hg2 HB1.out.size (fun g e => (HO.out.lt g e).1))
        have hS2 := HSS.out _ HB2.out
        clear hw2 hg2
        refine hK.out _ _ (HSS.out _ HB2.out) (fun hy15 => ?_)
        clear hK K
        try simp only [Act.put, List.setIfInBounds_toArray, List.set_cons_zero, List.set_cons_succ]
        refine wpAnyH_take (i := 13) (oi := ?oiy1613) (v := ?vy1613) ?hiy1613 (by kernel_rfl) (by kernel_rfl) (by kernel_rfl) ?hQy1613 (Or.inl ⟨?hwy1613, ?hyy1613⟩) (by assumption) ?resty1613
        case hiy1613 => (first | (simp only [List.getElem?_toArray, List.getElem?_cons_zero, List.getElem?_cons_succ]; rfl) | rfl)
        case hQy1613 => exact fun _ _ _ h => h
        case hwy1613 => rfl
        case hyy1613 => ((intro w hSw; go_simp); first | done | with_reducible rfl)
        try simp only [Act.put, List.setIfInBounds_toArray, List.set_cons_zero, List.set_cons_succ]
        refine wpAnyH_done (by kernel_rfl) ?_ _
        go_wp2
        go_ret
        exact ⟨A2, c3, by rw [← HNL.out]; rfl, by rw [← HNL.out]; exact PairsIn.ownTwo HWL.out HNL.out.symm (by unfold maxLen; omega) HSA.out.vals, HB2.out⟩
  · have d1 : decide ((N : Int) ≤ (a : Int)) = true := decide_eq_true (by omega)
    have d1n : decide (N ≤ a) = true := decide_eq_true hge
    rw [if_neg (by omega)] at hP
    subst hP
    go_enter Try.func17, Try.ntmps17
    go_wp2
    go_quiet (fail)
    go_wp2
    go_ret
    exact ⟨_, _, rfl, ⟨rfl, by unfold maxLen; simp, by simp, fun _ => rfl, fun ad e => by cases e⟩, below_drewN (Below.refl _ _) _⟩

set_option maxHeartbeats 4000000 in
set_option maxRecDepth 100000 in
theorem r10New_any (w : World) (A : Option Addr) (n c : Nat) (x : Nm) (hx : BytesIn w A n x) (hc : n ≤ c) (hn : n ≤ 1099511627776) {l : List Pst} {E : Int} (hg : getP x = (l, E)) :
    Calls Try.prog 12 #[.slice A n c] w fun e w' => Below w.heap.size w w' ∧ ((E ≠ 0 ∧ e = .returned (.tuple #[.pointer none, .int .i64 E])) ∨ (E = 0 ∧ ∃ b, e = .returned (.tuple #[.pointer (some ⟨b, 0, none⟩), .int .i64 0]) ∧ w.heap.size ≤ b ∧ R10At w' w.heap.size b (cStart l))) := by
  have HC := Lib.hid (r9Get_any w A n c x hx hc hn)
  rw [hg] at HC
  have hv : E = 0 → ValidP l := fun h => by
    have h1 := getP_some (b := x) (by rw [hg]; exact h)
    have h2 := getP_fit (b := x)
    rw [hg] at h1 h2
    exact (check_ok h2).1 h1.1
  have HV := Lib.hid hv
  clear hx hg hv
  go_enter Try.func12, Try.ntmps12
  go_wp2_with fail
  refine HC.out.mono ?_
  rintro e w1 ⟨v, rfl, ho, hb1⟩
  simp only at ho
  have HO := Lib.hid ho
  have HB1 := Lib.hid hb1
  obtain ⟨A1, c1, hv1⟩ : ∃ A1 c1, v = .slice A1 l.length c1 := by
    obtain ⟨R, _, h1, _⟩ := ho
    exact own_slice h1
  subst hv1
  clear ho hb1
  by_cases hE : E = 0
  · subst hE
    have hV := HV.out rfl
    have hcw : CWF ⟨l, 0, 0, -1⟩ := ⟨hV.few, Nat.zero_le _, ⟨by simp, by simp⟩, by simp, by simp only; omega, fun x hx => ⟨hV.some x hx, hV.spots x hx⟩⟩
    have HR : Hid (R10At (w1.alloc (.cells #[.slice A1 l.length c1, .int .i64 0, .int .i64 0, .int .i64 (-1)] 42)) w.heap.size w1.heap.size ⟨l, 0, 0, -1⟩) := Lib.hid ⟨hcw, w1, A1, c1, HO.out, Nat.le_refl _, fun i _ hi => Below.heap_alloc w1 _ i hi, Blk.new _ _ _⟩
    have hlo := HB1.out.size
    clear hV hcw
    go_wp2_with fail
    refine (r10stand_any HR.out hlo).mono ?_
    rintro e w2 ⟨rfl, h2, hk2⟩
    have H2 := Lib.hid h2
    have HB2 : Hid (Below w.heap.size w w2) := Lib.hid ((HB1.out.alloc HB1.out.size _).trans (hk2.toBelow (by have := HB1.out.size; simp; omega) (fun i hi => by rw [hi]; exact HB1.out.size)))
    clear h2 hk2
    go_wp2
    go_ret2
    exact ⟨HB2.out, _, rfl, HB1.out.size, H2.out⟩
  · have d2 : (E == 0) = false := by simpa using hE
    have d2' : (E != 0) = true := by simpa using hE
    have HE := Lib.hid hE
    clear hE
    go_wp2
    go_ret2
    exact ⟨HB1.out, .inl ⟨HE.out, rfl⟩⟩
end Go.Proofs.Ythmjanhdjchdbaa
