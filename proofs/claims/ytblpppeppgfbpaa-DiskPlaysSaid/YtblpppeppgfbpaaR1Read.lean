/- The document's disk: Used and Read. -/
import Derived.Test.YtblpppeppgfbpaaR1Disk
import Derived.Deep.RegionHeld3
namespace Go.Proofs.Ytblpppeppgfbpaa
open Go.RowKit Go.Maps Go.WideMaps

theorem inoCells_at : ∀ (l : List (Nm × Nat)) (r : List Value) (i : Nat) (x : Nm × Nat) (v : Value), l[i]? = some x → r[i]? = some v → (inoCells l r)[i * 2]? = some v ∧ (inoCells l r)[i * 2 + 1]? = some (.int .i64 x.2)
  | y :: l, u :: r, 0, x, v, h, h' => by
    simp at h h'
    subst h h'
    exact ⟨rfl, rfl⟩
  | y :: l, u :: r, i + 1, x, v, h, h' => by
    have := inoCells_at l r i x v (by simpa using h) (by simpa using h')
    simpa [inoCells, Nat.add_mul] using this
/-- Where a file lies. -/
theorem IsR1.inode {w : World} {b : Nat} {G : Nat → Prop} {r : RSt} {vi vc : Value} {A : Option Addr} {c : Nat} {B : Option Addr} {cb : Nat} {svs : List Value} (h : IsR1 w b G r vi vc A c B cb svs) {j : Nat} {x : Nm × Nat} (hx : r.ino[j]? = some x) :
    ∃ gi cap D cd, vi = .slice (some ⟨gi, 0, none⟩) r.ino.length cap ∧ svs[j]? = some (.slice D x.1.length cd) ∧ w.cell? ⟨gi, j * 2, none⟩ = some (.slice D x.1.length cd) ∧ w.cell? ⟨gi, j * 2 + 1, none⟩ = some (.int .i64 x.2) ∧ x.1.length ≤ cd ∧ BytesIn w D x.1.length x.1 ∧ ∀ ad, D = some ad → 0 < x.1.length → G ad.block := by
  have hl := (List.getElem?_eq_some_iff.1 hx).1
  obtain ⟨sv, hsv⟩ : ∃ sv, svs[j]? = some sv := ⟨_, List.getElem?_eq_getElem (by rw [h.isl]; exact hl)⟩
  obtain ⟨D, cd, rfl, h2, h3, h4⟩ := h.dat j sv x hsv hx
  obtain ⟨c1, c2⟩ := inoCells_at r.ino svs j x _ hx hsv
  rcases h.ino.2 with ⟨_, h0⟩ | ⟨g, cap, cur, hv, _⟩
  · omega
  · have e1 := h.ino.cells (g := g) (by rw [hv]; rfl) _ _ c1
    have e2 := h.ino.cells (g := g) (by rw [hv]; rfl) _ _ c2
    rw [Addr.add_mid] at e1 e2
    simp only [Nat.zero_add] at e1 e2
    exact ⟨g, cap, D, cd, hv, hsv, e1, e2, h2, h3, h4⟩
def rDat (r : RSt) (j : Nat) : Nm := ((r.ino[j]?).map (·.1)).getD []
theorem rDat_at {r : RSt} {j : Nat} {x : Nm × Nat} (h : r.ino[j]? = some x) : rDat r j = x.1 := by unfold rDat; rw [h]; rfl
def rSum (r : RSt) (d : Dir) : Nat := (d.map fun p => (rDat r p.2).length).sum
theorem rSum_snoc (r : RSt) (d : Dir) (p : Nm × Nat) : rSum r (d ++ [p]) = rSum r d + (rDat r p.2).length := by simp [rSum]
theorem rDat_le {r : RSt} (h : RWF r) (j : Nat) : (rDat r j).length ≤ 262144 := by
  unfold rDat
  cases hx : r.ino[j]? with
  | none => simp
  | some x => exact (h.fit x (List.mem_of_getElem? hx)).2
theorem rSum_le {r : RSt} (h : RWF r) (d : Dir) : rSum r d ≤ d.length * 262144 := by
  induction d with
  | nil => simp [rSum]
  | cons p t ih =>
    have := rDat_le h p.2
    simp only [rSum, List.map_cons, List.sum_cons, List.length_cons] at ih ⊢
    omega

set_option maxHeartbeats 4000000 in
set_option maxRecDepth 100000 in
theorem r1Used_any (w : World) (F : Nat → Prop) (b : Nat) (r : RSt) (hR : R1At w F b r) :
    Calls Try.prog 14 #[at0 b] w fun e w' => e = .returned (.int .i64 (rSum r r.dir)) ∧ ∃ q, w' = w.drewN q := by
  obtain ⟨G, vi, vc, A, c, B, cb, svs, h, hF, hlt⟩ := hR
  have c1 := h.blk.cell 1
  have c2 := h.blk.cell 2
  simp at c1 c2
  have H := Lib.hid h
  have hnd := h.wf.ndir
  have hni := h.wf.nino
  obtain ⟨n, hn⟩ : ∃ n, n = r.dir.length := ⟨_, rfl⟩
  rw [← hn] at c2 hnd
  have HN := Lib.hid hn
  clear h hn
  unfold at0
  go_enter Try.func14, Try.ntmps14
  go_wp2
  go_loopw [3, 4] (fun s i wr => ∃ k q : Nat, k ≤ n ∧ i = .int .i64 k ∧ s = .int .i64 (rSum r (r.dir.take k)) ∧ wr = w.drewN q) (fun _ i _ => n - (intOf i).toNat)
  case atStart => exact ⟨0, 0, by omega, rfl, rfl, rfl⟩
  case round =>
    obtain ⟨k, q, hk, rfl, rfl, rfl⟩ := hrel
    obtain ⟨S, hS⟩ : ∃ S, S = rSum r (r.dir.take k) := ⟨_, rfl⟩
    rw [← hS]
    have HS := Lib.hid hS
    have hSl := rSum_le H.out.wf (r.dir.take k)
    rw [← hS, List.length_take] at hSl
    clear hS
    rcases Nat.lt_or_ge k n with hlt | hge
    · have hlt' : (k : Int) < (n : Int) := by omega
      have p0 : (0 : Int) ≤ (k : Int) := by omega
      obtain ⟨ad, ⟨pn, j⟩, rfl, hp, d1, d2⟩ := H.out.dir.at k (by rw [← HN.out]; exact hlt)
      have hj := H.out.wf.fdir _ (List.mem_of_getElem? hp)
      obtain ⟨x, hx⟩ : ∃ x, r.ino[j]? = some x := ⟨_, List.getElem?_eq_getElem hj⟩
      obtain ⟨gi, cap, D, cd, rfl, _, e1, e2, e3, e4, e5⟩ := H.out.inode hx
      have hxl := (H.out.wf.fit x (List.mem_of_getElem? hx)).2
      have hst : rSum r (r.dir.take (k + 1)) = S + x.1.length := by rw [take_snocD hp, rSum_snoc, ← HS.out, rDat_at hx]
      have HST := Lib.hid hst
      obtain ⟨T, hT⟩ : ∃ T, T = S + x.1.length := ⟨_, rfl⟩
      have hTz : IntKind.i64.wrap ((S : Int) + (x.1.length : Int)) = (T : Int) := by rw [IntWalk.i64_in _ (by omega)]; omega
      have HT := Lib.hid hT
      have q0 : (0 : Int) ≤ (j : Int) := by omega
      have q1 : (j : Int) < (r.ino.length : Int) := by have : j < r.ino.length := hj; omega
      simp only at d2
      clear hp hst hT e2 e3 e4 e5 hj hx d1
      go_wp2_with fail
      go_quiet (fail)
      go_wp2
      go_roundw
      case rel => exact ⟨k + 1, _, by omega, by go_num, by rw [HST.out, ← HT.out], rfl⟩
      case measure => simp [intOf]; omega
    · obtain rfl : k = n := by omega
      have hlz : ¬ ((k : Int) < (k : Int)) := by omega
      have hfin : S = rSum r r.dir := by rw [HS.out, List.take_of_length_le (by rw [← HN.out]; exact Nat.le_refl _)]
      have HF := Lib.hid hfin
      clear hfin
      go_wp2
      go_ret
      exact ⟨by rw [← HF.out]; rfl, _, rfl⟩

def rRead (r : RSt) (k : Nm) : Nm × Int :=
  if r.off then ([], 14) else match dget r.dir k with | none => ([], 12) | some j => (rDat r j, 0)
theorem dfind_dget (d : Dir) (k : Nm) : (dget d k = none ∧ dfind d k = -1) ∨ ∃ (i : Nat) (p : Nm × Nat), d[i]? = some p ∧ dget d k = some p.2 ∧ dfind d k = i := by
  unfold dget dfind
  cases h : d.findIdx? (fun p => p.1 == k) with
  | none =>
    rw [List.findIdx?_eq_none_iff] at h
    refine .inl ⟨?_, rfl⟩
    rw [Option.map_eq_none_iff, List.find?_eq_none]
    intro p hp
    simpa using h p hp
  | some i =>
    rw [List.findIdx?_eq_some_iff_getElem] at h
    obtain ⟨h1, h2, h3⟩ := h
    refine .inr ⟨i, d[i], List.getElem?_eq_getElem h1, ?_, rfl⟩
    have h4 : d.find? (fun p => p.1 == k) = some d[i] := List.find?_eq_some_iff_getElem.2 ⟨h2, i, h1, rfl, fun j hj => by simpa using h3 j hj⟩
    rw [h4]
    rfl

set_option linter.unusedSimpArgs false in
set_option maxHeartbeats 4000000 in
set_option maxRecDepth 100000 in
theorem r1Read_any (w : World) (F : Nat → Prop) (b : Nat) (r : RSt) (hR : R1At w F b r) (nm : ByteArray) :
    Calls Try.prog 12 #[at0 b, .string nm] w fun e w' => ∃ v, e = .returned (.tuple #[v, .int .i64 (rRead r nm.data.toList).2]) ∧ w'.ownsRow w.heap.size 5 1 v (rRead r nm.data.toList).1.length ((rRead r nm.data.toList).1.map byteV) ∧ Below w.heap.size w w' := by
  obtain ⟨G, vi, vc, A, c, B, cb, svs, h, hF, hlt⟩ := hR
  obtain ⟨i0, hi, hz0, hz1, hz2⟩ := info_parts byteInfo
  have c1 := h.blk.cell 1
  have c2 := h.blk.cell 2
  have c8 := h.blk.cell 8
  simp at c1 c2 c8
  have H := Lib.hid h
  have hnd := h.wf.ndir
  obtain ⟨n, hn⟩ : ∃ n, n = r.dir.length := ⟨_, rfl⟩
  have hD := h.dir
  rw [← hn] at c2 hnd hD
  have HN := Lib.hid hn
  have HD := Lib.hid hD
  obtain ⟨R, hRR⟩ : ∃ R, R = rRead r nm.data.toList := ⟨_, rfl⟩
  rw [← hRR]
  unfold rRead at hRR
  clear h hn hD
  unfold at0
  by_cases ho : r.off = true
  · rw [if_pos ho] at hRR
    rw [ho] at c8
    have HRR := Lib.hid hRR
    clear hRR ho
    go_enter Try.func12, Try.ntmps12
    go_wp2
    go_ret2
    rw [HRR.out]
    exact ⟨_, rfl, World.ownsRow_nil _ _ _ _, Below.refl _ _⟩
  have ho' : r.off = false := by simpa using ho
  rw [if_neg ho] at hRR
  rw [ho'] at c8
  clear ho ho'
  rcases dfind_dget r.dir nm.data.toList with ⟨g1, g2⟩ | ⟨i, ⟨pn, j⟩, g0, g1, g2⟩
  · rw [g1] at hRR
    have HRR := Lib.hid hRR
    have G2 := Lib.hid g2
    clear hRR g1 g2
    go_enter Try.func12, Try.ntmps12
    go_wp2_with fail
    refine (r1find_any w A n c r.dir HD.out nm).mono ?_
    rintro e w1 ⟨rfl, hw⟩
    rw [hw, G2.out]
    clear hw
    go_wp2
    go_ret2
    rw [HRR.out]
    exact ⟨_, rfl, World.ownsRow_nil _ _ _ _, Below.refl _ _⟩
  · rw [g1] at hRR
    have hin : i < n := by rw [HN.out]; exact (List.getElem?_eq_some_iff.1 g0).1
    have hj := H.out.wf.fdir _ (List.mem_of_getElem? g0)
    obtain ⟨x, hx⟩ : ∃ x, r.ino[j]? = some x := ⟨_, List.getElem?_eq_getElem hj⟩
    simp only [rDat_at hx] at hRR
    obtain ⟨gi, cap, D, cd, rfl, _, e1, e2, e3, e4, e5⟩ := H.out.inode hx
    have hxl := (H.out.wf.fit x (List.mem_of_getElem? hx)).2
    obtain ⟨ad, p', rfl, hp', d1, d2⟩ := HD.out.at i hin
    rw [g0] at hp'
    cases hp'
    have p0 : (0 : Int) ≤ (i : Int) := by omega
    have hlt' : (i : Int) < (n : Int) := by omega
    have q0 : (0 : Int) ≤ (j : Int) := by omega
    have q1 : (j : Int) < (r.ino.length : Int) := by have : j < r.ino.length := hj; omega
    have hni : ¬ ((i : Int) < 0) := by omega
    simp only at d2
    have HRR := Lib.hid hRR
    have G2 := Lib.hid g2
    have HX := Lib.hid e4
    obtain ⟨m, hm⟩ : ∃ m, m = x.1.length := ⟨_, rfl⟩
    rw [← hm] at e1 hxl HX
    have HM := Lib.hid hm
    have HC := Lib.hid (show ∀ w', Below w.heap.size w w' → w'.cell? ⟨b, 1, none⟩ = some (.slice (some ⟨gi, 0, none⟩) r.ino.length cap) ∧ w'.cell? ⟨b, 2, none⟩ = some (.slice (some ad) n c) ∧ w'.cell? ⟨(ad.add (i * 2)).block, (ad.add (i * 2)).off + 1, none⟩ = some (.int .i64 j) ∧ w'.cell? ⟨gi, j * 2, none⟩ = some (.slice D m cd) from fun w' hb => ⟨below_cells hb c1, below_cells hb c2, below_cells hb d2, below_cells hb e1⟩)
    clear hRR g0 g1 g2 hj hx e2 e3 e4 e5 d1 hm
    go_enter Try.func12, Try.ntmps12
    go_wp2_with fail
    refine (r1find_any w (some ad) n c r.dir HD.out nm).mono ?_
    rintro e w1 ⟨rfl, hw⟩
    rw [hw, G2.out]
    clear hw
    go_wp2_with fail
    have hB0 : Below w.heap.size w w.drew := (Below.refl _ w).drew
    have HB0 := Lib.hid hB0
    clear hB0
    refine wp_region_held_drew (S := fun w' => w'.cell? ⟨b, 1, none⟩ = some (.slice (some ⟨gi, 0, none⟩) r.ino.length cap) ∧ w'.cell? ⟨b, 2, none⟩ = some (.slice (some ad) n c) ∧ w'.cell? ⟨(ad.add (i * 2)).block, (ad.add (i * 2)).off + 1, none⟩ = some (.int .i64 j) ∧ w'.cell? ⟨gi, j * 2, none⟩ = some (.slice D m cd)) (by kernel_rfl) (HC.out _ HB0.out) (fun hHeld => ?_)
    refine wpAnyH_take (i := 1) (oi := ?oi1) (v := ?v1) ?hi1 (by kernel_rfl) (by kernel_rfl) (by kernel_rfl) ?hQ1 (Or.inl ⟨?hw1, ?hy1⟩) (by assumption) ?rest1
    case hi1 => (first | (simp only [List.getElem?_toArray, List.getElem?_cons_zero, List.getElem?_cons_succ]; rfl) | rfl)
    case hQ1 => exact fun _ _ _ h => h
    case hw1 => rfl
    case hy1 => ((intro w hSw; go_simp); first | done | with_reducible rfl)
    try simp only [Act.put, List.setIfInBounds_toArray, List.set_cons_zero, List.set_cons_succ]
    refine wpAnyH_take (i := 2) (oi := ?oi2) (v := ?v2) ?hi2 (by kernel_rfl) (by kernel_rfl) (by kernel_rfl) ?hQ2 (Or.inl ⟨?hw2, ?hy2⟩) (by assumption) ?rest2
    case hi2 => (first | (simp only [List.getElem?_toArray, List.getElem?_cons_zero, List.getElem?_cons_succ]; rfl) | rfl)
    case hQ2 => exact fun _ _ _ h => h
    case hw2 => rfl
    case hy2 => ((intro w hSw; go_simp); first | done | with_reducible rfl)
    try simp only [Act.put, List.setIfInBounds_toArray, List.set_cons_zero, List.set_cons_succ]
    refine wpAnyH_take (i := 3) (oi := ?oi3) (v := ?v3) ?hi3 (by kernel_rfl) (by kernel_rfl) (by kernel_rfl) ?hQ3 (Or.inl ⟨?hw3, ?hy3⟩) (by assumption) ?rest3
    case hi3 => (first | (simp only [List.getElem?_toArray, List.getElem?_cons_zero, List.getElem?_cons_succ]; rfl) | rfl)
    case hQ3 => exact fun _ _ _ h => h
    case hw3 => rfl
    case hy3 => ((intro w hSw; go_simp); first | done | with_reducible rfl)
    try simp only [Act.put, List.setIfInBounds_toArray, List.set_cons_zero, List.set_cons_succ]
    refine wpAnyH_take (i := 4) (oi := ?oi4) (v := ?v4) ?hi4 (by kernel_rfl) (by kernel_rfl) (by kernel_rfl) ?hQ4 (Or.inl ⟨?hw4, ?hy4⟩) (by assumption) ?rest4
    case hi4 => (first | (simp only [List.getElem?_toArray, List.getElem?_cons_zero, List.getElem?_cons_succ]; rfl) | rfl)
    case hQ4 => exact fun _ _ _ h => h
    case hw4 => rfl
    case hy4 => ((intro w hSw; go_simp); first | done | with_reducible rfl)
    try simp only [Act.put, List.setIfInBounds_toArray, List.set_cons_zero, List.set_cons_succ]
    refine wpAnyH_take (i := 5) (oi := ?oi5) (v := ?v5) ?hi5 (by kernel_rfl) (by kernel_rfl) (by kernel_rfl) ?hQ5 (Or.inl ⟨?hw5, ?hy5⟩) (by assumption) ?rest5
    case hi5 => (first | (simp only [List.getElem?_toArray, List.getElem?_cons_zero, List.getElem?_cons_succ]; rfl) | rfl)
    case hQ5 => exact fun _ _ _ h => h
    case hw5 => rfl
    case hy5 => ((intro w hSw; go_simp); first | done | with_reducible rfl)
    try simp only [Act.put, List.setIfInBounds_toArray, List.set_cons_zero, List.set_cons_succ]
    refine wpAnyH_take (i := 6) (oi := ?oi6) (v := ?v6) ?hi6 (by kernel_rfl) (by kernel_rfl) (by kernel_rfl) ?hQ6 (Or.inl ⟨?hw6, ?hy6⟩) (by assumption) ?rest6
    case hi6 => (first | (simp only [List.getElem?_toArray, List.getElem?_cons_zero, List.getElem?_cons_succ]; rfl) | rfl)
    case hQ6 => exact fun _ _ _ h => h
    case hw6 => rfl
    case hy6 => ((intro w hSw; go_simp); first | done | with_reducible rfl)
    try simp only [Act.put, List.setIfInBounds_toArray, List.set_cons_zero, List.set_cons_succ]
    refine wpAnyH_take (i := 7) (oi := ?oi7) (v := ?v7) ?hi7 (by kernel_rfl) (by kernel_rfl) (by kernel_rfl) ?hQ7 (Or.inl ⟨?hw7, ?hy7⟩) (by assumption) ?rest7
    case hi7 => (first | (simp only [List.getElem?_toArray, List.getElem?_cons_zero, List.getElem?_cons_succ]; rfl) | rfl)
    case hQ7 => exact fun _ _ _ h => h
    case hw7 => rfl
    case hy7 => ((intro w hSw; go_simp); first | done | with_reducible rfl)
    try simp only [Act.put, List.setIfInBounds_toArray, List.set_cons_zero, List.set_cons_succ]
    refine wpAnyH_take (i := 8) (oi := ?oi8) (v := ?v8) ?hi8 (by kernel_rfl) (by kernel_rfl) (by kernel_rfl) ?hQ8 (Or.inl ⟨?hw8, ?hy8⟩) (by assumption) ?rest8
    case hi8 => (first | (simp only [List.getElem?_toArray, List.getElem?_cons_zero, List.getElem?_cons_succ]; rfl) | rfl)
    case hQ8 => exact fun _ _ _ h => h
    case hw8 => rfl
    case hy8 => ((intro w hSw; go_simp); first | done | with_reducible rfl)
    try simp only [Act.put, List.setIfInBounds_toArray, List.set_cons_zero, List.set_cons_succ]
    refine wpAnyH_take (i := 9) (oi := ?oi9) (v := ?v9) ?hi9 (by kernel_rfl) (by kernel_rfl) (by kernel_rfl) ?hQ9 (Or.inl ⟨?hw9, ?hy9⟩) (by assumption) ?rest9
    case hi9 => (first | (simp only [List.getElem?_toArray, List.getElem?_cons_zero, List.getElem?_cons_succ]; rfl) | rfl)
    case hQ9 => exact fun _ _ _ h => h
    case hw9 => rfl
    case hy9 => ((intro w hSw; go_simp); first | done | with_reducible rfl)
    try simp only [Act.put, List.setIfInBounds_toArray, List.set_cons_zero, List.set_cons_succ]
    refine wpAnyH_take (i := 10) (oi := ?oi10) (v := ?v10) ?hi10 (by kernel_rfl) (by kernel_rfl) (by kernel_rfl) ?hQ10 (Or.inl ⟨?hw10, ?hy10⟩) (by assumption) ?rest10
    case hi10 => (first | (simp only [List.getElem?_toArray, List.getElem?_cons_zero, List.getElem?_cons_succ]; rfl) | rfl)
    case hQ10 => exact fun _ _ _ h => h
    case hw10 => rfl
    case hy10 => ((intro w hSw; go_simp); first | done | with_reducible rfl)
    try simp only [Act.put, List.setIfInBounds_toArray, List.set_cons_zero, List.set_cons_succ]
    refine wpAnyH_take (i := 11) (oi := ?oi11) (v := ?v11) ?hi11 (by kernel_rfl) (by kernel_rfl) (by kernel_rfl) ?hQ11 (Or.inl ⟨?hw11, ?hy11⟩) (by assumption) ?rest11
    case hi11 => (first | (simp only [List.getElem?_toArray, List.getElem?_cons_zero, List.getElem?_cons_succ]; rfl) | rfl)
    case hQ11 => exact fun _ _ _ h => h
    case hw11 => rfl
    case hy11 => ((intro w hSw; go_simp); first | done | with_reducible rfl)
    try simp only [Act.put, List.setIfInBounds_toArray, List.set_cons_zero, List.set_cons_succ]
    refine wpAnyH_take (i := 12) (oi := ?oi12) (v := ?v12) ?hi12 (by kernel_rfl) (by kernel_rfl) (by kernel_rfl) ?hQ12 (Or.inl ⟨?hw12, ?hy12⟩) (by assumption) ?rest12
    case hi12 => (first | (simp only [List.getElem?_toArray, List.getElem?_cons_zero, List.getElem?_cons_succ]; rfl) | rfl)
    case hQ12 => exact fun _ _ _ h => h
    case hw12 => rfl
    case hy12 => ((intro w hSw; go_simp); first | done | with_reducible rfl)
    try simp only [Act.put, List.setIfInBounds_toArray, List.set_cons_zero, List.set_cons_succ]
    refine wpAnyH_take (i := 13) (oi := ?oi13) (v := ?v13) ?hi13 (by kernel_rfl) (by kernel_rfl) (by kernel_rfl) ?hQ13 (Or.inl ⟨?hw13, ?hy13⟩) (by assumption) ?rest13
    case hi13 => (first | (simp only [List.getElem?_toArray, List.getElem?_cons_zero, List.getElem?_cons_succ]; rfl) | rfl)
    case hQ13 => exact fun _ _ _ h => h
    case hw13 => rfl
    case hy13 => ((intro w hSw; go_simp); first | done | with_reducible rfl)
    try simp only [Act.put, List.setIfInBounds_toArray, List.set_cons_zero, List.set_cons_succ]
    refine wpAnyH_take (i := 14) (oi := ?oi14) (v := ?v14) ?hi14 (by kernel_rfl) (by kernel_rfl) (by kernel_rfl) ?hQ14 (Or.inl ⟨?hw14, ?hy14⟩) (by assumption) ?rest14
    case hi14 => (first | (simp only [List.getElem?_toArray, List.getElem?_cons_zero, List.getElem?_cons_succ]; rfl) | rfl)
    case hQ14 => exact fun _ _ _ h => h
    case hw14 => rfl
    case hy14 => ((intro w hSw; go_simp); first | done | with_reducible rfl)
    try simp only [Act.put, List.setIfInBounds_toArray, List.set_cons_zero, List.set_cons_succ]
    refine wpAnyH_take (i := 15) (oi := ?oi15) (v := ?v15) ?hi15 (by kernel_rfl) (by kernel_rfl) (by kernel_rfl) ?hQ15 (Or.inl ⟨?hw15, ?hy15⟩) (by assumption) ?rest15
    case hi15 => (first | (simp only [List.getElem?_toArray, List.getElem?_cons_zero, List.getElem?_cons_succ]; rfl) | rfl)
    case hQ15 => exact fun _ _ _ h => h
    case hw15 => rfl
    case hy15 => ((intro w hSw; go_simp); first | done | with_reducible rfl)
    try simp only [Act.put, List.setIfInBounds_toArray, List.set_cons_zero, List.set_cons_succ]
    refine wpAnyH_ready (rs := [0]) (by kernel_rfl) (by simp) ?_
    refine AllReadyH.cons (o := ?oA) ?hiA ?stepA AllReadyH.nil
    case hiA => (simp only [List.getElem?_toArray, List.getElem?_cons_zero, List.getElem?_cons_succ]; rfl)
    intro K hK
    go_simp
    have hB1 := HB0.out.alloc HB0.out.size (.cells #[] 5)
    have hs1 : (w.drew.alloc (.cells #[] 5)).heap.size = w.heap.size + 1 := by simp
    have hin := HX.out.below hB1
    have HIN := Lib.hid hin
    have HB1 := Lib.hid hB1
    clear hin hB1
    refine hK.out _ _ (HC.out _ HB1.out) (fun hHeld1 => ?_)
    clear hK K hHeld
    try simp only [Act.put, List.setIfInBounds_toArray, List.set_cons_zero, List.set_cons_succ]
    refine wpAnyH_ready (rs := [16]) (by kernel_rfl) (by simp) ?_
    refine AllReadyH.cons (o := ?oB) ?hiB ?stepB AllReadyH.nil
    case hiB => (simp only [List.getElem?_toArray, List.getElem?_cons_zero, List.getElem?_cons_succ]; rfl)
    intro K hK
    refine step_append_src _ rfl (.tmp 19) (.tmp 34) 33 rfl w.heap.size 5 i0 (.int .u8 0) 1 Try.underlying33 hi hz0 hz1 hz2 rfl (.slice (some ⟨w.heap.size, 0, none⟩) 0 0) 0 [] rfl (World.ownsRow_made w.drew #[] 0 HB0.out.size (Nat.zero_le _) rfl) D m cd (x.1.map byteV) rfl HIN.out.2.1 (u8_one _) (by unfold maxLen; omega) (by omega) (by simp) ?_
    intro v3 w3 hown hgrow hloc
    rw [Nat.zero_add, List.nil_append] at hown
    have HO := Lib.hid hown
    have HB3 := Lib.hid (HB1.out.grown hgrow (by rw [hs1]; omega) (fun k e => by cases e; exact Nat.le_refl _))
    clear hown hgrow hloc
    refine hK.out _ _ (HC.out _ HB3.out) (fun hHeld2 => ?_)
    clear hK K hHeld1
    try simp only [Act.put, List.setIfInBounds_toArray, List.set_cons_zero, List.set_cons_succ]
    refine wpAnyH_take (i := 17) (oi := ?oi17) (v := ?v17) ?hi17 (by kernel_rfl) (by kernel_rfl) (by kernel_rfl) ?hQ17 (Or.inl ⟨?hw17, ?hy17⟩) (by assumption) ?rest17
    case hi17 => (first | (simp only [List.getElem?_toArray, List.getElem?_cons_zero, List.getElem?_cons_succ]; rfl) | rfl)
    case hQ17 => exact fun _ _ _ h => h
    case hw17 => rfl
    case hy17 => ((intro w hSw; go_simp); first | done | with_reducible rfl)
    try simp only [Act.put, List.setIfInBounds_toArray, List.set_cons_zero, List.set_cons_succ]
    refine wpAnyH_take (i := 18) (oi := ?oi18) (v := ?v18) ?hi18 (by kernel_rfl) (by kernel_rfl) (by kernel_rfl) ?hQ18 (Or.inl ⟨?hw18, ?hy18⟩) (by assumption) ?rest18
    case hi18 => (first | (simp only [List.getElem?_toArray, List.getElem?_cons_zero, List.getElem?_cons_succ]; rfl) | rfl)
    case hQ18 => exact fun _ _ _ h => h
    case hw18 => rfl
    case hy18 => ((intro w hSw; go_simp); first | done | with_reducible rfl)
    try simp only [Act.put, List.setIfInBounds_toArray, List.set_cons_zero, List.set_cons_succ]
    refine wpAnyH_done (by kernel_rfl) ?_ _
    go_wp2
    go_ret2
    rw [HRR.out]
    refine ⟨v3, rfl, ?_, HB3.out⟩
    rw [← HM.out]
    exact HO.out
end Go.Proofs.Ytblpppeppgfbpaa
