/- The document's disk: Names, SameNames, Files. -/
import Derived.Test.YtblpppeppgfbpaaR1Read
import Derived.Test.YtblpppeppgfbpaaSame
namespace Go.Proofs.Ytblpppeppgfbpaa
open Go.RowKit Go.Maps Go.WideMaps

theorem strInfo : (Try.prog.info? 9).map (fun i => (i.zero, i.size, i.bytes)) = some (some (.string ⟨#[]⟩), 1, 16) := by kernel_rfl
theorem R1At.dirOf {w : World} {F : Nat → Prop} {b : Nat} {r : RSt} (h : R1At w F b r) : ∃ A c, w.cell? ⟨b, 2, none⟩ = some (.slice A r.dir.length c) ∧ DirIn w A r.dir.length r.dir := by
  obtain ⟨G, vi, vc, A, c, B, cb, svs, h, _, _⟩ := h
  exact ⟨A, c, by simpa using h.blk.cell 2, h.dir⟩
def nameCells (d : Dir) : List Value := d.map fun p => encStr p.1
set_option maxHeartbeats 4000000 in
set_option maxRecDepth 100000 in
theorem r1Names_any (w : World) (F : Nat → Prop) (b : Nat) (r : RSt) (hR : R1At w F b r) :
    Calls Try.prog 19 #[at0 b] w fun e w' => ∃ v, e = .returned v ∧ w'.ownsRow w.heap.size 9 1 v r.dir.length (nameCells r.dir) ∧ Below w.heap.size w w' := by
  obtain ⟨i0, hi, hz0, hz1, hz2⟩ := info_parts strInfo
  obtain ⟨A, c, k2, hd⟩ := hR.dirOf
  have hnd : r.dir.length ≤ 100000 := by obtain ⟨G, vi, vc, A, c, B, cb, svs, h, _, _⟩ := hR; exact h.wf.ndir
  obtain ⟨n, hn⟩ : ∃ n, n = r.dir.length := ⟨_, rfl⟩
  rw [← hn] at k2 hd hnd ⊢
  have HN := Lib.hid hn
  have HD := Lib.hid hd
  have HC := Lib.hid (show ∀ w', Below w.heap.size w w' → w'.cell? ⟨b, 2, none⟩ = some (.slice A n c) from fun w' hb => below_cells hb k2)
  clear hR hn hd
  unfold at0
  go_enter Try.func19, Try.ntmps19
  go_wp2
  clear k2
  go_loopw [3, 4] (fun v i wr => ∃ k : Nat, k ≤ n ∧ i = .int .i64 k ∧ wr.ownsRow w.heap.size 9 1 v k (nameCells (r.dir.take k)) ∧ Below w.heap.size w wr) (fun _ i _ => n - (intOf i).toNat)
  case atStart => exact ⟨0, by omega, rfl, ⟨rfl, .inl ⟨rfl, rfl⟩⟩, Below.refl _ _⟩
  case round =>
    obtain ⟨k, hk, rfl, hO, hB⟩ := hrel
    have HO := Lib.hid hO
    have HB := Lib.hid hB
    have k2 := HC.out _ hB
    clear hO hB
    rcases Nat.lt_or_ge k n with hlt | hge
    · have hlt' : (k : Int) < (n : Int) := by omega
      have p0 : (0 : Int) ≤ (k : Int) := by omega
      obtain ⟨ad, ⟨pn, pf⟩, rfl, hp, c1, c2⟩ := (HD.out.below HB.out).at k hlt
      have HP := Lib.hid hp
      clear hp c2
      simp only at c1
      go_wp2_with (at_builtin; refine wpList_append_own _ rfl _ _ 49 rfl w.heap.size 9 i0 _ 1 16 Try.underlying49 hi hz0 hz1 hz2 rfl (by decide) _ k _ rfl (World.ownsRow.alloc HO.out _) ⟨wr.heap.size, 0, none⟩ 1 1 [.string ⟨pn.toArray⟩] rfl rfl (by intro i u hu; rw [Addr.add_mid, cell_of_row _ _ _ _ _ _ (heap_alloc_new wr _)]; simpa using hu) (by intro u hu; simp at hu; subst hu; rfl) (by unfold maxLen; omega) (by omega) (by have := HB.out.size; simp; omega) ?_; intro v4 w4 hown4 hgrow4 hnil4; clear hnil4)
      have HB4 := Lib.hid ((HB.out.alloc HB.out.size _).grown hgrow4 (by have := HB.out.size; simp; omega) (fun g hg => (HO.out.lt g hg).1))
      have HO4 := Lib.hid hown4
      clear hown4 hgrow4
      go_roundw
      case rel => exact ⟨k + 1, by omega, by go_num, by rw [take_snocD HP.out]; unfold nameCells; rw [List.map_append]; exact HO4.out, HB4.out⟩
      case measure => simp [intOf]; omega
    · obtain rfl : k = n := by omega
      have hlz : ¬ ((k : Int) < (k : Int)) := by omega
      have htk : r.dir.take k = r.dir := List.take_of_length_le (by rw [← HN.out]; exact Nat.le_refl _)
      have hO := HO.out
      rw [htk] at hO
      have HO2 := Lib.hid hO
      clear htk hO
      go_wp2
      go_ret
      exact ⟨_, rfl, HO2.out, HB.out⟩

/-- A row of names that can be read. -/
structure NamesIn (w : World) (A : Option Addr) (n : Nat) (l : List Nm) : Prop where
  len : l.length = n
  fit : n ≤ 100000
  nil : A = none → n = 0
  cells : ∀ ad, A = some ad → ∀ (i : Nat) (x : Nm), l[i]? = some x → w.cell? (ad.add i) = some (.string ⟨x.toArray⟩)
theorem NamesIn.own {w : World} {base : Nat} {A : Option Addr} {n c : Nat} {l : List Nm} (h : w.ownsRow base 9 1 (.slice A n c) n (l.map encStr)) (hf : n ≤ 100000) : NamesIn w A n l := by
  refine ⟨by have := h.1; simpa using this, hf, fun e => ?_, fun ad e i x hx => ?_⟩
  · rcases h.2 with ⟨_, h0⟩ | ⟨g, cap, cur, h1, _⟩
    · exact h0
    · injection h1 with h1
      rw [h1] at e; cases e
  · rcases h.2 with ⟨_, h0⟩ | ⟨g, cap, cur, hv, _⟩
    · have := (List.getElem?_eq_some_iff.1 hx).1
      have h1 := h.1
      simp at h1
      omega
    · injection hv with hA hn _
      rw [hA] at e
      cases e
      exact h.cells (g := g) (by rw [hA]; rfl) i _ (by rw [List.getElem?_map, hx]; rfl)
theorem NamesIn.below {w w' : World} {A : Option Addr} {n : Nat} {l : List Nm} (h : NamesIn w A n l) (hb : Below w.heap.size w w') : NamesIn w' A n l :=
  ⟨h.len, h.fit, h.nil, fun ad e i x hx => below_cells hb (h.cells ad e i x hx)⟩
theorem NamesIn.at {w : World} {A : Option Addr} {n : Nat} {l : List Nm} (h : NamesIn w A n l) (k : Nat) (hk : k < n) : ∃ ad x, A = some ad ∧ l[k]? = some x ∧ w.cell? (ad.add k) = some (.string ⟨x.toArray⟩) := by
  cases hA : A with
  | none => have := h.nil hA; omega
  | some ad =>
    subst hA
    have hp : l[k]? = some (l[k]'(by rw [h.len]; exact hk)) := List.getElem?_eq_getElem _
    exact ⟨ad, _, rfl, hp, h.cells ad rfl k _ hp⟩
set_option maxHeartbeats 4000000 in
set_option maxRecDepth 100000 in
theorem r1SameNames_any (w : World) (A B : Option Addr) (n m ca cb : Nat) (la lb : List Nm) (ha : NamesIn w A n la) (hb : NamesIn w B m lb) :
    Calls Try.prog 17 #[.slice A n ca, .slice B m cb] w fun e w' => e = .returned (.bool (decide (la = lb))) ∧ ∃ q, w' = w.drewN q := by
  have HA := Lib.hid ha
  have HB := Lib.hid hb
  have HLA := Lib.hid ha.len
  have HLB := Lib.hid hb.len
  have hfa := ha.fit
  clear ha hb
  obtain ⟨R, hR⟩ : ∃ R, R = decide (la = lb) := ⟨_, rfl⟩
  rw [← hR]
  have HR := Lib.hid hR
  clear hR
  by_cases hnm : n = m
  · subst hnm
    have d0 : (((n : Nat) : Int) != ((n : Nat) : Int)) = false := by simp
    go_enter Try.func17, Try.ntmps17
    go_wp2
    go_loopw [5] (fun i wr => ∃ k q : Nat, k ≤ n ∧ i = .int .i64 k ∧ la.take k = lb.take k ∧ wr = w.drewN q) (fun i _ => n - (intOf i).toNat)
    case atStart => exact ⟨0, 0, by omega, rfl, rfl, rfl⟩
    case round =>
      obtain ⟨k, q, hk, rfl, ht, rfl⟩ := hrel
      have HT := Lib.hid ht
      clear ht
      rcases Nat.lt_or_ge k n with hlt | hge
      · have hlt' : (k : Int) < (n : Int) := by omega
        have p0 : (0 : Int) ≤ (k : Int) := by omega
        obtain ⟨pa, xa, rfl, hxa, ca'⟩ := HA.out.at k hlt
        obtain ⟨pb, xb, rfl, hxb, cb'⟩ := HB.out.at k hlt
        have HXA := Lib.hid hxa
        have HXB := Lib.hid hxb
        clear hxa hxb
        by_cases hx : xa = xb
        · subst hx
          have dx : (xa == xa) = true := by simp
          go_wp2_with fail
          go_quiet (fail)
          go_wp2
          go_roundw
          case rel => exact ⟨k + 1, _, by omega, by go_num, by rw [take_snocD HXA.out, take_snocD HXB.out, HT.out], rfl⟩
          case measure => simp [intOf]; omega
        · have d1 : (xa == xb) = false := by simpa using hx
          have hne : ¬ la = lb := fun e => hx (by
            have h1 := HXA.out
            rw [e, HXB.out] at h1
            exact (Option.some.inj h1).symm)
          have HNE := Lib.hid hne
          clear hne hx
          go_wp2_with fail
          go_quiet (fail)
          go_wp2
          go_ret
          refine ⟨?_, _, World.drewN_drewN _ _ _⟩
          rw [HR.out, decide_eq_false HNE.out]
          rfl
      · obtain rfl : k = n := by omega
        have hlz : ¬ ((k : Int) < (k : Int)) := by omega
        have heq : la = lb := by
          have h1 := HT.out
          rwa [List.take_of_length_le (by rw [HLA.out]; exact Nat.le_refl _), List.take_of_length_le (by rw [HLB.out]; exact Nat.le_refl _)] at h1
        have HEQ := Lib.hid heq
        clear heq
        go_wp2
        go_ret
        refine ⟨?_, _, rfl⟩
        rw [HR.out, decide_eq_true HEQ.out]
        rfl
  · have d0 : (((n : Nat) : Int) != ((m : Nat) : Int)) = true := by simpa using fun e => hnm (by omega)
    have hne : ¬ la = lb := fun e => hnm (by rw [← HLA.out, ← HLB.out, e])
    have HNE := Lib.hid hne
    clear hne hnm
    go_enter Try.func17, Try.ntmps17
    go_wp2
    go_ret
    exact ⟨by rw [HR.out, decide_eq_false HNE.out]; rfl, 0, rfl⟩

def rFiles (r : RSt) : List (Nm × Nm) := r.dir.map fun p => (p.1, rDat r p.2)
set_option linter.unusedSimpArgs false in
set_option maxHeartbeats 4000000 in
set_option maxRecDepth 100000 in
theorem r1Files_any (w : World) (F : Nat → Prop) (b : Nat) (r : RSt) (hR : R1At w F b r) :
    Calls Try.prog 22 #[at0 b] w fun e w' => ∃ v, e = .returned v ∧ FilesRow w' w.heap.size v (rFiles r) ∧ Below w.heap.size w w' := by
  obtain ⟨j0, hj, hy0, hy1, hy2⟩ := info_parts byteInfo
  obtain ⟨i0, hi, hz0, hz1, hz2⟩ := info_parts fileInfo
  obtain ⟨G, vi, vc, A, c, B, cb, svs, h, hF, hlt⟩ := hR
  have k1 := h.blk.cell 1
  have k2 := h.blk.cell 2
  simp at k1 k2
  have hnd := h.wf.ndir
  have H := Lib.hid h
  obtain ⟨n, hn⟩ : ∃ n, n = r.dir.length := ⟨_, rfl⟩
  rw [← hn] at k2 hnd
  have HN := Lib.hid hn
  have HC := Lib.hid (show ∀ w', Below w.heap.size w w' → w'.cell? ⟨b, 1, none⟩ = some vi ∧ w'.cell? ⟨b, 2, none⟩ = some (.slice A n c) from fun w' hb => ⟨below_cells hb k1, below_cells hb k2⟩)
  clear h hF hlt hn
  unfold at0
  go_enter Try.func22, Try.ntmps22
  go_wp2
  clear k1 k2
  go_loopw [3, 4] (fun v i wr => ∃ k : Nat, k ≤ n ∧ i = .int .i64 k ∧ FilesRow wr w.heap.size v ((rFiles r).take k) ∧ Below w.heap.size w wr) (fun _ i _ => n - (intOf i).toNat)
  case atStart => exact ⟨0, by omega, rfl, ⟨[], rfl, ⟨rfl, .inl ⟨rfl, rfl⟩⟩, by simp⟩, Below.refl _ _⟩
  case round =>
    obtain ⟨k, hk, rfl, hO, hB⟩ := hrel
    have HFR := Lib.hid hO
    have HB := Lib.hid hB
    obtain ⟨k1, k2⟩ := HC.out _ hB
    clear hO hB
    rcases Nat.lt_or_ge k n with hlt | hge
    · have hlt' : (k : Int) < (n : Int) := by omega
      have p0 : (0 : Int) ≤ (k : Int) := by omega
      obtain ⟨ad, ⟨pn, j⟩, rfl, hp, c1, c2⟩ := H.out.dir.at k (by rw [← HN.out]; exact hlt)
      have hjn := H.out.wf.fdir _ (List.mem_of_getElem? hp)
      simp only at hjn
      obtain ⟨x, hx⟩ : ∃ x, r.ino[j]? = some x := ⟨_, List.getElem?_eq_getElem hjn⟩
      obtain ⟨gi, cap, D, cd, rfl, _, e1, e2, e3, e4, e5⟩ := H.out.inode hx
      have hxl := (H.out.wf.fit x (List.mem_of_getElem? hx)).2
      have q0 : (0 : Int) ≤ (j : Int) := by omega
      have q1 : (j : Int) < (r.ino.length : Int) := by omega
      obtain ⟨m, hm⟩ : ∃ m, m = x.1.length := ⟨_, rfl⟩
      rw [← hm] at e1 hxl e4
      have HM := Lib.hid hm
      have HS := Lib.hid (show ∀ w', Below w.heap.size w w' → w'.cell? ⟨b, 1, none⟩ = some (.slice (some ⟨gi, 0, none⟩) r.ino.length cap) ∧ w'.cell? ⟨b, 2, none⟩ = some (.slice (some ad) n c) ∧ w'.cell? (ad.add (k * 2)) = some (.string ⟨pn.toArray⟩) ∧ w'.cell? ⟨(ad.add (k * 2)).block, (ad.add (k * 2)).off + 1, none⟩ = some (.int .i64 j) ∧ w'.cell? ⟨gi, j * 2, none⟩ = some (.slice D m cd) from fun w' hb => ⟨(HC.out _ hb).1, (HC.out _ hb).2, below_cells hb c1, below_cells hb c2, below_cells hb e1⟩)
      have HE := Lib.hid (e4.below HB.out)
      have htk : (rFiles r).take (k + 1) = (rFiles r).take k ++ [(pn, x.1)] := by
        rw [take_snocD (x := (pn, x.1)) (by unfold rFiles; rw [List.getElem?_map, hp]; simp [rDat_at hx])]
      have hl2 : ((rFiles r).take k).length = k := by unfold rFiles; rw [List.length_take, List.length_map, ← HN.out]; omega
      have HTK := Lib.hid htk
      have HL2 := Lib.hid hl2
      obtain ⟨sv, g1, g2, g3⟩ := HFR.out
      rw [hl2] at g2
      have G1 := Lib.hid g1
      have G2 := Lib.hid g2
      have G3 := Lib.hid g3
      clear hp hjn hx e2 e3 e4 e5 c1 c2 e1 hm htk hl2 g1 g2 g3
      have hw0 := HB.out.size
      go_wp2_with fail
      refine wp_region_held_drew (S := fun w' => w'.cell? ⟨b, 1, none⟩ = some (.slice (some ⟨gi, 0, none⟩) r.ino.length cap) ∧ w'.cell? ⟨b, 2, none⟩ = some (.slice (some ad) n c) ∧ w'.cell? (ad.add (k * 2)) = some (.string ⟨pn.toArray⟩) ∧ w'.cell? ⟨(ad.add (k * 2)).block, (ad.add (k * 2)).off + 1, none⟩ = some (.int .i64 j) ∧ w'.cell? ⟨gi, j * 2, none⟩ = some (.slice D m cd)) (by kernel_rfl) (HS.out _ HB.out.drew) (fun hHeld => ?_)
      refine wpAnyH_take (i := 0) (oi := ?oi0) (v := ?v0) ?hi0 (by kernel_rfl) (by kernel_rfl) (by kernel_rfl) ?hQ0 (Or.inl ⟨?hw0, ?hy0⟩) (by assumption) ?rest0
      case hi0 => (first | (simp only [List.getElem?_toArray, List.getElem?_cons_zero, List.getElem?_cons_succ]; rfl) | rfl)
      case hQ0 => exact fun _ _ _ h => h
      case hw0 => rfl
      case hy0 => ((intro w hSw; go_simp); first | done | with_reducible rfl)
      try simp only [Act.put, List.setIfInBounds_toArray, List.set_cons_zero, List.set_cons_succ]
      refine wpAnyH_take (i := 1) (oi := ?oi1) (v := ?v1) ?hi1 (by kernel_rfl) (by kernel_rfl) (by kernel_rfl) ?hQ1 (Or.inl ⟨?hw1, ?hy1⟩) (by assumption) ?rest1
      case hi1 => (first | (simp only [List.getElem?_toArray, List.getElem?_cons_zero, List.getElem?_cons_succ]; rfl) | rfl)
      case hQ1 => exact fun _ _ _ h => h
      case hw1 => rfl
      case hy1 => ((intro w hSw; go_simp); first | done | with_reducible rfl)
      try simp only [Act.put, List.setIfInBounds_toArray, List.set_cons_zero, List.set_cons_succ]
      refine wpAnyH_take (i := 2) (oi := ?oi2) (v := ?v2) ?hi2 (by kernel_rfl) (by kernel_rfl) (by kernel_rfl) ?hQ2 (Or.inl ⟨?hw2, ?hy2⟩) (by assumption) ?rest2
      case hi2 => (first | (simp only [List.getElem?_toArray, List.getElem?_cons_zero, List.getElem?_cons_succ]; rfl) | rfl)
      case hQ2 => exact fun _ _ _ h => h
      case hw2 => rfl
      case hy2 => ((intro w hSw; go_simp); first | done | with_reducible rfl)
      try simp only [Act.put, List.setIfInBounds_toArray, List.set_cons_zero, List.set_cons_succ]
      refine wpAnyH_take (i := 3) (oi := ?oi3) (v := ?v3) ?hi3 (by kernel_rfl) (by kernel_rfl) (by kernel_rfl) ?hQ3 (Or.inl ⟨?hw3, ?hy3⟩) (by assumption) ?rest3
      case hi3 => (first | (simp only [List.getElem?_toArray, List.getElem?_cons_zero, List.getElem?_cons_succ]; rfl) | rfl)
      case hQ3 => exact fun _ _ _ h => h
      case hw3 => rfl
      case hy3 => ((intro w hSw; go_simp); first | done | with_reducible rfl)
      try simp only [Act.put, List.setIfInBounds_toArray, List.set_cons_zero, List.set_cons_succ]
      refine wpAnyH_take (i := 4) (oi := ?oi4) (v := ?v4) ?hi4 (by kernel_rfl) (by kernel_rfl) (by kernel_rfl) ?hQ4 (Or.inl ⟨?hw4, ?hy4⟩) (by assumption) ?rest4
      case hi4 => (first | (simp only [List.getElem?_toArray, List.getElem?_cons_zero, List.getElem?_cons_succ]; rfl) | rfl)
      case hQ4 => exact fun _ _ _ h => h
      case hw4 => rfl
      case hy4 => ((intro w hSw; go_simp); first | done | with_reducible rfl)
      try simp only [Act.put, List.setIfInBounds_toArray, List.set_cons_zero, List.set_cons_succ]
      refine wpAnyH_take (i := 5) (oi := ?oi5) (v := ?v5) ?hi5 (by kernel_rfl) (by kernel_rfl) (by kernel_rfl) ?hQ5 (Or.inl ⟨?hw5, ?hy5⟩) (by assumption) ?rest5
      case hi5 => (first | (simp only [List.getElem?_toArray, List.getElem?_cons_zero, List.getElem?_cons_succ]; rfl) | rfl)
      case hQ5 => exact fun _ _ _ h => h
      case hw5 => rfl
      case hy5 => ((intro w hSw; go_simp); first | done | with_reducible rfl)
      try simp only [Act.put, List.setIfInBounds_toArray, List.set_cons_zero, List.set_cons_succ]
      refine wpAnyH_take (i := 6) (oi := ?oi6) (v := ?v6) ?hi6 (by kernel_rfl) (by kernel_rfl) (by kernel_rfl) ?hQ6 (Or.inl ⟨?hw6, ?hy6⟩) (by assumption) ?rest6
      case hi6 => (first | (simp only [List.getElem?_toArray, List.getElem?_cons_zero, List.getElem?_cons_succ]; rfl) | rfl)
      case hQ6 => exact fun _ _ _ h => h
      case hw6 => rfl
      case hy6 => ((intro w hSw; go_simp); first | done | with_reducible rfl)
      try simp only [Act.put, List.setIfInBounds_toArray, List.set_cons_zero, List.set_cons_succ]
      refine wpAnyH_take (i := 7) (oi := ?oi7) (v := ?v7) ?hi7 (by kernel_rfl) (by kernel_rfl) (by kernel_rfl) ?hQ7 (Or.inl ⟨?hw7, ?hy7⟩) (by assumption) ?rest7
      case hi7 => (first | (simp only [List.getElem?_toArray, List.getElem?_cons_zero, List.getElem?_cons_succ]; rfl) | rfl)
      case hQ7 => exact fun _ _ _ h => h
      case hw7 => rfl
      case hy7 => ((intro w hSw; go_simp); first | done | with_reducible rfl)
      try simp only [Act.put, List.setIfInBounds_toArray, List.set_cons_zero, List.set_cons_succ]
      refine wpAnyH_take (i := 8) (oi := ?oi8) (v := ?v8) ?hi8 (by kernel_rfl) (by kernel_rfl) (by kernel_rfl) ?hQ8 (Or.inl ⟨?hw8, ?hy8⟩) (by assumption) ?rest8
      case hi8 => (first | (simp only [List.getElem?_toArray, List.getElem?_cons_zero, List.getElem?_cons_succ]; rfl) | rfl)
      case hQ8 => exact fun _ _ _ h => h
      case hw8 => rfl
      case hy8 => ((intro w hSw; go_simp); first | done | with_reducible rfl)
      try simp only [Act.put, List.setIfInBounds_toArray, List.set_cons_zero, List.set_cons_succ]
      refine wpAnyH_take (i := 10) (oi := ?oi10) (v := ?v10) ?hi10 (by kernel_rfl) (by kernel_rfl) (by kernel_rfl) ?hQ10 (Or.inl ⟨?hw10, ?hy10⟩) (by assumption) ?rest10
      case hi10 => (first | (simp only [List.getElem?_toArray, List.getElem?_cons_zero, List.getElem?_cons_succ]; rfl) | rfl)
      case hQ10 => exact fun _ _ _ h => h
      case hw10 => rfl
      case hy10 => ((intro w hSw; go_simp); first | done | with_reducible rfl)
      try simp only [Act.put, List.setIfInBounds_toArray, List.set_cons_zero, List.set_cons_succ]
      refine wpAnyH_take (i := 11) (oi := ?oi11) (v := ?v11) ?hi11 (by kernel_rfl) (by kernel_rfl) (by kernel_rfl) ?hQ11 (Or.inl ⟨?hw11, ?hy11⟩) (by assumption) ?rest11
      case hi11 => (first | (simp only [List.getElem?_toArray, List.getElem?_cons_zero, List.getElem?_cons_succ]; rfl) | rfl)
      case hQ11 => exact fun _ _ _ h => h
      case hw11 => rfl
      case hy11 => ((intro w hSw; go_simp); first | done | with_reducible rfl)
      try simp only [Act.put, List.setIfInBounds_toArray, List.set_cons_zero, List.set_cons_succ]
      refine wpAnyH_take (i := 12) (oi := ?oi12) (v := ?v12) ?hi12 (by kernel_rfl) (by kernel_rfl) (by kernel_rfl) ?hQ12 (Or.inl ⟨?hw12, ?hy12⟩) (by assumption) ?rest12
      case hi12 => (first | (simp only [List.getElem?_toArray, List.getElem?_cons_zero, List.getElem?_cons_succ]; rfl) | rfl)
      case hQ12 => exact fun _ _ _ h => h
      case hw12 => rfl
      case hy12 => ((intro w hSw; go_simp); first | done | with_reducible rfl)
      try simp only [Act.put, List.setIfInBounds_toArray, List.set_cons_zero, List.set_cons_succ]
      refine wpAnyH_take (i := 13) (oi := ?oi13) (v := ?v13) ?hi13 (by kernel_rfl) (by kernel_rfl) (by kernel_rfl) ?hQ13 (Or.inl ⟨?hw13, ?hy13⟩) (by assumption) ?rest13
      case hi13 => (first | (simp only [List.getElem?_toArray, List.getElem?_cons_zero, List.getElem?_cons_succ]; rfl) | rfl)
      case hQ13 => exact fun _ _ _ h => h
      case hw13 => rfl
      case hy13 => ((intro w hSw; go_simp); first | done | with_reducible rfl)
      try simp only [Act.put, List.setIfInBounds_toArray, List.set_cons_zero, List.set_cons_succ]
      refine wpAnyH_take (i := 14) (oi := ?oi14) (v := ?v14) ?hi14 (by kernel_rfl) (by kernel_rfl) (by kernel_rfl) ?hQ14 (Or.inl ⟨?hw14, ?hy14⟩) (by assumption) ?rest14
      case hi14 => (first | (simp only [List.getElem?_toArray, List.getElem?_cons_zero, List.getElem?_cons_succ]; rfl) | rfl)
      case hQ14 => exact fun _ _ _ h => h
      case hw14 => rfl
      case hy14 => ((intro w hSw; go_simp); first | done | with_reducible rfl)
      try simp only [Act.put, List.setIfInBounds_toArray, List.set_cons_zero, List.set_cons_succ]
      refine wpAnyH_take (i := 15) (oi := ?oi15) (v := ?v15) ?hi15 (by kernel_rfl) (by kernel_rfl) (by kernel_rfl) ?hQ15 (Or.inl ⟨?hw15, ?hy15⟩) (by assumption) ?rest15
      case hi15 => (first | (simp only [List.getElem?_toArray, List.getElem?_cons_zero, List.getElem?_cons_succ]; rfl) | rfl)
      case hQ15 => exact fun _ _ _ h => h
      case hw15 => rfl
      case hy15 => ((intro w hSw; go_simp); first | done | with_reducible rfl)
      try simp only [Act.put, List.setIfInBounds_toArray, List.set_cons_zero, List.set_cons_succ]
      refine wpAnyH_take (i := 16) (oi := ?oi16) (v := ?v16) ?hi16 (by kernel_rfl) (by kernel_rfl) (by kernel_rfl) ?hQ16 (Or.inl ⟨?hw16, ?hy16⟩) (by assumption) ?rest16
      case hi16 => (first | (simp only [List.getElem?_toArray, List.getElem?_cons_zero, List.getElem?_cons_succ]; rfl) | rfl)
      case hQ16 => exact fun _ _ _ h => h
      case hw16 => rfl
      case hy16 => ((intro w hSw; go_simp); first | done | with_reducible rfl)
      try simp only [Act.put, List.setIfInBounds_toArray, List.set_cons_zero, List.set_cons_succ]
      refine wpAnyH_take (i := 17) (oi := ?oi17) (v := ?v17) ?hi17 (by kernel_rfl) (by kernel_rfl) (by kernel_rfl) ?hQ17 (Or.inl ⟨?hw17, ?hy17⟩) (by assumption) ?rest17
      case hi17 => (first | (simp only [List.getElem?_toArray, List.getElem?_cons_zero, List.getElem?_cons_succ]; rfl) | rfl)
      case hQ17 => exact fun _ _ _ h => h
      case hw17 => rfl
      case hy17 => ((intro w hSw; go_simp); first | done | with_reducible rfl)
      try simp only [Act.put, List.setIfInBounds_toArray, List.set_cons_zero, List.set_cons_succ]
      refine wpAnyH_take (i := 18) (oi := ?oi18) (v := ?v18) ?hi18 (by kernel_rfl) (by kernel_rfl) (by kernel_rfl) ?hQ18 (Or.inl ⟨?hw18, ?hy18⟩) (by assumption) ?rest18
      case hi18 => (first | (simp only [List.getElem?_toArray, List.getElem?_cons_zero, List.getElem?_cons_succ]; rfl) | rfl)
      case hQ18 => exact fun _ _ _ h => h
      case hw18 => rfl
      case hy18 => ((intro w hSw; go_simp); first | done | with_reducible rfl)
      try simp only [Act.put, List.setIfInBounds_toArray, List.set_cons_zero, List.set_cons_succ]
      refine wpAnyH_take (i := 19) (oi := ?oi19) (v := ?v19) ?hi19 (by kernel_rfl) (by kernel_rfl) (by kernel_rfl) ?hQ19 (Or.inl ⟨?hw19, ?hy19⟩) (by assumption) ?rest19
      case hi19 => (first | (simp only [List.getElem?_toArray, List.getElem?_cons_zero, List.getElem?_cons_succ]; rfl) | rfl)
      case hQ19 => exact fun _ _ _ h => h
      case hw19 => rfl
      case hy19 => ((intro w hSw; go_simp); first | done | with_reducible rfl)
      try simp only [Act.put, List.setIfInBounds_toArray, List.set_cons_zero, List.set_cons_succ]
      refine wpAnyH_take (i := 20) (oi := ?oi20) (v := ?v20) ?hi20 (by kernel_rfl) (by kernel_rfl) (by kernel_rfl) ?hQ20 (Or.inl ⟨?hw20, ?hy20⟩) (by assumption) ?rest20
      case hi20 => (first | (simp only [List.getElem?_toArray, List.getElem?_cons_zero, List.getElem?_cons_succ]; rfl) | rfl)
      case hQ20 => exact fun _ _ _ h => h
      case hw20 => rfl
      case hy20 => ((intro w hSw; go_simp); first | done | with_reducible rfl)
      try simp only [Act.put, List.setIfInBounds_toArray, List.set_cons_zero, List.set_cons_succ]
      refine wpAnyH_take (i := 21) (oi := ?oi21) (v := ?v21) ?hi21 (by kernel_rfl) (by kernel_rfl) (by kernel_rfl) ?hQ21 (Or.inl ⟨?hw21, ?hy21⟩) (by assumption) ?rest21
      case hi21 => (first | (simp only [List.getElem?_toArray, List.getElem?_cons_zero, List.getElem?_cons_succ]; rfl) | rfl)
      case hQ21 => exact fun _ _ _ h => h
      case hw21 => rfl
      case hy21 => ((intro w hSw; go_simp); first | done | with_reducible rfl)
      try simp only [Act.put, List.setIfInBounds_toArray, List.set_cons_zero, List.set_cons_succ]
      refine wpAnyH_take (i := 22) (oi := ?oi22) (v := ?v22) ?hi22 (by kernel_rfl) (by kernel_rfl) (by kernel_rfl) ?hQ22 (Or.inl ⟨?hw22, ?hy22⟩) (by assumption) ?rest22
      case hi22 => (first | (simp only [List.getElem?_toArray, List.getElem?_cons_zero, List.getElem?_cons_succ]; rfl) | rfl)
      case hQ22 => exact fun _ _ _ h => h
      case hw22 => rfl
      case hy22 => ((intro w hSw; go_simp); first | done | with_reducible rfl)
      try simp only [Act.put, List.setIfInBounds_toArray, List.set_cons_zero, List.set_cons_succ]
      refine wpAnyH_take (i := 23) (oi := ?oi23) (v := ?v23) ?hi23 (by kernel_rfl) (by kernel_rfl) (by kernel_rfl) ?hQ23 (Or.inl ⟨?hw23, ?hy23⟩) (by assumption) ?rest23
      case hi23 => (first | (simp only [List.getElem?_toArray, List.getElem?_cons_zero, List.getElem?_cons_succ]; rfl) | rfl)
      case hQ23 => exact fun _ _ _ h => h
      case hw23 => rfl
      case hy23 => ((intro w hSw; go_simp); first | done | with_reducible rfl)
      try simp only [Act.put, List.setIfInBounds_toArray, List.set_cons_zero, List.set_cons_succ]
      refine wpAnyH_take (i := 24) (oi := ?oi24) (v := ?v24) ?hi24 (by kernel_rfl) (by kernel_rfl) (by kernel_rfl) ?hQ24 (Or.inl ⟨?hw24, ?hy24⟩) (by assumption) ?rest24
      case hi24 => (first | (simp only [List.getElem?_toArray, List.getElem?_cons_zero, List.getElem?_cons_succ]; rfl) | rfl)
      case hQ24 => exact fun _ _ _ h => h
      case hw24 => rfl
      case hy24 => ((intro w hSw; go_simp); first | done | with_reducible rfl)
      try simp only [Act.put, List.setIfInBounds_toArray, List.set_cons_zero, List.set_cons_succ]
      refine wpAnyH_ready (rs := [9]) (by kernel_rfl) (by simp) ?_
      refine AllReadyH.cons (o := ?oA) ?hiA ?stepA AllReadyH.nil
      case hiA => (simp only [List.getElem?_toArray, List.getElem?_cons_zero, List.getElem?_cons_succ]; rfl)
      intro K hK
      go_simp
      have hB1 := (HB.out.alloc HB.out.size (.cells #[] 5)).drew
      refine hK.out _ _ (HS.out _ hB1) (fun hHeld1 => ?_)
      clear hK K hHeld
      try simp only [Act.put, List.setIfInBounds_toArray, List.set_cons_zero, List.set_cons_succ]
      refine wpAnyH_ready (rs := [25]) (by kernel_rfl) (by simp) ?_
      refine AllReadyH.cons (o := ?oB) ?hiB ?stepB AllReadyH.nil
      case hiB => (simp only [List.getElem?_toArray, List.getElem?_cons_zero, List.getElem?_cons_succ]; rfl)
      intro K hK
      refine step_append_src _ rfl (.tmp 23) (.tmp 38) 33 rfl wr.heap.size 5 j0 (.int .u8 0) 1 Try.underlying33 hj hy0 hy1 hy2 rfl (.slice (some ⟨wr.heap.size, 0, none⟩) 0 0) 0 [] rfl (World.ownsRow_made wr #[] 0 (Nat.le_refl _) (Nat.zero_le _) rfl) D m cd (x.1.map byteV) rfl ((HE.out.below ((Below.refl _ wr).alloc (Nat.le_refl _) (.cells #[] 5))).drew.2.1) (u8_one _) (by unfold maxLen; omega) (by omega) (by simp) ?_
      intro v3 w3 hown hgrow hloc
      obtain ⟨A3, c3, rfl⟩ := own_slice hown
      rw [Nat.zero_add, List.nil_append] at hown
      rw [Nat.zero_add]
      have HB3 : Hid (Below wr.heap.size wr w3) := Lib.hid ((((Below.refl _ wr).alloc (Nat.le_refl _) (.cells #[] 5)).drew).grown hgrow (by simp) (fun k e => by cases e; exact Nat.le_refl _))
      have HO3 := Lib.hid hown
      have HB03 := Lib.hid (below_then HB.out HB3.out HB.out.size)
      clear hown hgrow hloc hB1
      refine hK.out _ _ (HS.out _ HB03.out) (fun hHeld2 => ?_)
      clear hK K hHeld1
      try simp only [Act.put, List.setIfInBounds_toArray, List.set_cons_zero, List.set_cons_succ]
      refine wpAnyH_take (i := 26) (oi := ?ois26) (v := ?vs26) ?his26 (by kernel_rfl) (by kernel_rfl) (by kernel_rfl) ?hQs26 (Or.inl ⟨?hws26, ?hys26⟩) (by assumption) ?rests26
      case his26 => (first | (simp only [List.getElem?_toArray, List.getElem?_cons_zero, List.getElem?_cons_succ]; rfl) | rfl)
      case hQs26 => exact fun _ _ _ h => h
      case hws26 => rfl
      case hys26 => ((intro w hSw; go_simp); first | done | with_reducible rfl)
      try simp only [Act.put, List.setIfInBounds_toArray, List.set_cons_zero, List.set_cons_succ]
      refine wpAnyH_ready (rs := [27]) (by kernel_rfl) (by simp) ?_
      refine AllReadyH.cons (o := ?oC) ?hiC ?stepC AllReadyH.nil
      case hiC => (simp only [List.getElem?_toArray, List.getElem?_cons_zero, List.getElem?_cons_succ]; rfl)
      intro K hK
      go_simp
      refine hK.out _ _ (HS.out _ (HB03.out.alloc HB03.out.size _)) (fun hHeld3 => ?_)
      clear hK K hHeld2
      try simp only [Act.put, List.setIfInBounds_toArray, List.set_cons_zero, List.set_cons_succ]
      refine wpAnyH_ready (rs := [28]) (by kernel_rfl) (by simp) ?_
      refine AllReadyH.cons (o := ?oD) ?hiD ?stepD AllReadyH.nil
      case hiD => (simp only [List.getElem?_toArray, List.getElem?_cons_zero, List.getElem?_cons_succ]; rfl)
      intro K hK
      refine step_append_rec _ rfl (.tmp 14) (.tmp 41) 22 rfl w.heap.size 60 i0 _ 2 40 Try.underlying22 hi hz0 hz1 hz2 rfl (by decide) _ k _ rfl (World.ownsRow.alloc (ownsRow_block G2.out (w' := w3) fun g hg => HB3.out.block g (G2.out.lt g hg).2) _) ⟨w3.heap.size, 0, none⟩ 1 1 [.string ⟨pn.toArray⟩, .slice A3 m c3] rfl rfl (by intro i u hu; rw [Addr.add_mid, cell_of_row _ _ _ _ _ _ (heap_alloc_new w3 _)]; simpa using hu) (by intro u hu; simp at hu; rcases hu with rfl | rfl <;> rfl) (by unfold maxLen; omega) (by omega) (by have := HB03.out.size; simp; omega) ?_
      intro v5 w5 hown5 hg5 hloc5
      have HG5 := Lib.hid hg5
      have HO5 := Lib.hid hown5
      have HB5 := Lib.hid ((HB03.out.alloc HB03.out.size (.cells #[.string ⟨pn.toArray⟩, .slice A3 m c3] 60)).grown hg5 (by have := HB03.out.size; simp; omega) (fun g hg => (G2.out.lt g hg).1))
      clear hown5 hg5 hloc5
      refine hK.out _ _ (HS.out _ HB5.out) (fun hHeld4 => ?_)
      clear hK K hHeld3
      try simp only [Act.put, List.setIfInBounds_toArray, List.set_cons_zero, List.set_cons_succ]
      refine wpAnyH_take (i := 29) (oi := ?oit29) (v := ?vt29) ?hit29 (by kernel_rfl) (by kernel_rfl) (by kernel_rfl) ?hQt29 (Or.inl ⟨?hwt29, ?hyt29⟩) (by assumption) ?restt29
      case hit29 => (first | (simp only [List.getElem?_toArray, List.getElem?_cons_zero, List.getElem?_cons_succ]; rfl) | rfl)
      case hQt29 => exact fun _ _ _ h => h
      case hwt29 => rfl
      case hyt29 => ((intro w hSw; go_simp); first | done | with_reducible rfl)
      try simp only [Act.put, List.setIfInBounds_toArray, List.set_cons_zero, List.set_cons_succ]
      refine wpAnyH_done (by kernel_rfl) ?_ _
      clear hHeld4
      go_wp2
      go_roundw
      case rel =>
        have hs3 := HB3.out.size
        have hfr : ∀ g, g < wr.heap.size → u3.ownBlock ≠ some g → w5.heap[g]? = wr.heap[g]? := fun g hg hn => (HG5.out.block g (by simp; omega) (fun e => hn e.symm)).trans ((Below.heap_alloc w3 _ g (by omega)).trans (HB3.out.block g hg))
        have hr4 : w5.ownsRow w.heap.size 5 1 (.slice A3 m c3) m (x.1.map byteV) := by
          refine Go.Joins.ownsRow_le (ownsRow_block HO3.out fun g hg => ?_) hw0
          have h1 := HO3.out.lt g hg
          rw [HG5.out.block g (by simp; omega) (fun e => by have := (G2.out.lt g e.symm).2; omega)]
          exact Below.heap_alloc w3 _ g h1.2
        refine ⟨k + 1, by omega, by go_num, ?_, HB5.out⟩
        rw [HTK.out]
        refine FilesRow.snoc (sv := .slice A3 m c3) G1.out (fun i sv' x' f1 f2 => ?_) ?_ ?_
        · have h3 := G3.out i sv' x' f1 f2
          exact ownsRow_block h3 fun g hg => hfr g (h3.lt g hg).2 (own_row_ne h3 G2.out (by decide) g hg)
        · rw [HL2.out]
          exact HO5.out
        · show w5.ownsRow w.heap.size 5 1 _ x.1.length _
          rw [← HM.out]
          exact hr4
      case measure => simp [intOf]; omega
    · obtain rfl : k = n := by omega
      have hlz : ¬ ((k : Int) < (k : Int)) := by omega
      have htk : (rFiles r).take k = rFiles r := List.take_of_length_le (by unfold rFiles; rw [List.length_map, ← HN.out]; exact Nat.le_refl _)
      have hO := HFR.out
      rw [htk] at hO
      have HO2 := Lib.hid hO
      clear htk hO
      go_wp2
      go_ret
      exact ⟨_, rfl, HO2.out, HB.out⟩
end Go.Proofs.Ytblpppeppgfbpaa
