/- The document's disk: Of. -/
import Derived.Test.YtblpppeppgfbpaaOfMath
import Derived.Deep.RegionHeld3
namespace Go.Proofs.Ytblpppeppgfbpaa
open Go.RowKit Go.Maps Go.WideMaps

/-- What Of leaves of the document's disk. -/
def R1OfOut (w : World) (room : Nat) (l : List FlV) (e : Ending) (w' : World) : Prop :=
  Below w.heap.size w w' ∧ ((e = .returned (.pointer none) ∧ ¬ OfGood l) ∨ ∃ b F, e = .returned (at0 b) ∧ OfGood l ∧ R1At w' F b (rOfEnd room l) ∧ ∀ i, F i → w.heap.size ≤ i)

theorem IsR1.addFile {w w3 w4 : World} {F : Nat → Prop} {b : Nat} {G : Nat → Prop} {r : RSt} {Av : Option Addr} {k cv : Nat} {vc : Value} {A : Option Addr} {c : Nat} {B : Option Addr} {cb : Nat} {svs : List Value} (h : IsR1 w b G r (.slice Av k cv) vc A c B cb svs) (hk : r.ino.length = k)
    (hF : ∀ i, OfR1 b (.slice Av k cv) vc G i → F i) (hlt : ∀ i, F i → i < w.heap.size) (hB3 : Below w.heap.size w w3) {A3 : Option Addr} {n c3 : Nat} {bs : Nm} (hO3 : w3.ownsRow w.heap.size 5 1 (.slice A3 n c3) n (bs.map byteV)) (hbl : bs.length = n) (hn : n ≤ 262144)
    {A4 : Option Addr} {c4 : Nat} (hown4 : w4.ownsRow 0 75 2 (.slice A4 (k + 1) c4) (k + 1) (inoCells r.ino svs ++ [.slice A3 n c3, .int .i64 n])) (hg4 : (w3.alloc (.cells #[.slice A3 n c3, .int .i64 n] 75)).grownBy w4 (Value.slice Av k cv).ownBlock)
    (hloc4 : (Value.slice A4 (k + 1) c4).ownBlock = (Value.slice Av k cv).ownBlock ∨ (Value.slice A4 (k + 1) c4).ownBlock = some (w3.alloc (.cells #[.slice A3 n c3, .int .i64 n] 75)).heap.size) (hb4 : Blk w4 b 47 #[.int .i64 r.room, .slice Av k cv, .slice A r.dir.length c, .slice B r.old.length cb, vc, .int .i64 r.done, .bool r.fused, .int .i64 r.left, .bool r.off]) (hk1 : k < 100000) :
    ∃ F', R1At (w4.setCell ⟨b, 1, none⟩ (.slice A4 (k + 1) c4)) F' b { r with ino := r.ino ++ [(bs, bs.length)] } ∧ (∀ i, F' i → F i ∨ w.heap.size ≤ i) ∧ Kept F w (w4.setCell ⟨b, 1, none⟩ (.slice A4 (k + 1) c4)) := by
  have hs3 := hB3.size
  have hs4 : w3.heap.size + 1 ≤ w4.heap.size := by have := hg4.size; simpa using this
  have hv4b : (Value.slice A4 (k + 1) c4).ownBlock ≠ some b := own_blk_ne hown4 hb4 (by decide)
  have hvb : (Value.slice Av k cv).ownBlock ≠ some b := own_blk_ne h.ino h.blk (by decide)
  have hbb : ∀ i, i ≠ b → (Value.slice Av k cv).ownBlock ≠ some i → i < w3.heap.size → (w4.setCell ⟨b, 1, none⟩ (.slice A4 (k + 1) c4)).heap[i]? = w3.heap[i]? := fun i h1 h2 h3 =>
    (heap_setCell_other _ _ _ h1).trans ((hg4.block i (by simp; omega) (fun e => h2 e.symm)).trans (Below.heap_alloc w3 _ _ h3))
  have hb0 : ∀ i, i ≠ b → (Value.slice Av k cv).ownBlock ≠ some i → i < w.heap.size → (w4.setCell ⟨b, 1, none⟩ (.slice A4 (k + 1) c4)).heap[i]? = w.heap[i]? := fun i h1 h2 h3 => (hbb i h1 h2 (by omega)).trans (hB3.block i h3)
  have hO4 : (w4.setCell ⟨b, 1, none⟩ (.slice A4 (k + 1) c4)).ownsRow 0 75 2 (.slice A4 (k + 1) c4) (k + 1) (inoCells r.ino svs ++ [.slice A3 n c3, .int .i64 n]) := ownsRow_block hown4 fun g hg => heap_setCell_other _ _ _ (fun e => hv4b (by rw [hg, e]))
  have hblk4 : Blk (w4.setCell ⟨b, 1, none⟩ (.slice A4 (k + 1) c4)) b 47 #[.int .i64 r.room, .slice A4 (k + 1) c4, .slice A r.dir.length c, .slice B r.old.length cb, vc, .int .i64 r.done, .bool r.fused, .int .i64 r.left, .bool r.off] := by simpa using hb4.set_ 1 (.slice A4 (k + 1) c4)
  have hvi4 : (Value.slice A4 (k + 1) c4).ownBlock = (Value.slice Av k cv).ownBlock ∨ ∃ g, (Value.slice A4 (k + 1) c4).ownBlock = some g ∧ w.heap.size ≤ g := by
    rcases hloc4 with h1 | h1
    · exact .inl h1
    · exact .inr ⟨_, h1, by simp; omega⟩
  have hsz : (w4.setCell ⟨b, 1, none⟩ (.slice A4 (k + 1) c4)).heap.size = w4.heap.size := by simp [World.setCell]
  have hin : BytesIn (w4.setCell ⟨b, 1, none⟩ (.slice A4 (k + 1) c4)) A3 n bs := bytes_keep' (BytesIn.own hO3 (by unfold maxLen; omega)) (fun ad e h0 => by
    have h1 := hO3.lt ad.block (by rw [e]; rfl)
    refine hbb _ (fun e2 => ?_) (fun e2 => ?_) h1.2
    · have := h.blk.lt; omega
    · have := (h.ino.lt _ e2).2; omega) (by rw [hsz]; omega)
  have hc3 : n ≤ c3 := by
    obtain ⟨_, _, q1, q2⟩ := own_cap hO3
    injection q1 with _ _ q3
    omega
  have hwf := h.wf
  have hA3 : ∀ ad, A3 = some ad → w.heap.size ≤ ad.block ∧ ad.block < w3.heap.size := fun ad e => hO3.lt ad.block (by rw [e]; rfl)
  have hI4 := h.inos (w' := w4.setCell ⟨b, 1, none⟩ (.slice A4 (k + 1) c4)) (by rw [hsz]; omega) hb0 (ino' := r.ino ++ [(bs, bs.length)]) (vi' := .slice A4 (k + 1) c4) (svs' := svs ++ [.slice A3 n c3]) (fun i => ∃ ad, A3 = some ad ∧ 0 < n ∧ i = ad.block) hblk4
    (by rw [List.length_append, hk, inoCells_app (bs, bs.length) (.slice A3 n c3) r.ino svs h.isl.symm, hbl]; exact hO4)
    (by rw [List.length_append, List.length_append, h.isl]; rfl)
    (fun i sv y e1 e2 => by
      rcases Nat.lt_or_ge i r.ino.length with hi | hi
      · rw [List.getElem?_append_left (by rw [h.isl]; exact hi)] at e1
        rw [List.getElem?_append_left hi] at e2
        exact .inl ⟨y, e1, e2, rfl⟩
      · have hlt' := (List.getElem?_eq_some_iff.1 e2).1
        simp at hlt'
        obtain rfl : i = r.ino.length := by omega
        rw [List.getElem?_append_right (by rw [h.isl]; exact Nat.le_refl _), h.isl, Nat.sub_self] at e1
        rw [List.getElem?_append_right (Nat.le_refl _), Nat.sub_self] at e2
        simp at e1 e2
        subst e1 e2
        exact .inr ⟨A3, c3, by rw [hbl], by rw [hbl]; exact hc3, by rw [hbl]; exact hin, fun ad e h0 => ⟨ad, e, by rw [hbl] at h0; exact h0, rfl⟩⟩)
    (fun i ⟨ad, q1, q2, q3⟩ => by
      have h1 := hA3 ad q1
      rw [q3]
      refine ⟨h1.1, by rw [hsz]; omega, fun e => ?_⟩
      rcases hloc4 with h2 | h2
      · rw [h2] at e
        have := (h.ino.lt _ e).2; omega
      · rw [h2] at e
        have e3 : (w3.alloc (.cells #[.slice A3 n c3, .int .i64 n] 75)).heap.size = ad.block := Option.some.inj e
        simp at e3
        omega) hvi4
    { hwf with
      nino := by rw [List.length_append, hk]; simp; omega
      fdir := fun p hp => by have := hwf.fdir p hp; simp; omega
      fold := fun p hp => by have := hwf.fold p hp; simp; omega
      fchs := fun c hc => by
        rcases hwf.fchs c hc with h1 | h1
        · exact .inl h1
        · right; simp; omega
      fit := fun x hx => by
        rcases List.mem_append.1 hx with h1 | h1
        · exact hwf.fit x h1
        · rw [List.mem_singleton.1 h1]
          exact ⟨Nat.le_refl _, by show bs.length ≤ _; omega⟩ }
  have hR4 := hI4.inosAt (r := r) (svs := svs) (w := w) hF hlt (by rw [hsz]; omega) (fun i ⟨ad, q1, q2, q3⟩ => by
    have h1 := hA3 ad q1
    rw [q3]
    exact ⟨h1.1, by rw [hsz]; omega⟩) hvi4
  refine ⟨_, hR4, fun i hi => hi.imp id (·.1), ?_⟩
  exact (((Kept.below (F := F) hB3).alloc _).grown hg4 (fun g e => .inl (hF g (.inr (.inl e))))).setCell (.inl (hF b (.inl rfl))) _
/-- The directory is another one. -/
theorem IsR1.newDir {w w' : World} {F : Nat → Prop} {b : Nat} {G : Nat → Prop} {r : RSt} {vi vc : Value} {A : Option Addr} {c : Nat} {B : Option Addr} {cb : Nat} {svs : List Value} (h : IsR1 w b G r vi vc A c B cb svs) (hF : ∀ i, OfR1 b vi vc G i → F i) (hlt : ∀ i, F i → i < w.heap.size)
    (hB : Below w.heap.size w w') {A' : Option Addr} {c' : Nat} {d : Dir} (hd : DirIn w' A' d.length d) (hA : ∀ ad, A' = some ad → w.heap.size ≤ ad.block) (hdl : d.length ≤ 100000) (hdf : ∀ p ∈ d, p.2 < r.ino.length) :
    ∃ F', R1At (w'.setCell ⟨b, 2, none⟩ (.slice A' d.length c')) F' b { r with dir := d } ∧ (∀ i, F' i → F i ∨ w.heap.size ≤ i) ∧ Kept F w (w'.setCell ⟨b, 2, none⟩ (.slice A' d.length c')) := by
  have hbl := h.blk.lt
  have hsz : (w'.setCell ⟨b, 2, none⟩ (.slice A' d.length c')).heap.size = w'.heap.size := by simp [World.setCell]
  have hs := hB.size
  obtain ⟨G', hI, hG⟩ := h.dirch (w' := w'.setCell ⟨b, 2, none⟩ (.slice A' d.length c')) (by rw [hsz]; exact hs) (fun i h1 _ h3 => (heap_setCell_other _ _ _ h1).trans (hB.block i h3)) (d' := d) (chs' := r.chs) (vc' := vc) (A' := A') (c' := c')
    (by simpa using (h.blk.below hB hbl).set_ 2 (.slice A' d.length c'))
    (hd.keep fun ad e h0 => heap_setCell_other _ _ _ (by have := hA ad e; show ad.block ≠ b; omega)) (.inr hA)
    (ownsRow_block h.chs fun g hg => (heap_setCell_other _ _ _ (fun e => own_blk_ne h.chs h.blk (by decide) (by rw [hg, e]))).trans (hB.block g (h.chs.lt g hg).2)) (.inl rfl)
    { h.wf with ndir := hdl, fdir := hdf }
  refine ⟨Own F w (w'.setCell ⟨b, 2, none⟩ (.slice A' d.length c')), ⟨G', vi, vc, A', c', B, cb, svs, hI, fun i hi => ?_, fun i hi => ?_⟩, fun i hi => hi.imp id (·.1), (Kept.below (F := F) hB).setCell (.inl (hF b (.inl rfl))) _⟩
  · rcases hi with h1 | h1 | h1 | h1
    · exact .inl (hF i (.inl h1))
    · exact .inl (hF i (.inr (.inl h1)))
    · exact .inl (hF i (.inr (.inr (.inl h1))))
    · rcases hG i h1 with h2 | h2
      · exact .inl (hF i (.inr (.inr (.inr h2))))
      · exact .inr h2
  · rcases hi with h1 | h1
    · have := hlt i h1; rw [hsz]; omega
    · exact h1.2

set_option linter.unusedSimpArgs false in
set_option maxHeartbeats 8000000 in
set_option maxRecDepth 100000 in
theorem r1Of_any {w : World} {A : Option Addr} {n : Nat} {l : List FlV} (h : FlsIn w A n l) (c : Nat) (room : Int) (hr : room ≤ 9223372036854775807) :
    Calls Try.prog 8 #[.int .i64 room, .slice A n c] w (R1OfOut w room.toNat l) := by
  have H := Lib.hid h
  have hln := h.len
  have HLN := Lib.hid hln
  have nbig := h.big
  obtain ⟨R, hR⟩ : ∃ R, R = room.toNat := ⟨_, rfl⟩
  have HRR := Lib.hid hR
  rw [← hR]
  obtain ⟨i0, hi, hz0, hz1, hz2⟩ := info_parts byteInfo
  obtain ⟨j0, hj, hy0, hy1, hy2⟩ := info_parts inoInfo
  clear h hln
  go_enter Try.func8, Try.ntmps8
  go_wp2_with fail
  refine (r1New_any w room hr).mono ?_
  rintro e w1 ⟨b, rfl, hR1, hB1, hb1⟩
  rw [← HRR.out]
  rw [← HRR.out] at hR1
  have R1 := Lib.hid hR1
  have B1 := Lib.hid hB1
  have hbw : w.heap.size ≤ b := by omega
  clear hR hR1 hB1 hb1
  unfold at0
  by_cases h64 : 64 < n
  · have h64z : (64 : Int) < (n : Int) := by omega
    go_wp2
    go_ret
    exact ⟨B1.out, .inl ⟨rfl, fun hg => by have := hg.1; have := HLN.out; omega⟩⟩
  have h64z : ¬ (64 : Int) < (n : Int) := by omega
  have hn64 : n ≤ 64 := by omega
  clear h64 nbig
  go_wp2
  go_loopw [6] (fun i wr => ∃ (k : Nat) (F : Nat → Prop), k ≤ n ∧ i = .int .i64 k ∧ R1At wr F b (rOf R l k) ∧ (∀ i, F i → w.heap.size ≤ i) ∧ Below w.heap.size w wr ∧ ∀ j o, j < k → l[j]? = some o → OfOk l j o) (fun i _ => n - (intOf i).toNat)
  case atStart => exact ⟨0, _, by omega, rfl, R1.out, fun i hi => by rw [hi]; exact hbw, B1.out, fun j o h => by omega⟩
  case round =>
    clear R1 B1
    obtain ⟨k, F, hk, rfl, hR1, hF0, hB, hok⟩ := hrel
    have HB := Lib.hid hB
    have HF0 := Lib.hid hF0
    have HOKS := Lib.hid hok
    have HR1 := Lib.hid hR1
    clear hB hF0 hok hR1
    rcases Nat.lt_or_ge k n with hlt | hge
    · have hlt' : (k : Int) < (n : Int) := by omega
      have p0 : (0 : Int) ≤ (k : Int) := by omega
      obtain ⟨o, ho⟩ : ∃ o, l[k]? = some o := ⟨l[k]'(by rw [HLN.out]; exact hlt), List.getElem?_eq_getElem _⟩
      have HO := Lib.hid ho
      have hin := H.out.op o (List.mem_of_getElem? ho)
      have HIN := Lib.hid hin
      have hA : A ≠ none := fun e => by have := H.out.nil e; omega
      obtain ⟨ad, rfl⟩ : ∃ ad, A = some ad := by cases A with | none => exact absurd rfl hA | some ad => exact ⟨ad, rfl⟩
      clear hA
      obtain ⟨ky, hky⟩ : ∃ ky : Nm, o.a = ⟨ky.toArray⟩ := ⟨o.a.data.toList, by simp⟩
      have hkl : ky.length ≤ 140737488351232 := by have := hin.na; rw [hky] at this; simpa [ByteArray.size] using this
      have hkm : ky.length ≤ maxLen := by unfold maxLen; omega
      have hokey : o.key = ky := by unfold FlV.key; rw [hky]
      have HKY := Lib.hid hokey
      obtain ⟨fa, hfa⟩ : ∃ fa, fa = ad.add (k * 2) := ⟨_, rfl⟩
      have c0 : w.cell? (ad.add (k * 2)) = some (.string ⟨ky.toArray⟩) := by rw [← hky]; exact H.out.at0 ho
      have c1 : w.cell? ⟨(ad.add (k * 2)).block, (ad.add (k * 2)).off + 1, none⟩ = some (.slice o.B o.bn o.bc) := H.out.at1 ho
      have fw : ∀ w', Below w.heap.size w w' → w'.cell? (ad.add (k * 2)) = some (.string ⟨ky.toArray⟩) ∧ w'.cell? ⟨(ad.add (k * 2)).block, (ad.add (k * 2)).off + 1, none⟩ = some (.slice o.B o.bn o.bc) := fun w' hb => ⟨below_cells hb c0, below_cells hb c1⟩
      have FW := Lib.hid fw
      have f0 : ∀ q, (wr.drewN q).cell? (ad.add (k * 2)) = some (.string ⟨ky.toArray⟩) := fun q => (FW.out _ (below_drewN HB.out q)).1
      have f1 : ∀ q, (wr.drewN q).cell? ⟨(ad.add (k * 2)).block, (ad.add (k * 2)).off + 1, none⟩ = some (.slice o.B o.bn o.bc) := fun q => (FW.out _ (below_drewN HB.out q)).2
      have hbn63 : o.bn ≤ 140737488351232 := hin.nb
      have hblt : ad.block < w.heap.size := H.out.lt ad rfl (by omega)
      clear ho hin hky hokey c0 c1 fw hfa
      obtain ⟨D, hD⟩ : ∃ D, D = ofDir l k := ⟨_, rfl⟩
      have hDl : D.length ≤ k := by rw [hD]; exact ofDir_len l k
      obtain ⟨G, vi, vc, A1, cA, B1, cB, svs, h1, hF, hlt1⟩ := HR1.out
      have k2 := h1.blk.cell 2
      have hdir := h1.dir
      have e2 : (rOf R l k).dir = D := hD.symm
      rw [e2] at k2 hdir
      simp at k2
      have kd : ∀ q, (wr.drewN q).cell? ⟨b, 2, none⟩ = some (.slice A1 D.length cA) := fun _ => k2
      have HDIR := Lib.hid hdir
      have HD := Lib.hid hD
      have HI1 := Lib.hid h1
      have HF := Lib.hid hF
      have HLT := Lib.hid hlt1
      have fin : ∀ w', Below w.heap.size w w' → ¬ OfOk l k o → R1OfOut w R l (.returned (.pointer none)) w' := fun w' hb hno => ⟨hb, .inl ⟨rfl, fun hg => hno (hg.2 k o HO.out)⟩⟩
      have FIN := Lib.hid fin
      clear hdir hD h1 hF hlt1 fin e2 k2
      cases hon : okName ky with
      | false =>
        have HON := Lib.hid hon
        clear hon
        obtain ⟨blk, off, sp⟩ := ad
        go_wp2_with fail
        go_quiet (first | (go_at_call 34; refine Calls.quiet_of_same (right_is _ ky hkm HON.out)))
        go_wp2
        go_ret
        exact FIN.out _ (below_drewN HB.out _) (fun hg => by have := hg.1; rw [HKY.out, HON.out] at this; cases this)
      | true =>
        have HON := Lib.hid hon
        clear hon
        rcases dfind_dget D ky with ⟨g1, g2⟩ | ⟨i, ⟨pn, j⟩, _, g1, g2⟩
        · have G1 := Lib.hid g1
          have G2 := Lib.hid g2
          clear g1 g2
          by_cases hbig : 262144 < o.bn
          · have hbz : (262144 : Int) < (o.bn : Int) := by omega
            have db : decide ((262144 : Int) < (o.bn : Int)) = true := by simpa using hbz
            obtain ⟨blk, off, sp⟩ := ad
            go_wp2_with fail
            go_quiet (first | (go_at_call 34; refine Calls.quiet_of_same (right_is _ ky hkm HON.out)) | (go_at_call 35; refine Calls.quiet_of_same (r1find_is _ A1 _ cA D (HDIR.out.drewN _) ky G2.out)))
            go_wp2
            go_ret
            exact FIN.out _ (below_drewN HB.out _) (fun hg => by have := hg.2.2; omega)
          · have hbz : ¬ (262144 : Int) < (o.bn : Int) := by omega
            have db : decide ((262144 : Int) < (o.bn : Int)) = false := by simpa using hbz
            have hofk : OfOk l k o := ⟨by rw [HKY.out]; exact HON.out, by rw [HKY.out, ← HD.out]; exact G1.out, by omega⟩
            have HOFK := Lib.hid hofk
            clear hofk hlt'
            go_wp2_with fail
            go_quiet (first | (go_at_call 34; refine Calls.quiet_of_same (right_is _ ky hkm HON.out)) | (go_at_call 35; refine Calls.quiet_of_same (r1find_is _ A1 _ cA D (HDIR.out.drewN _) ky G2.out)))
            obtain ⟨W, hW⟩ : ∃ W, W = wr.drewN nq := ⟨_, rfl⟩
            rw [← hW]
            have hI := HI1.out.same (w' := W) (fun _ _ => by rw [hW]; rfl) (by rw [hW]; exact Nat.le_refl _)
            have hltW : ∀ i, F i → i < W.heap.size := fun i hi => by rw [hW]; exact HLT.out i hi
            have hBW : Below w.heap.size w W := by rw [hW]; exact below_drewN HB.out _
            have hkl : (rOf R l k).ino.length = k := inoOf_len (by rw [HLN.out]; exact hk)
            obtain ⟨Av, cv, hv⟩ := own_slice hI.ino
            rw [hkl] at hv
            subst hv
            have hino := hI.ino
            rw [hkl] at hino
            have g1 : W.cell? ⟨b, 1, none⟩ = some (.slice Av k cv) := by simpa using hI.blk.cell 1
            have g1d : W.drew.cell? ⟨b, 1, none⟩ = some (.slice Av k cv) := g1
            obtain ⟨g0, g2⟩ := FW.out W hBW
            have HBW := Lib.hid hBW
            have HI := Lib.hid hI
            have HINO := Lib.hid hino
            have HLTW := Lib.hid hltW
            have hA0 := (Below.refl W.heap.size W).alloc (Nat.le_refl _) (.cells #[] 5)
            have g1a : (W.alloc (.cells #[] 5)).drew.cell? ⟨b, 1, none⟩ = some (.slice Av k cv) := below_cells hA0 g1
            have g2a : (W.alloc (.cells #[] 5)).drew.cell? ⟨(ad.add (k * 2)).block, (ad.add (k * 2)).off + 1, none⟩ = some (.slice o.B o.bn o.bc) := below_cells hA0 g2
            have HFB : Hid ((ad.add (k * 2)).block = ad.block) := Lib.hid (by unfold Addr.add; split <;> rfl)
            have HSRC := Lib.hid ((HIN.out.b.below (below_then HBW.out hA0 HBW.out.size)).drew)
            have hbsl : o.bs.length = o.bn := by have := HIN.out.b.2.1.len; simpa using this
            have HBSL := Lib.hid hbsl
            clear hW hI hltW hBW hino hA0 kd f0 f1 hbsl
            go_upto_region 9 with fail
            go_cut [67] (fun _ wy => ∃ F', R1At wy F' b { rOf R l k with ino := inoOf l (k + 1) } ∧ (∀ i, F' i → w.heap.size ≤ i) ∧ Below w.heap.size w wy)
            case first =>
              go_wp2_with fail
              refine wp_region_held_drew (S := fun w' => w'.cell? ⟨(ad.add (k * 2)).block, (ad.add (k * 2)).off + 1, none⟩ = some (.slice o.B o.bn o.bc)) (by kernel_rfl) ?_ (fun hHeld => ?_)
              · exact g2
              refine wpAnyH_take (i := 0) (oi := ?oip0) (v := ?vp0) ?hip0 (by kernel_rfl) (by kernel_rfl) (by kernel_rfl) ?hQp0 (Or.inl ⟨?hwp0, ?hyp0⟩) (by assumption) ?restp0
              case hip0 => (first | (simp only [List.getElem?_toArray, List.getElem?_cons_zero, List.getElem?_cons_succ]; rfl) | rfl)
              case hQp0 => exact fun _ _ _ h => h
              case hwp0 => rfl
              case hyp0 => ((intro w hSw; go_simp); first | done | with_reducible rfl)
              try simp only [Act.put, List.setIfInBounds_toArray, List.set_cons_zero, List.set_cons_succ]
              refine wpAnyH_take (i := 1) (oi := ?oip1) (v := ?vp1) ?hip1 (by kernel_rfl) (by kernel_rfl) (by kernel_rfl) ?hQp1 (Or.inl ⟨?hwp1, ?hyp1⟩) (by assumption) ?restp1
              case hip1 => (first | (simp only [List.getElem?_toArray, List.getElem?_cons_zero, List.getElem?_cons_succ]; rfl) | rfl)
              case hQp1 => exact fun _ _ _ h => h
              case hwp1 => rfl
              case hyp1 => ((intro w hSw; go_simp); first | done | with_reducible rfl)
              try simp only [Act.put, List.setIfInBounds_toArray, List.set_cons_zero, List.set_cons_succ]
              refine wpAnyH_take (i := 2) (oi := ?oip2) (v := ?vp2) ?hip2 (by kernel_rfl) (by kernel_rfl) (by kernel_rfl) ?hQp2 (Or.inl ⟨?hwp2, ?hyp2⟩) (by assumption) ?restp2
              case hip2 => (first | (simp only [List.getElem?_toArray, List.getElem?_cons_zero, List.getElem?_cons_succ]; rfl) | rfl)
              case hQp2 => exact fun _ _ _ h => h
              case hwp2 => rfl
              case hyp2 => ((intro w hSw; go_simp); first | done | with_reducible rfl)
              try simp only [Act.put, List.setIfInBounds_toArray, List.set_cons_zero, List.set_cons_succ]
              refine wpAnyH_take (i := 3) (oi := ?oip3) (v := ?vp3) ?hip3 (by kernel_rfl) (by kernel_rfl) (by kernel_rfl) ?hQp3 (Or.inl ⟨?hwp3, ?hyp3⟩) (by assumption) ?restp3
              case hip3 => (first | (simp only [List.getElem?_toArray, List.getElem?_cons_zero, List.getElem?_cons_succ]; rfl) | rfl)
              case hQp3 => exact fun _ _ _ h => h
              case hwp3 => rfl
              case hyp3 => ((intro w hSw; go_simp); first | done | with_reducible rfl)
              try simp only [Act.put, List.setIfInBounds_toArray, List.set_cons_zero, List.set_cons_succ]
              refine wpAnyH_take (i := 6) (oi := ?oip6) (v := ?vp6) ?hip6 (by kernel_rfl) (by kernel_rfl) (by kernel_rfl) ?hQp6 (Or.inl ⟨?hwp6, ?hyp6⟩) (by assumption) ?restp6
              case hip6 => (first | (simp only [List.getElem?_toArray, List.getElem?_cons_zero, List.getElem?_cons_succ]; rfl) | rfl)
              case hQp6 => exact fun _ _ _ h => h
              case hwp6 => rfl
              case hyp6 => ((intro w hSw; go_simp); first | done | with_reducible rfl)
              try simp only [Act.put, List.setIfInBounds_toArray, List.set_cons_zero, List.set_cons_succ]
              refine wpAnyH_take (i := 7) (oi := ?oip7) (v := ?vp7) ?hip7 (by kernel_rfl) (by kernel_rfl) (by kernel_rfl) ?hQp7 (Or.inl ⟨?hwp7, ?hyp7⟩) (by assumption) ?restp7
              case hip7 => (first | (simp only [List.getElem?_toArray, List.getElem?_cons_zero, List.getElem?_cons_succ]; rfl) | rfl)
              case hQp7 => exact fun _ _ _ h => h
              case hwp7 => rfl
              case hyp7 => ((intro w hSw; go_simp); first | done | with_reducible rfl)
              try simp only [Act.put, List.setIfInBounds_toArray, List.set_cons_zero, List.set_cons_succ]
              refine wpAnyH_take (i := 8) (oi := ?oip8) (v := ?vp8) ?hip8 (by kernel_rfl) (by kernel_rfl) (by kernel_rfl) ?hQp8 (Or.inl ⟨?hwp8, ?hyp8⟩) (by assumption) ?restp8
              case hip8 => (first | (simp only [List.getElem?_toArray, List.getElem?_cons_zero, List.getElem?_cons_succ]; rfl) | rfl)
              case hQp8 => exact fun _ _ _ h => h
              case hwp8 => rfl
              case hyp8 => ((intro w hSw; go_simp); first | done | with_reducible rfl)
              try simp only [Act.put, List.setIfInBounds_toArray, List.set_cons_zero, List.set_cons_succ]
              refine wpAnyH_take (i := 9) (oi := ?oip9) (v := ?vp9) ?hip9 (by kernel_rfl) (by kernel_rfl) (by kernel_rfl) ?hQp9 (Or.inl ⟨?hwp9, ?hyp9⟩) (by assumption) ?restp9
              case hip9 => (first | (simp only [List.getElem?_toArray, List.getElem?_cons_zero, List.getElem?_cons_succ]; rfl) | rfl)
              case hQp9 => exact fun _ _ _ h => h
              case hwp9 => rfl
              case hyp9 => ((intro w hSw; go_simp); first | done | with_reducible rfl)
              try simp only [Act.put, List.setIfInBounds_toArray, List.set_cons_zero, List.set_cons_succ]
              refine wpAnyH_take (i := 10) (oi := ?oip10) (v := ?vp10) ?hip10 (by kernel_rfl) (by kernel_rfl) (by kernel_rfl) ?hQp10 (Or.inl ⟨?hwp10, ?hyp10⟩) (by assumption) ?restp10
              case hip10 => (first | (simp only [List.getElem?_toArray, List.getElem?_cons_zero, List.getElem?_cons_succ]; rfl) | rfl)
              case hQp10 => exact fun _ _ _ h => h
              case hwp10 => rfl
              case hyp10 => ((intro w hSw; go_simp); first | done | with_reducible rfl)
              try simp only [Act.put, List.setIfInBounds_toArray, List.set_cons_zero, List.set_cons_succ]
              refine wpAnyH_take (i := 12) (oi := ?oip12) (v := ?vp12) ?hip12 (by kernel_rfl) (by kernel_rfl) (by kernel_rfl) ?hQp12 (Or.inl ⟨?hwp12, ?hyp12⟩) (by assumption) ?restp12
              case hip12 => (first | (simp only [List.getElem?_toArray, List.getElem?_cons_zero, List.getElem?_cons_succ]; rfl) | rfl)
              case hQp12 => exact fun _ _ _ h => h
              case hwp12 => rfl
              case hyp12 => ((intro w hSw; go_simp); first | done | with_reducible rfl)
              try simp only [Act.put, List.setIfInBounds_toArray, List.set_cons_zero, List.set_cons_succ]
              refine wpAnyH_take (i := 13) (oi := ?oip13) (v := ?vp13) ?hip13 (by kernel_rfl) (by kernel_rfl) (by kernel_rfl) ?hQp13 (Or.inl ⟨?hwp13, ?hyp13⟩) (by assumption) ?restp13
              case hip13 => (first | (simp only [List.getElem?_toArray, List.getElem?_cons_zero, List.getElem?_cons_succ]; rfl) | rfl)
              case hQp13 => exact fun _ _ _ h => h
              case hwp13 => rfl
              case hyp13 => ((intro w hSw; go_simp); first | done | with_reducible rfl)
              try simp only [Act.put, List.setIfInBounds_toArray, List.set_cons_zero, List.set_cons_succ]
              refine wpAnyH_take (i := 14) (oi := ?oip14) (v := ?vp14) ?hip14 (by kernel_rfl) (by kernel_rfl) (by kernel_rfl) ?hQp14 (Or.inl ⟨?hwp14, ?hyp14⟩) (by assumption) ?restp14
              case hip14 => (first | (simp only [List.getElem?_toArray, List.getElem?_cons_zero, List.getElem?_cons_succ]; rfl) | rfl)
              case hQp14 => exact fun _ _ _ h => h
              case hwp14 => rfl
              case hyp14 => ((intro w hSw; go_simp); first | done | with_reducible rfl)
              try simp only [Act.put, List.setIfInBounds_toArray, List.set_cons_zero, List.set_cons_succ]
              refine wpAnyH_take (i := 15) (oi := ?oip15) (v := ?vp15) ?hip15 (by kernel_rfl) (by kernel_rfl) (by kernel_rfl) ?hQp15 (Or.inl ⟨?hwp15, ?hyp15⟩) (by assumption) ?restp15
              case hip15 => (first | (simp only [List.getElem?_toArray, List.getElem?_cons_zero, List.getElem?_cons_succ]; rfl) | rfl)
              case hQp15 => exact fun _ _ _ h => h
              case hwp15 => rfl
              case hyp15 => ((intro w hSw; go_simp); first | done | with_reducible rfl)
              try simp only [Act.put, List.setIfInBounds_toArray, List.set_cons_zero, List.set_cons_succ]
              refine wpAnyH_take (i := 16) (oi := ?oip16) (v := ?vp16) ?hip16 (by kernel_rfl) (by kernel_rfl) (by kernel_rfl) ?hQp16 (Or.inl ⟨?hwp16, ?hyp16⟩) (by assumption) ?restp16
              case hip16 => (first | (simp only [List.getElem?_toArray, List.getElem?_cons_zero, List.getElem?_cons_succ]; rfl) | rfl)
              case hQp16 => exact fun _ _ _ h => h
              case hwp16 => rfl
              case hyp16 => ((intro w hSw; go_simp); first | done | with_reducible rfl)
              try simp only [Act.put, List.setIfInBounds_toArray, List.set_cons_zero, List.set_cons_succ]
              refine wpAnyH_take (i := 17) (oi := ?oip17) (v := ?vp17) ?hip17 (by kernel_rfl) (by kernel_rfl) (by kernel_rfl) ?hQp17 (Or.inl ⟨?hwp17, ?hyp17⟩) (by assumption) ?restp17
              case hip17 => (first | (simp only [List.getElem?_toArray, List.getElem?_cons_zero, List.getElem?_cons_succ]; rfl) | rfl)
              case hQp17 => exact fun _ _ _ h => h
              case hwp17 => rfl
              case hyp17 => ((intro w hSw; go_simp); first | done | with_reducible rfl)
              try simp only [Act.put, List.setIfInBounds_toArray, List.set_cons_zero, List.set_cons_succ]
              refine wpAnyH_ready (rs := [4, 5]) (by kernel_rfl) (by simp) ?_
              refine AllReadyH.cons (o := ?oz1) ?hz1 ?sz1 (AllReadyH.cons (o := ?oz2) ?hz2 ?sz2 AllReadyH.nil)
              case hz1 => (simp only [List.getElem?_toArray, List.getElem?_cons_zero, List.getElem?_cons_succ]; rfl)
              case hz2 => (simp only [List.getElem?_toArray, List.getElem?_cons_zero, List.getElem?_cons_succ]; rfl)
              case sz1 =>
                intro K hK
                go_simp
                refine hK.out _ _ hHeld (fun _ => ?_)
                clear hK K
                try simp only [Act.put, List.setIfInBounds_toArray, List.set_cons_zero, List.set_cons_succ]
                refine wpAnyH_ready (rs := [5]) (by kernel_rfl) (by simp) ?_
                refine AllReadyH.cons (o := ?oz3) ?hz3 ?sz3 AllReadyH.nil
                case hz3 => (simp only [List.getElem?_toArray, List.getElem?_cons_zero, List.getElem?_cons_succ]; rfl)
                case sz3 =>
                  intro K hK
                  go_simp
                  refine hK.out _ _ g2a (fun _ => ?_)
                  clear hK K
                  try simp only [Act.put, List.setIfInBounds_toArray, List.set_cons_zero, List.set_cons_succ]
                  refine wpAnyH_ready (rs := [11]) (by kernel_rfl) (by simp) ?_
                  refine AllReadyH.cons (o := ?oz4) ?hz4 ?sz4 AllReadyH.nil
                  case hz4 => (simp only [List.getElem?_toArray, List.getElem?_cons_zero, List.getElem?_cons_succ]; rfl)
                  case sz4 =>
                    intro K hK
                    refine step_append_src _ rfl (.tmp 52) (.tmp 57) 33 rfl W.heap.size 5 i0 (.int .u8 0) 1 Try.underlying33 hi hz0 hz1 hz2 rfl (.slice (some ⟨W.heap.size, 0, none⟩) 0 0) 0 [] rfl (World.ownsRow_made W #[] 0 (Nat.le_refl _) (Nat.zero_le _) rfl) o.B o.bn o.bc (o.bs.map byteV) rfl HSRC.out.2.1 (u8_one _) (by unfold maxLen; omega) (by omega) (by simp) ?_
                    intro v3 w3 hown hgrow hloc
                    obtain ⟨A3, c3, rfl⟩ := own_slice hown
                    rw [Nat.zero_add, List.nil_append] at hown
                    rw [Nat.zero_add]
                    have HB3 : Hid (Below W.heap.size W w3) := Lib.hid ((((Below.refl _ W).alloc (Nat.le_refl _) (.cells #[] 5)).drew).grown hgrow (by simp) (fun k e => by cases e; exact Nat.le_refl _))
                    have HO3 := Lib.hid hown
                    have g3 := below_cells HB3.out g1
                    have g3f := below_cells HB3.out g2
                    clear hown hgrow hloc
                    refine hK.out _ _ g3f (fun hHeldB => ?_)
                    clear hK K
                    refine wpAnyH_take (i := 18) (oi := ?oiz518) (v := ?vz518) ?hiz518 (by kernel_rfl) (by kernel_rfl) (by kernel_rfl) ?hQz518 (Or.inl ⟨?hwz518, ?hyz518⟩) (by assumption) ?restz518
                    case hiz518 => (first | (simp only [List.getElem?_toArray, List.getElem?_cons_zero, List.getElem?_cons_succ]; rfl) | rfl)
                    case hQz518 => exact fun _ _ _ h => h
                    case hwz518 => rfl
                    case hyz518 => ((intro w hSw; go_simp); first | done | with_reducible rfl)
                    try simp only [Act.put, List.setIfInBounds_toArray, List.set_cons_zero, List.set_cons_succ]
                    refine wpAnyH_ready (rs := [19]) (by kernel_rfl) (by simp) ?_
                    refine AllReadyH.cons (o := ?oz6) ?hz6 ?sz6 AllReadyH.nil
                    case hz6 => (simp only [List.getElem?_toArray, List.getElem?_cons_zero, List.getElem?_cons_succ]; rfl)
                    case sz6 =>
                      intro K hK
                      go_simp
                      have hA3 := (Below.refl w3.heap.size w3).alloc (Nat.le_refl _) (.cells #[.slice A3 o.bn c3, .int .i64 o.bn] 75)
                      have g3a := below_cells hA3 g3
                      have g3af := below_cells hA3 g3f
                      clear hA3
                      refine hK.out _ _ g3af (fun _ => ?_)
                      clear hK K
                      try simp only [Act.put, List.setIfInBounds_toArray, List.set_cons_zero, List.set_cons_succ]
                      refine wpAnyH_ready (rs := [20]) (by kernel_rfl) (by simp) ?_
                      refine AllReadyH.cons (o := ?oz7) ?hz7 ?sz7 AllReadyH.nil
                      case hz7 => (simp only [List.getElem?_toArray, List.getElem?_cons_zero, List.getElem?_cons_succ]; rfl)
                      case sz7 =>
                        intro K hK
                        refine step_append_rec _ rfl (.tmp 51) (.tmp 66) 43 rfl 0 75 j0 _ 2 32 Try.underlying43 hj hy0 hy1 hy2 rfl (by decide) _ k _ rfl (World.ownsRow.alloc (ownsRow_block HINO.out (w' := w3) fun g hg => HB3.out.block g (HINO.out.lt g hg).2) _) ⟨w3.heap.size, 0, none⟩ 1 1 [.slice A3 o.bn c3, .int .i64 o.bn] rfl rfl (by intro i u hu; rw [Addr.add_mid, cell_of_row _ _ _ _ _ _ (heap_alloc_new w3 _)]; simpa using hu) (by intro u hu; simp at hu; rcases hu with rfl | rfl <;> rfl) (by unfold maxLen; omega) (by omega) (Nat.zero_le _) ?_
                        intro v4 w4 hown4 hg4 hloc4
                        obtain ⟨A4, c4, rfl⟩ := own_slice hown4
                        have hblk3 := (HI.out.blk.below HB3.out HI.out.blk.lt).alloc (.cells #[.slice A3 o.bn c3, .int .i64 o.bn] 75)
                        have hblk4 := hblk3.grown hg4 (fun e => own_blk_ne HI.out.ino HI.out.blk (by decide) e.symm)
                        have j1 : w4.cell? ⟨b, 1, none⟩ = some (.slice Av k cv) := by simpa using hblk4.cell 1
                        have j1z : w4.frozen? ⟨b, 1, none⟩ = false := hblk4.frozen 1
                        have j2 : w4.cell? ⟨(ad.add (k * 2)).block, (ad.add (k * 2)).off + 1, none⟩ = some (.slice o.B o.bn o.bc) := (World.cell?_of_block (by
                          show w4.heap[(ad.add (k * 2)).block]? = _
                          rw [HFB.out]
                          refine hg4.block _ (by have := HBW.out.size; have := HB3.out.size; simp; omega) (fun e => ?_)
                          have := HF0.out _ (HF.out ad.block (.inr (.inl e.symm)))
                          omega)).trans g3af
                        have HO4 := Lib.hid hown4
                        have HG4 := Lib.hid hg4
                        have HLC4 := Lib.hid hloc4
                        have HBK4 := Lib.hid hblk4
                        clear hown4 hg4 hloc4 hblk3 hblk4
                        refine hK.out _ _ j2 (fun hHeldC => ?_)
                        clear hK K
                        refine wpAnyH_take (i := 21) (oi := ?oiz821) (v := ?vz821) ?hiz821 (by kernel_rfl) (by kernel_rfl) (by kernel_rfl) ?hQz821 (Or.inl ⟨?hwz821, ?hyz821⟩) (by assumption) ?restz821
                        case hiz821 => (first | (simp only [List.getElem?_toArray, List.getElem?_cons_zero, List.getElem?_cons_succ]; rfl) | rfl)
                        case hQz821 => exact fun _ _ _ h => h
                        case hwz821 => rfl
                        case hyz821 => ((intro w hSw; go_simp); first | done | with_reducible rfl)
                        try simp only [Act.put, List.setIfInBounds_toArray, List.set_cons_zero, List.set_cons_succ]
                        refine wpAnyH_take (i := 22) (oi := ?oiz822) (v := ?vz822) ?hiz822 (by kernel_rfl) (by kernel_rfl) (by kernel_rfl) ?hQz822 (Or.inl ⟨?hwz822, ?hyz822⟩) (by assumption) ?restz822
                        case hiz822 => (first | (simp only [List.getElem?_toArray, List.getElem?_cons_zero, List.getElem?_cons_succ]; rfl) | rfl)
                        case hQz822 => exact fun _ _ _ h => h
                        case hwz822 => rfl
                        case hyz822 => ((intro w hSw; go_simp); first | done | with_reducible rfl)
                        try simp only [Act.put, List.setIfInBounds_toArray, List.set_cons_zero, List.set_cons_succ]
                        refine wpAnyH_ready (rs := [23]) (by kernel_rfl) (by simp) ?_
                        refine AllReadyH.cons (o := ?oz9) ?hz9 ?sz9 AllReadyH.nil
                        case hz9 => (simp only [List.getElem?_toArray, List.getElem?_cons_zero, List.getElem?_cons_succ]; rfl)
                        intro K hK
                        go_simp
                        refine hK.out _ _ ((World.cell?_of_block (heap_setCell_other w4 ⟨b, 1, none⟩ (.slice A4 (k + 1) c4) (by show (ad.add (k * 2)).block ≠ b; rw [HFB.out]; omega))).trans j2) (fun _ => ?_)
                        clear hK K
                        try simp only [Act.put, List.setIfInBounds_toArray, List.set_cons_zero, List.set_cons_succ]
                        refine wpAnyH_done (by kernel_rfl) ?_ _
                        go_wp2_with fail
                        go_meet
                        case rel =>
                          obtain ⟨F', hR', hF', hK'⟩ := HI.out.addFile hkl HF.out HLTW.out HB3.out HO3.out HBSL.out (by omega) HO4.out HG4.out HLC4.out HBK4.out (by omega)
                          rw [show (rOf R l k).ino = inoOf l k from rfl, ← inoOf_succ HO.out] at hR'
                          refine ⟨F', hR', fun i hi => ?_, HBW.out.trans (hK'.toBelow HBW.out.size HF0.out)⟩
                          rcases hF' i hi with h1 | h1
                          · exact HF0.out i h1
                          · exact Nat.le_trans HBW.out.size h1
              case sz2 =>
                intro K hK
                go_simp
                refine hK.out _ _ g2a (fun _ => ?_)
                clear hK K
                try simp only [Act.put, List.setIfInBounds_toArray, List.set_cons_zero, List.set_cons_succ]
                refine wpAnyH_ready (rs := [4, 11]) (by kernel_rfl) (by simp) ?_
                refine AllReadyH.cons (o := ?oz10) ?hz10 ?sz10 (AllReadyH.cons (o := ?oz11) ?hz11 ?sz11 AllReadyH.nil)
                case hz10 => (simp only [List.getElem?_toArray, List.getElem?_cons_zero, List.getElem?_cons_succ]; rfl)
                case hz11 => (simp only [List.getElem?_toArray, List.getElem?_cons_zero, List.getElem?_cons_succ]; rfl)
                case sz10 =>
                  intro K hK
                  go_simp
                  refine hK.out _ _ g2a (fun _ => ?_)
                  clear hK K
                  try simp only [Act.put, List.setIfInBounds_toArray, List.set_cons_zero, List.set_cons_succ]
                  refine wpAnyH_ready (rs := [11]) (by kernel_rfl) (by simp) ?_
                  refine AllReadyH.cons (o := ?oz12) ?hz12 ?sz12 AllReadyH.nil
                  case hz12 => (simp only [List.getElem?_toArray, List.getElem?_cons_zero, List.getElem?_cons_succ]; rfl)
                  case sz12 =>
                    intro K hK
                    refine step_append_src _ rfl (.tmp 52) (.tmp 57) 33 rfl W.heap.size 5 i0 (.int .u8 0) 1 Try.underlying33 hi hz0 hz1 hz2 rfl (.slice (some ⟨W.heap.size, 0, none⟩) 0 0) 0 [] rfl (World.ownsRow_made W #[] 0 (Nat.le_refl _) (Nat.zero_le _) rfl) o.B o.bn o.bc (o.bs.map byteV) rfl HSRC.out.2.1 (u8_one _) (by unfold maxLen; omega) (by omega) (by simp) ?_
                    intro v3 w3 hown hgrow hloc
                    obtain ⟨A3, c3, rfl⟩ := own_slice hown
                    rw [Nat.zero_add, List.nil_append] at hown
                    rw [Nat.zero_add]
                    have HB3 : Hid (Below W.heap.size W w3) := Lib.hid ((((Below.refl _ W).alloc (Nat.le_refl _) (.cells #[] 5)).drew).grown hgrow (by simp) (fun k e => by cases e; exact Nat.le_refl _))
                    have HO3 := Lib.hid hown
                    have g3 := below_cells HB3.out g1
                    have g3f := below_cells HB3.out g2
                    clear hown hgrow hloc
                    refine hK.out _ _ g3f (fun hHeldB => ?_)
                    clear hK K
                    refine wpAnyH_take (i := 18) (oi := ?oiz1318) (v := ?vz1318) ?hiz1318 (by kernel_rfl) (by kernel_rfl) (by kernel_rfl) ?hQz1318 (Or.inl ⟨?hwz1318, ?hyz1318⟩) (by assumption) ?restz1318
                    case hiz1318 => (first | (simp only [List.getElem?_toArray, List.getElem?_cons_zero, List.getElem?_cons_succ]; rfl) | rfl)
                    case hQz1318 => exact fun _ _ _ h => h
                    case hwz1318 => rfl
                    case hyz1318 => ((intro w hSw; go_simp); first | done | with_reducible rfl)
                    try simp only [Act.put, List.setIfInBounds_toArray, List.set_cons_zero, List.set_cons_succ]
                    refine wpAnyH_ready (rs := [19]) (by kernel_rfl) (by simp) ?_
                    refine AllReadyH.cons (o := ?oz14) ?hz14 ?sz14 AllReadyH.nil
                    case hz14 => (simp only [List.getElem?_toArray, List.getElem?_cons_zero, List.getElem?_cons_succ]; rfl)
                    case sz14 =>
                      intro K hK
                      go_simp
                      have hA3 := (Below.refl w3.heap.size w3).alloc (Nat.le_refl _) (.cells #[.slice A3 o.bn c3, .int .i64 o.bn] 75)
                      have g3a := below_cells hA3 g3
                      have g3af := below_cells hA3 g3f
                      clear hA3
                      refine hK.out _ _ g3af (fun _ => ?_)
                      clear hK K
                      try simp only [Act.put, List.setIfInBounds_toArray, List.set_cons_zero, List.set_cons_succ]
                      refine wpAnyH_ready (rs := [20]) (by kernel_rfl) (by simp) ?_
                      refine AllReadyH.cons (o := ?oz15) ?hz15 ?sz15 AllReadyH.nil
                      case hz15 => (simp only [List.getElem?_toArray, List.getElem?_cons_zero, List.getElem?_cons_succ]; rfl)
                      case sz15 =>
                        intro K hK
                        refine step_append_rec _ rfl (.tmp 51) (.tmp 66) 43 rfl 0 75 j0 _ 2 32 Try.underlying43 hj hy0 hy1 hy2 rfl (by decide) _ k _ rfl (World.ownsRow.alloc (ownsRow_block HINO.out (w' := w3) fun g hg => HB3.out.block g (HINO.out.lt g hg).2) _) ⟨w3.heap.size, 0, none⟩ 1 1 [.slice A3 o.bn c3, .int .i64 o.bn] rfl rfl (by intro i u hu; rw [Addr.add_mid, cell_of_row _ _ _ _ _ _ (heap_alloc_new w3 _)]; simpa using hu) (by intro u hu; simp at hu; rcases hu with rfl | rfl <;> rfl) (by unfold maxLen; omega) (by omega) (Nat.zero_le _) ?_
                        intro v4 w4 hown4 hg4 hloc4
                        obtain ⟨A4, c4, rfl⟩ := own_slice hown4
                        have hblk3 := (HI.out.blk.below HB3.out HI.out.blk.lt).alloc (.cells #[.slice A3 o.bn c3, .int .i64 o.bn] 75)
                        have hblk4 := hblk3.grown hg4 (fun e => own_blk_ne HI.out.ino HI.out.blk (by decide) e.symm)
                        have j1 : w4.cell? ⟨b, 1, none⟩ = some (.slice Av k cv) := by simpa using hblk4.cell 1
                        have j1z : w4.frozen? ⟨b, 1, none⟩ = false := hblk4.frozen 1
                        have j2 : w4.cell? ⟨(ad.add (k * 2)).block, (ad.add (k * 2)).off + 1, none⟩ = some (.slice o.B o.bn o.bc) := (World.cell?_of_block (by
                          show w4.heap[(ad.add (k * 2)).block]? = _
                          rw [HFB.out]
                          refine hg4.block _ (by have := HBW.out.size; have := HB3.out.size; simp; omega) (fun e => ?_)
                          have := HF0.out _ (HF.out ad.block (.inr (.inl e.symm)))
                          omega)).trans g3af
                        have HO4 := Lib.hid hown4
                        have HG4 := Lib.hid hg4
                        have HLC4 := Lib.hid hloc4
                        have HBK4 := Lib.hid hblk4
                        clear hown4 hg4 hloc4 hblk3 hblk4
                        refine hK.out _ _ j2 (fun hHeldC => ?_)
                        clear hK K
                        refine wpAnyH_take (i := 21) (oi := ?oiz1621) (v := ?vz1621) ?hiz1621 (by kernel_rfl) (by kernel_rfl) (by kernel_rfl) ?hQz1621 (Or.inl ⟨?hwz1621, ?hyz1621⟩) (by assumption) ?restz1621
                        case hiz1621 => (first | (simp only [List.getElem?_toArray, List.getElem?_cons_zero, List.getElem?_cons_succ]; rfl) | rfl)
                        case hQz1621 => exact fun _ _ _ h => h
                        case hwz1621 => rfl
                        case hyz1621 => ((intro w hSw; go_simp); first | done | with_reducible rfl)
                        try simp only [Act.put, List.setIfInBounds_toArray, List.set_cons_zero, List.set_cons_succ]
                        refine wpAnyH_take (i := 22) (oi := ?oiz1622) (v := ?vz1622) ?hiz1622 (by kernel_rfl) (by kernel_rfl) (by kernel_rfl) ?hQz1622 (Or.inl ⟨?hwz1622, ?hyz1622⟩) (by assumption) ?restz1622
                        case hiz1622 => (first | (simp only [List.getElem?_toArray, List.getElem?_cons_zero, List.getElem?_cons_succ]; rfl) | rfl)
                        case hQz1622 => exact fun _ _ _ h => h
                        case hwz1622 => rfl
                        case hyz1622 => ((intro w hSw; go_simp); first | done | with_reducible rfl)
                        try simp only [Act.put, List.setIfInBounds_toArray, List.set_cons_zero, List.set_cons_succ]
                        refine wpAnyH_ready (rs := [23]) (by kernel_rfl) (by simp) ?_
                        refine AllReadyH.cons (o := ?oz17) ?hz17 ?sz17 AllReadyH.nil
                        case hz17 => (simp only [List.getElem?_toArray, List.getElem?_cons_zero, List.getElem?_cons_succ]; rfl)
                        intro K hK
                        go_simp
                        refine hK.out _ _ ((World.cell?_of_block (heap_setCell_other w4 ⟨b, 1, none⟩ (.slice A4 (k + 1) c4) (by show (ad.add (k * 2)).block ≠ b; rw [HFB.out]; omega))).trans j2) (fun _ => ?_)
                        clear hK K
                        try simp only [Act.put, List.setIfInBounds_toArray, List.set_cons_zero, List.set_cons_succ]
                        refine wpAnyH_done (by kernel_rfl) ?_ _
                        go_wp2_with fail
                        go_meet
                        case rel =>
                          obtain ⟨F', hR', hF', hK'⟩ := HI.out.addFile hkl HF.out HLTW.out HB3.out HO3.out HBSL.out (by omega) HO4.out HG4.out HLC4.out HBK4.out (by omega)
                          rw [show (rOf R l k).ino = inoOf l k from rfl, ← inoOf_succ HO.out] at hR'
                          refine ⟨F', hR', fun i hi => ?_, HBW.out.trans (hK'.toBelow HBW.out.size HF0.out)⟩
                          rcases hF' i hi with h1 | h1
                          · exact HF0.out i h1
                          · exact Nat.le_trans HBW.out.size h1
                case sz11 =>
                  intro K hK
                  refine step_append_src _ rfl (.tmp 52) (.tmp 57) 33 rfl W.heap.size 5 i0 (.int .u8 0) 1 Try.underlying33 hi hz0 hz1 hz2 rfl (.slice (some ⟨W.heap.size, 0, none⟩) 0 0) 0 [] rfl (World.ownsRow_made W #[] 0 (Nat.le_refl _) (Nat.zero_le _) rfl) o.B o.bn o.bc (o.bs.map byteV) rfl HSRC.out.2.1 (u8_one _) (by unfold maxLen; omega) (by omega) (by simp) ?_
                  intro v3 w3 hown hgrow hloc
                  obtain ⟨A3, c3, rfl⟩ := own_slice hown
                  rw [Nat.zero_add, List.nil_append] at hown
                  rw [Nat.zero_add]
                  have HB3 : Hid (Below W.heap.size W w3) := Lib.hid ((((Below.refl _ W).alloc (Nat.le_refl _) (.cells #[] 5)).drew).grown hgrow (by simp) (fun k e => by cases e; exact Nat.le_refl _))
                  have HO3 := Lib.hid hown
                  have g3 := below_cells HB3.out g1
                  have g3f := below_cells HB3.out g2
                  clear hown hgrow hloc
                  refine hK.out _ _ g3f (fun hHeldB => ?_)
                  clear hK K
                  refine wpAnyH_take (i := 18) (oi := ?oiz1818) (v := ?vz1818) ?hiz1818 (by kernel_rfl) (by kernel_rfl) (by kernel_rfl) ?hQz1818 (Or.inl ⟨?hwz1818, ?hyz1818⟩) (by assumption) ?restz1818
                  case hiz1818 => (first | (simp only [List.getElem?_toArray, List.getElem?_cons_zero, List.getElem?_cons_succ]; rfl) | rfl)
                  case hQz1818 => exact fun _ _ _ h => h
                  case hwz1818 => rfl
                  case hyz1818 => ((intro w hSw; go_simp); first | done | with_reducible rfl)
                  try simp only [Act.put, List.setIfInBounds_toArray, List.set_cons_zero, List.set_cons_succ]
                  refine wpAnyH_ready (rs := [4, 19]) (by kernel_rfl) (by simp) ?_
                  refine AllReadyH.cons (o := ?oz19) ?hz19 ?sz19 (AllReadyH.cons (o := ?oz20) ?hz20 ?sz20 AllReadyH.nil)
                  case hz19 => (simp only [List.getElem?_toArray, List.getElem?_cons_zero, List.getElem?_cons_succ]; rfl)
                  case hz20 => (simp only [List.getElem?_toArray, List.getElem?_cons_zero, List.getElem?_cons_succ]; rfl)
                  case sz19 =>
                    intro K hK
                    go_simp
                    refine hK.out _ _ g3f (fun _ => ?_)
                    clear hK K
                    try simp only [Act.put, List.setIfInBounds_toArray, List.set_cons_zero, List.set_cons_succ]
                    refine wpAnyH_ready (rs := [19]) (by kernel_rfl) (by simp) ?_
                    refine AllReadyH.cons (o := ?oz21) ?hz21 ?sz21 AllReadyH.nil
                    case hz21 => (simp only [List.getElem?_toArray, List.getElem?_cons_zero, List.getElem?_cons_succ]; rfl)
                    case sz21 =>
                      intro K hK
                      go_simp
                      have hA3 := (Below.refl w3.heap.size w3).alloc (Nat.le_refl _) (.cells #[.slice A3 o.bn c3, .int .i64 o.bn] 75)
                      have g3a := below_cells hA3 g3
                      have g3af := below_cells hA3 g3f
                      clear hA3
                      refine hK.out _ _ g3af (fun _ => ?_)
                      clear hK K
                      try simp only [Act.put, List.setIfInBounds_toArray, List.set_cons_zero, List.set_cons_succ]
                      refine wpAnyH_ready (rs := [20]) (by kernel_rfl) (by simp) ?_
                      refine AllReadyH.cons (o := ?oz22) ?hz22 ?sz22 AllReadyH.nil
                      case hz22 => (simp only [List.getElem?_toArray, List.getElem?_cons_zero, List.getElem?_cons_succ]; rfl)
                      case sz22 =>
                        intro K hK
                        refine step_append_rec _ rfl (.tmp 51) (.tmp 66) 43 rfl 0 75 j0 _ 2 32 Try.underlying43 hj hy0 hy1 hy2 rfl (by decide) _ k _ rfl (World.ownsRow.alloc (ownsRow_block HINO.out (w' := w3) fun g hg => HB3.out.block g (HINO.out.lt g hg).2) _) ⟨w3.heap.size, 0, none⟩ 1 1 [.slice A3 o.bn c3, .int .i64 o.bn] rfl rfl (by intro i u hu; rw [Addr.add_mid, cell_of_row _ _ _ _ _ _ (heap_alloc_new w3 _)]; simpa using hu) (by intro u hu; simp at hu; rcases hu with rfl | rfl <;> rfl) (by unfold maxLen; omega) (by omega) (Nat.zero_le _) ?_
                        intro v4 w4 hown4 hg4 hloc4
                        obtain ⟨A4, c4, rfl⟩ := own_slice hown4
                        have hblk3 := (HI.out.blk.below HB3.out HI.out.blk.lt).alloc (.cells #[.slice A3 o.bn c3, .int .i64 o.bn] 75)
                        have hblk4 := hblk3.grown hg4 (fun e => own_blk_ne HI.out.ino HI.out.blk (by decide) e.symm)
                        have j1 : w4.cell? ⟨b, 1, none⟩ = some (.slice Av k cv) := by simpa using hblk4.cell 1
                        have j1z : w4.frozen? ⟨b, 1, none⟩ = false := hblk4.frozen 1
                        have j2 : w4.cell? ⟨(ad.add (k * 2)).block, (ad.add (k * 2)).off + 1, none⟩ = some (.slice o.B o.bn o.bc) := (World.cell?_of_block (by
                          show w4.heap[(ad.add (k * 2)).block]? = _
                          rw [HFB.out]
                          refine hg4.block _ (by have := HBW.out.size; have := HB3.out.size; simp; omega) (fun e => ?_)
                          have := HF0.out _ (HF.out ad.block (.inr (.inl e.symm)))
                          omega)).trans g3af
                        have HO4 := Lib.hid hown4
                        have HG4 := Lib.hid hg4
                        have HLC4 := Lib.hid hloc4
                        have HBK4 := Lib.hid hblk4
                        clear hown4 hg4 hloc4 hblk3 hblk4
                        refine hK.out _ _ j2 (fun hHeldC => ?_)
                        clear hK K
                        refine wpAnyH_take (i := 21) (oi := ?oiz2321) (v := ?vz2321) ?hiz2321 (by kernel_rfl) (by kernel_rfl) (by kernel_rfl) ?hQz2321 (Or.inl ⟨?hwz2321, ?hyz2321⟩) (by assumption) ?restz2321
                        case hiz2321 => (first | (simp only [List.getElem?_toArray, List.getElem?_cons_zero, List.getElem?_cons_succ]; rfl) | rfl)
                        case hQz2321 => exact fun _ _ _ h => h
                        case hwz2321 => rfl
                        case hyz2321 => ((intro w hSw; go_simp); first | done | with_reducible rfl)
                        try simp only [Act.put, List.setIfInBounds_toArray, List.set_cons_zero, List.set_cons_succ]
                        refine wpAnyH_take (i := 22) (oi := ?oiz2322) (v := ?vz2322) ?hiz2322 (by kernel_rfl) (by kernel_rfl) (by kernel_rfl) ?hQz2322 (Or.inl ⟨?hwz2322, ?hyz2322⟩) (by assumption) ?restz2322
                        case hiz2322 => (first | (simp only [List.getElem?_toArray, List.getElem?_cons_zero, List.getElem?_cons_succ]; rfl) | rfl)
                        case hQz2322 => exact fun _ _ _ h => h
                        case hwz2322 => rfl
                        case hyz2322 => ((intro w hSw; go_simp); first | done | with_reducible rfl)
                        try simp only [Act.put, List.setIfInBounds_toArray, List.set_cons_zero, List.set_cons_succ]
                        refine wpAnyH_ready (rs := [23]) (by kernel_rfl) (by simp) ?_
                        refine AllReadyH.cons (o := ?oz24) ?hz24 ?sz24 AllReadyH.nil
                        case hz24 => (simp only [List.getElem?_toArray, List.getElem?_cons_zero, List.getElem?_cons_succ]; rfl)
                        intro K hK
                        go_simp
                        refine hK.out _ _ ((World.cell?_of_block (heap_setCell_other w4 ⟨b, 1, none⟩ (.slice A4 (k + 1) c4) (by show (ad.add (k * 2)).block ≠ b; rw [HFB.out]; omega))).trans j2) (fun _ => ?_)
                        clear hK K
                        try simp only [Act.put, List.setIfInBounds_toArray, List.set_cons_zero, List.set_cons_succ]
                        refine wpAnyH_done (by kernel_rfl) ?_ _
                        go_wp2_with fail
                        go_meet
                        case rel =>
                          obtain ⟨F', hR', hF', hK'⟩ := HI.out.addFile hkl HF.out HLTW.out HB3.out HO3.out HBSL.out (by omega) HO4.out HG4.out HLC4.out HBK4.out (by omega)
                          rw [show (rOf R l k).ino = inoOf l k from rfl, ← inoOf_succ HO.out] at hR'
                          refine ⟨F', hR', fun i hi => ?_, HBW.out.trans (hK'.toBelow HBW.out.size HF0.out)⟩
                          rcases hF' i hi with h1 | h1
                          · exact HF0.out i h1
                          · exact Nat.le_trans HBW.out.size h1
                  case sz20 =>
                    intro K hK
                    go_simp
                    have hA3 := (Below.refl w3.heap.size w3).alloc (Nat.le_refl _) (.cells #[.slice A3 o.bn c3, .int .i64 o.bn] 75)
                    have g3a := below_cells hA3 g3
                    have g3af := below_cells hA3 g3f
                    clear hA3
                    refine hK.out _ _ g3af (fun _ => ?_)
                    clear hK K
                    try simp only [Act.put, List.setIfInBounds_toArray, List.set_cons_zero, List.set_cons_succ]
                    refine wpAnyH_ready (rs := [4]) (by kernel_rfl) (by simp) ?_
                    refine AllReadyH.cons (o := ?oz25) ?hz25 ?sz25 AllReadyH.nil
                    case hz25 => (simp only [List.getElem?_toArray, List.getElem?_cons_zero, List.getElem?_cons_succ]; rfl)
                    case sz25 =>
                      intro K hK
                      go_simp
                      refine hK.out _ _ g3af (fun _ => ?_)
                      clear hK K
                      try simp only [Act.put, List.setIfInBounds_toArray, List.set_cons_zero, List.set_cons_succ]
                      refine wpAnyH_ready (rs := [20]) (by kernel_rfl) (by simp) ?_
                      refine AllReadyH.cons (o := ?oz26) ?hz26 ?sz26 AllReadyH.nil
                      case hz26 => (simp only [List.getElem?_toArray, List.getElem?_cons_zero, List.getElem?_cons_succ]; rfl)
                      case sz26 =>
                        intro K hK
                        refine step_append_rec _ rfl (.tmp 51) (.tmp 66) 43 rfl 0 75 j0 _ 2 32 Try.underlying43 hj hy0 hy1 hy2 rfl (by decide) _ k _ rfl (World.ownsRow.alloc (ownsRow_block HINO.out (w' := w3) fun g hg => HB3.out.block g (HINO.out.lt g hg).2) _) ⟨w3.heap.size, 0, none⟩ 1 1 [.slice A3 o.bn c3, .int .i64 o.bn] rfl rfl (by intro i u hu; rw [Addr.add_mid, cell_of_row _ _ _ _ _ _ (heap_alloc_new w3 _)]; simpa using hu) (by intro u hu; simp at hu; rcases hu with rfl | rfl <;> rfl) (by unfold maxLen; omega) (by omega) (Nat.zero_le _) ?_
                        intro v4 w4 hown4 hg4 hloc4
                        obtain ⟨A4, c4, rfl⟩ := own_slice hown4
                        have hblk3 := (HI.out.blk.below HB3.out HI.out.blk.lt).alloc (.cells #[.slice A3 o.bn c3, .int .i64 o.bn] 75)
                        have hblk4 := hblk3.grown hg4 (fun e => own_blk_ne HI.out.ino HI.out.blk (by decide) e.symm)
                        have j1 : w4.cell? ⟨b, 1, none⟩ = some (.slice Av k cv) := by simpa using hblk4.cell 1
                        have j1z : w4.frozen? ⟨b, 1, none⟩ = false := hblk4.frozen 1
                        have j2 : w4.cell? ⟨(ad.add (k * 2)).block, (ad.add (k * 2)).off + 1, none⟩ = some (.slice o.B o.bn o.bc) := (World.cell?_of_block (by
                          show w4.heap[(ad.add (k * 2)).block]? = _
                          rw [HFB.out]
                          refine hg4.block _ (by have := HBW.out.size; have := HB3.out.size; simp; omega) (fun e => ?_)
                          have := HF0.out _ (HF.out ad.block (.inr (.inl e.symm)))
                          omega)).trans g3af
                        have HO4 := Lib.hid hown4
                        have HG4 := Lib.hid hg4
                        have HLC4 := Lib.hid hloc4
                        have HBK4 := Lib.hid hblk4
                        clear hown4 hg4 hloc4 hblk3 hblk4
                        refine hK.out _ _ j2 (fun hHeldC => ?_)
                        clear hK K
                        refine wpAnyH_take (i := 21) (oi := ?oiz2721) (v := ?vz2721) ?hiz2721 (by kernel_rfl) (by kernel_rfl) (by kernel_rfl) ?hQz2721 (Or.inl ⟨?hwz2721, ?hyz2721⟩) (by assumption) ?restz2721
                        case hiz2721 => (first | (simp only [List.getElem?_toArray, List.getElem?_cons_zero, List.getElem?_cons_succ]; rfl) | rfl)
                        case hQz2721 => exact fun _ _ _ h => h
                        case hwz2721 => rfl
                        case hyz2721 => ((intro w hSw; go_simp); first | done | with_reducible rfl)
                        try simp only [Act.put, List.setIfInBounds_toArray, List.set_cons_zero, List.set_cons_succ]
                        refine wpAnyH_take (i := 22) (oi := ?oiz2722) (v := ?vz2722) ?hiz2722 (by kernel_rfl) (by kernel_rfl) (by kernel_rfl) ?hQz2722 (Or.inl ⟨?hwz2722, ?hyz2722⟩) (by assumption) ?restz2722
                        case hiz2722 => (first | (simp only [List.getElem?_toArray, List.getElem?_cons_zero, List.getElem?_cons_succ]; rfl) | rfl)
                        case hQz2722 => exact fun _ _ _ h => h
                        case hwz2722 => rfl
                        case hyz2722 => ((intro w hSw; go_simp); first | done | with_reducible rfl)
                        try simp only [Act.put, List.setIfInBounds_toArray, List.set_cons_zero, List.set_cons_succ]
                        refine wpAnyH_ready (rs := [23]) (by kernel_rfl) (by simp) ?_
                        refine AllReadyH.cons (o := ?oz28) ?hz28 ?sz28 AllReadyH.nil
                        case hz28 => (simp only [List.getElem?_toArray, List.getElem?_cons_zero, List.getElem?_cons_succ]; rfl)
                        intro K hK
                        go_simp
                        refine hK.out _ _ ((World.cell?_of_block (heap_setCell_other w4 ⟨b, 1, none⟩ (.slice A4 (k + 1) c4) (by show (ad.add (k * 2)).block ≠ b; rw [HFB.out]; omega))).trans j2) (fun _ => ?_)
                        clear hK K
                        try simp only [Act.put, List.setIfInBounds_toArray, List.set_cons_zero, List.set_cons_succ]
                        refine wpAnyH_done (by kernel_rfl) ?_ _
                        go_wp2_with fail
                        go_meet
                        case rel =>
                          obtain ⟨F', hR', hF', hK'⟩ := HI.out.addFile hkl HF.out HLTW.out HB3.out HO3.out HBSL.out (by omega) HO4.out HG4.out HLC4.out HBK4.out (by omega)
                          rw [show (rOf R l k).ino = inoOf l k from rfl, ← inoOf_succ HO.out] at hR'
                          refine ⟨F', hR', fun i hi => ?_, HBW.out.trans (hK'.toBelow HBW.out.size HF0.out)⟩
                          rcases hF' i hi with h1 | h1
                          · exact HF0.out i h1
                          · exact Nat.le_trans HBW.out.size h1
            case rest =>
              obtain ⟨F2, hR2, hF2, hB2⟩ := hcut
              obtain ⟨G2', vi2, vc2, A2, cA2, B2', cB2, svs2, h2, hFF2, hlt2⟩ := hR2
              have k2 := h2.blk.cell 2
              have k2z := h2.blk.frozen 2
              have hdir2 := h2.dir
              have e2 : ({ rOf R l k with ino := inoOf l (k + 1) } : RSt).dir = D := HD.out.symm
              rw [e2] at k2 hdir2
              simp at k2
              have k2d : wc.drew.cell? ⟨b, 2, none⟩ = some (.slice A2 D.length cA2) := k2
              obtain ⟨f0, _⟩ := FW.out wc hB2
              have H2 := Lib.hid h2
              have HDIR2 := Lib.hid (hdir2.below (Below.refl _ wc).drew)
              have HF2 := Lib.hid hF2
              have HFF2 := Lib.hid hFF2
              have HLT2 := Lib.hid hlt2
              have HB2 := Lib.hid hB2
              clear hF2 hB2 h2 hdir2 hFF2 hlt2 e2 g0 g1 g1d g2 g1a g2a
              go_wp2_with fail
              refine wp_region_held_drew (S := fun w' => w'.cell? (ad.add (k * 2)) = some (.string ⟨ky.toArray⟩)) (by kernel_rfl) ?_ (fun hHeld => ?_)
              · exact f0
              refine wpAnyH_take (i := 0) (oi := ?oiq0) (v := ?vq0) ?hiq0 (by kernel_rfl) (by kernel_rfl) (by kernel_rfl) ?hQq0 (Or.inl ⟨?hwq0, ?hyq0⟩) (by assumption) ?restq0
              case hiq0 => (first | (simp only [List.getElem?_toArray, List.getElem?_cons_zero, List.getElem?_cons_succ]; rfl) | rfl)
              case hQq0 => exact fun _ _ _ h => h
              case hwq0 => rfl
              case hyq0 => ((intro w hSw; go_simp); first | done | with_reducible rfl)
              try simp only [Act.put, List.setIfInBounds_toArray, List.set_cons_zero, List.set_cons_succ]
              refine wpAnyH_take (i := 1) (oi := ?oiq1) (v := ?vq1) ?hiq1 (by kernel_rfl) (by kernel_rfl) (by kernel_rfl) ?hQq1 (Or.inl ⟨?hwq1, ?hyq1⟩) (by assumption) ?restq1
              case hiq1 => (first | (simp only [List.getElem?_toArray, List.getElem?_cons_zero, List.getElem?_cons_succ]; rfl) | rfl)
              case hQq1 => exact fun _ _ _ h => h
              case hwq1 => rfl
              case hyq1 => ((intro w hSw; go_simp); first | done | with_reducible rfl)
              try simp only [Act.put, List.setIfInBounds_toArray, List.set_cons_zero, List.set_cons_succ]
              refine wpAnyH_take (i := 2) (oi := ?oiq2) (v := ?vq2) ?hiq2 (by kernel_rfl) (by kernel_rfl) (by kernel_rfl) ?hQq2 (Or.inl ⟨?hwq2, ?hyq2⟩) (by assumption) ?restq2
              case hiq2 => (first | (simp only [List.getElem?_toArray, List.getElem?_cons_zero, List.getElem?_cons_succ]; rfl) | rfl)
              case hQq2 => exact fun _ _ _ h => h
              case hwq2 => rfl
              case hyq2 => ((intro w hSw; go_simp); first | done | with_reducible rfl)
              try simp only [Act.put, List.setIfInBounds_toArray, List.set_cons_zero, List.set_cons_succ]
              refine wpAnyH_take (i := 3) (oi := ?oiq3) (v := ?vq3) ?hiq3 (by kernel_rfl) (by kernel_rfl) (by kernel_rfl) ?hQq3 (Or.inl ⟨?hwq3, ?hyq3⟩) (by assumption) ?restq3
              case hiq3 => (first | (simp only [List.getElem?_toArray, List.getElem?_cons_zero, List.getElem?_cons_succ]; rfl) | rfl)
              case hQq3 => exact fun _ _ _ h => h
              case hwq3 => rfl
              case hyq3 => ((intro w hSw; go_simp); first | done | with_reducible rfl)
              try simp only [Act.put, List.setIfInBounds_toArray, List.set_cons_zero, List.set_cons_succ]
              refine wpAnyH_take (i := 5) (oi := ?oiq5) (v := ?vq5) ?hiq5 (by kernel_rfl) (by kernel_rfl) (by kernel_rfl) ?hQq5 (Or.inl ⟨?hwq5, ?hyq5⟩) (by assumption) ?restq5
              case hiq5 => (first | (simp only [List.getElem?_toArray, List.getElem?_cons_zero, List.getElem?_cons_succ]; rfl) | rfl)
              case hQq5 => exact fun _ _ _ h => h
              case hwq5 => rfl
              case hyq5 => ((intro w hSw; go_simp); first | done | with_reducible rfl)
              try simp only [Act.put, List.setIfInBounds_toArray, List.set_cons_zero, List.set_cons_succ]
              refine wpAnyH_take (i := 6) (oi := ?oiq6) (v := ?vq6) ?hiq6 (by kernel_rfl) (by kernel_rfl) (by kernel_rfl) ?hQq6 (Or.inl ⟨?hwq6, ?hyq6⟩) (by assumption) ?restq6
              case hiq6 => (first | (simp only [List.getElem?_toArray, List.getElem?_cons_zero, List.getElem?_cons_succ]; rfl) | rfl)
              case hQq6 => exact fun _ _ _ h => h
              case hwq6 => rfl
              case hyq6 => ((intro w hSw; go_simp); first | done | with_reducible rfl)
              try simp only [Act.put, List.setIfInBounds_toArray, List.set_cons_zero, List.set_cons_succ]
              refine wpAnyH_take (i := 7) (oi := ?oiq7) (v := ?vq7) ?hiq7 (by kernel_rfl) (by kernel_rfl) (by kernel_rfl) ?hQq7 (Or.inl ⟨?hwq7, ?hyq7⟩) (by assumption) ?restq7
              case hiq7 => (first | (simp only [List.getElem?_toArray, List.getElem?_cons_zero, List.getElem?_cons_succ]; rfl) | rfl)
              case hQq7 => exact fun _ _ _ h => h
              case hwq7 => rfl
              case hyq7 => ((intro w hSw; go_simp); first | done | with_reducible rfl)
              try simp only [Act.put, List.setIfInBounds_toArray, List.set_cons_zero, List.set_cons_succ]
              refine wpAnyH_take (i := 8) (oi := ?oiq8) (v := ?vq8) ?hiq8 (by kernel_rfl) (by kernel_rfl) (by kernel_rfl) ?hQq8 (Or.inl ⟨?hwq8, ?hyq8⟩) (by assumption) ?restq8
              case hiq8 => (first | (simp only [List.getElem?_toArray, List.getElem?_cons_zero, List.getElem?_cons_succ]; rfl) | rfl)
              case hQq8 => exact fun _ _ _ h => h
              case hwq8 => rfl
              case hyq8 => ((intro w hSw; go_simp); first | done | with_reducible rfl)
              try simp only [Act.put, List.setIfInBounds_toArray, List.set_cons_zero, List.set_cons_succ]
              refine wpAnyH_take (i := 9) (oi := ?oiq9) (v := ?vq9) ?hiq9 (by kernel_rfl) (by kernel_rfl) (by kernel_rfl) ?hQq9 (Or.inl ⟨?hwq9, ?hyq9⟩) (by assumption) ?restq9
              case hiq9 => (first | (simp only [List.getElem?_toArray, List.getElem?_cons_zero, List.getElem?_cons_succ]; rfl) | rfl)
              case hQq9 => exact fun _ _ _ h => h
              case hwq9 => rfl
              case hyq9 => ((intro w hSw; go_simp); first | done | with_reducible rfl)
              try simp only [Act.put, List.setIfInBounds_toArray, List.set_cons_zero, List.set_cons_succ]
              refine wpAnyH_take (i := 10) (oi := ?oiq10) (v := ?vq10) ?hiq10 (by kernel_rfl) (by kernel_rfl) (by kernel_rfl) ?hQq10 (Or.inl ⟨?hwq10, ?hyq10⟩) (by assumption) ?restq10
              case hiq10 => (first | (simp only [List.getElem?_toArray, List.getElem?_cons_zero, List.getElem?_cons_succ]; rfl) | rfl)
              case hQq10 => exact fun _ _ _ h => h
              case hwq10 => rfl
              case hyq10 => ((intro w hSw; go_simp); first | done | with_reducible rfl)
              try simp only [Act.put, List.setIfInBounds_toArray, List.set_cons_zero, List.set_cons_succ]
              refine wpAnyH_take (i := 11) (oi := ?oiq11) (v := ?vq11) ?hiq11 (by kernel_rfl) (by kernel_rfl) (by kernel_rfl) ?hQq11 (Or.inl ⟨?hwq11, ?hyq11⟩) (by assumption) ?restq11
              case hiq11 => (first | (simp only [List.getElem?_toArray, List.getElem?_cons_zero, List.getElem?_cons_succ]; rfl) | rfl)
              case hQq11 => exact fun _ _ _ h => h
              case hwq11 => rfl
              case hyq11 => ((intro w hSw; go_simp); first | done | with_reducible rfl)
              try simp only [Act.put, List.setIfInBounds_toArray, List.set_cons_zero, List.set_cons_succ]
              refine wpAnyH_ready (rs := [4]) (by kernel_rfl) (by simp) ?_
              refine AllReadyH.cons (o := ?oz29) ?hz29 ?sz29 AllReadyH.nil
              case hz29 => (simp only [List.getElem?_toArray, List.getElem?_cons_zero, List.getElem?_cons_succ]; rfl)
              intro K hK
              go_simp
              refine hK.out _ _ hHeld (fun _ => ?_)
              clear hK K
              try simp only [Act.put, List.setIfInBounds_toArray, List.set_cons_zero, List.set_cons_succ]
              refine wpAnyH_ready (rs := [12]) (by kernel_rfl) (by simp) ?_
              refine AllReadyH.cons (o := ?oz30) ?hz30 ?sz30 AllReadyH.nil
              case hz30 => (simp only [List.getElem?_toArray, List.getElem?_cons_zero, List.getElem?_cons_succ]; rfl)
              intro K hK
              go_simp
              refine (r1with_any _ A2 D.length cA2 D HDIR2.out ky k).mono ?_
              rintro e w5 ⟨v5, rfl, hE5, hB5⟩
              obtain ⟨A5, c5, hv5, hd5, hA5⟩ := hE5.out (by have := length_dput D ky k; omega)
              subst hv5
              have hB5' : Below wc.heap.size wc w5 := undrew hB5
              have n2 := below_cells hB5' k2
              have n2z : w5.frozen? ⟨b, 2, none⟩ = false := (H2.out.blk.below hB5' H2.out.blk.lt).frozen 2
              have n0 := below_cells hB5' f0
              have HD5 := Lib.hid hd5
              have HA5 := Lib.hid (show ∀ ad, A5 = some ad → wc.heap.size ≤ ad.block from hA5)
              have HB5 := Lib.hid hB5'
              clear hE5 hB5 hd5 hA5 hB5'
              go_wp2_with fail
              refine hK.out _ _ n0 (fun hHeldA => ?_)
              clear hK K
              try simp only [Act.put, List.setIfInBounds_toArray, List.set_cons_zero, List.set_cons_succ]
              refine wpAnyH_take (i := 13) (oi := ?oir13) (v := ?vr13) ?hir13 (by kernel_rfl) (by kernel_rfl) (by kernel_rfl) ?hQr13 (Or.inl ⟨?hwr13, ?hyr13⟩) (by assumption) ?restr13
              case hir13 => (first | (simp only [List.getElem?_toArray, List.getElem?_cons_zero, List.getElem?_cons_succ]; rfl) | rfl)
              case hQr13 => exact fun _ _ _ h => h
              case hwr13 => rfl
              case hyr13 => ((intro w hSw; go_simp); first | done | with_reducible rfl)
              try simp only [Act.put, List.setIfInBounds_toArray, List.set_cons_zero, List.set_cons_succ]
              refine wpAnyH_take (i := 14) (oi := ?oir14) (v := ?vr14) ?hir14 (by kernel_rfl) (by kernel_rfl) (by kernel_rfl) ?hQr14 (Or.inl ⟨?hwr14, ?hyr14⟩) (by assumption) ?restr14
              case hir14 => (first | (simp only [List.getElem?_toArray, List.getElem?_cons_zero, List.getElem?_cons_succ]; rfl) | rfl)
              case hQr14 => exact fun _ _ _ h => h
              case hwr14 => rfl
              case hyr14 => ((intro w hSw; go_simp); first | done | with_reducible rfl)
              try simp only [Act.put, List.setIfInBounds_toArray, List.set_cons_zero, List.set_cons_succ]
              refine wpAnyH_ready (rs := [15]) (by kernel_rfl) (by simp) ?_
              refine AllReadyH.cons (o := ?oz31) ?hz31 ?sz31 AllReadyH.nil
              case hz31 => (simp only [List.getElem?_toArray, List.getElem?_cons_zero, List.getElem?_cons_succ]; rfl)
              intro K hK
              go_simp
              refine hK.out _ _ ((World.cell?_of_block (heap_setCell_other w5 ⟨b, 2, none⟩ (.slice A5 (dput D ky k).length c5) (by show (ad.add (k * 2)).block ≠ b; rw [HFB.out]; omega))).trans n0) (fun _ => ?_)
              clear hK K
              try simp only [Act.put, List.setIfInBounds_toArray, List.set_cons_zero, List.set_cons_succ]
              refine wpAnyH_done (by kernel_rfl) ?_ _
              go_wp2_with fail
              go_roundw
              case rel =>
                obtain ⟨F', hR', hF', hK'⟩ := H2.out.newDir HFF2.out HLT2.out HB5.out HD5.out HA5.out (c' := c5) (by have := length_dput D ky k; omega) (fun p hp => by
                  show p.2 < (inoOf l (k + 1)).length
                  rw [inoOf_len (by rw [HLN.out]; omega)]
                  rcases mem_dput.1 hp with e | e
                  · rw [e]; exact Nat.lt_succ_self k
                  · have := ofDir_file l k p (by rw [← HD.out]; exact e.1)
                    omega)
                refine ⟨k + 1, F', by omega, by go_num, ?_, fun i hi => ?_, HB2.out.trans (hK'.toBelow HB2.out.size HF2.out), fun j p hj hp => ?_⟩
                · have e : ({ ({ rOf R l k with ino := inoOf l (k + 1) } : RSt) with dir := dput D ky k } : RSt) = rOf R l (k + 1) := by
                    unfold rOf
                    rw [ofDir_succ HO.out, HKY.out, ← HD.out]
                  rw [← e]
                  exact hR'
                · rcases hF' i hi with h1 | h1
                  · exact HF2.out i h1
                  · exact Nat.le_trans HB2.out.size h1
                · by_cases e : j = k
                  · subst e
                    rw [HO.out] at hp
                    cases hp
                    exact HOFK.out
                  · exact HOKS.out j p (by omega) hp
              case measure => simp [intOf]; omega
        · have G1 := Lib.hid g1
          have G2 := Lib.hid g2
          have hi0 : (0 : Int) ≤ (i : Int) := by omega
          have db : decide ((i : Int) ≥ 0) = true := by simp
          clear g1 g2
          obtain ⟨blk, off, sp⟩ := ad
          go_wp2_with fail
          go_quiet (first | (go_at_call 34; refine Calls.quiet_of_same (right_is _ ky hkm HON.out)) | (go_at_call 35; refine Calls.quiet_of_same (r1find_is _ A1 _ cA D (HDIR.out.drewN _) ky G2.out)))
          go_wp2
          go_ret
          exact FIN.out _ (below_drewN HB.out _) (fun hg => by have := hg.2.1; rw [HKY.out, ← HD.out, G1.out] at this; cases this)
    · obtain rfl : k = n := by omega
      have hlz : ¬ ((k : Int) < (k : Int)) := by omega
      have hg : OfGood l := ⟨by rw [HLN.out]; exact hn64, fun j o ho => HOKS.out j o (by have := (List.getElem?_eq_some_iff.1 ho).1; have := HLN.out; omega) ho⟩
      have hrr := HR1.out
      obtain ⟨G, vi, vc, A1, cA, B1, cB, svs, h1, hF, hlt1⟩ := hrr
      have k2 := h1.blk.cell 2
      have k3 := h1.blk.cell 3
      have z3 := h1.blk.frozen 3
      simp at k2 k3
      have H1 := Lib.hid h1
      have HF := Lib.hid hF
      have HLT := Lib.hid hlt1
      have HGD := Lib.hid hg
      clear h1 hF hlt1 hg
      go_wp2
      go_ret
      have h := H1.out
      have hk2 : ∀ i, i ≠ b → (wr.setCell ⟨b, 3, none⟩ (.slice A1 (rOf R l k).dir.length cA)).heap[i]? = wr.heap[i]? := fun i hi => heap_setCell_other _ _ _ hi
      have hs2 : (wr.setCell ⟨b, 3, none⟩ (.slice A1 (rOf R l k).dir.length cA)).heap.size = wr.heap.size := by simp [World.setCell]
      have hdd : DirIn (wr.setCell ⟨b, 3, none⟩ (.slice A1 (rOf R l k).dir.length cA)) A1 (rOf R l k).dir.length (rOf R l k).dir := h.dir.keep fun ad e h0 => hk2 _ (fun e2 => h.gb (by rw [← e2]; exact h.dirG ad e h0))
      have hend : rOfEnd R l = { rOf R l k with old := (rOf R l k).dir } := by unfold rOfEnd; rw [HLN.out]; rfl
      refine ⟨HB.out.setCell hbw _, .inr ⟨b, F, rfl, HGD.out, ?_, HF0.out⟩⟩
      rw [hend]
      refine ⟨G, vi, vc, A1, cA, A1, cA, svs, ?_, fun i hi => HF.out i hi, fun i hi => by rw [hs2]; exact HLT.out i hi⟩
      exact {
        wf := { h.wf with nold := h.wf.ndir, fold := h.wf.fdir }
        blk := by simpa using h.blk.set_ 3 (.slice A1 (rOf R l k).dir.length cA)
        ino := ownsRow_block h.ino fun g hg => hk2 g (fun e => own_blk_ne h.ino h.blk (by decide) (by rw [hg, e]))
        isl := h.isl
        dat := fun i sv x e1 e2 => by
          obtain ⟨D, cd, q1, q2, q3, q4⟩ := h.dat i sv x e1 e2
          exact ⟨D, cd, q1, q2, ⟨q3.1, q3.2.1.keep fun ad e h0 => hk2 _ (fun e2 => h.gb (by rw [← e2]; exact q4 ad e h0)), fun ad e h0 => by rw [hs2]; exact q3.2.2 ad e h0⟩, q4⟩
        dir := hdd
        dirG := h.dirG
        old := hdd
        oldG := h.dirG
        chs := ownsRow_block h.chs fun g hg => hk2 g (fun e => own_blk_ne h.chs h.blk (by decide) (by rw [hg, e]))
        gb := h.gb
        gi := h.gi
        gc := h.gc
        glt := fun i hi => by rw [hs2]; exact h.glt i hi }
end Go.Proofs.Ytblpppeppgfbpaa
