/- The contract of the program's shifts. -/
import Derived.Test.YtjnbilcanfhkjaaOGroup
import Derived.Test.YtjnbilcanfhkjaaOAlign
import Derived.Test.YtjnbilcanfhkjaaONew
import Derived.Deep.AppendLies
namespace Go.Proofs.Ytjnbilcanfhkjaa
open Go.RowKit Go.Maps Go.WideMaps Go.Shelf
set_option linter.unusedSimpArgs false

attribute [local go_sem] Oper.semAt_some

/-- So many aligns lie in the map. -/
structure ShJ (w : World) (b : Nat) (B : Option Addr) (m cb : Nat) (L : List Nm) (s : Nm) (k : Nat) (G : Nat → Prop) (V : World) : Prop where
  grp : ∃ D, Grp V w.heap.size k D G ∧ SelMap D (sel ((seqAll L s).take k))
  below : Below w.heap.size w V
  bm : Blk V (w.heap.size + 1) 51 #[.map (some w.heap.size)]
  b1 : Blk V (w.heap.size + 1 + 1) 29 #[.pointer (some ⟨b, 0, none⟩)]
  b2 : Blk V (w.heap.size + 1 + 1 + 1) 23 #[.slice B m cb]
  foot : ∀ i, G i → (i = w.heap.size ∨ w.heap.size + 6 ≤ i) ∧ i < V.heap.size
  size : w.heap.size + 6 ≤ V.heap.size
section
variable {w V : World} {b : Nat} {B : Option Addr} {m cb : Nat} {L : List Nm} {s : Nm} {k : Nat} {G : Nat → Prop}
theorem ShJ.then {V' : World} (h : ShJ w b B m cb L s k G V) (hb : Below V.heap.size V V') : ShJ w b B m cb L s k G V' where
  grp := by obtain ⟨D, h1, h2⟩ := h.grp; exact ⟨D, h1.below hb, h2⟩
  below := below_then h.below hb (by have := h.size; omega)
  bm := h.bm.below hb h.bm.lt
  b1 := h.b1.below hb h.b1.lt
  b2 := h.b2.below hb h.b2.lt
  foot := fun i hi => ⟨(h.foot i hi).1, Nat.lt_of_lt_of_le (h.foot i hi).2 hb.size⟩
  size := Nat.le_trans h.size hb.size
theorem ShJ.putObj (h : ShJ w b B m cb L s k G V) (o : Obj) : ShJ w b B m cb L s k G (V.putObj (w.heap.size + 1 + 1 + 1 + 1 + 1) o) where
  grp := by obtain ⟨D, h1, h2⟩ := h.grp; exact ⟨D, h1.putObj (fun hg => by have := h.foot _ hg; omega) o, h2⟩
  below := ⟨h.below.os, h.below.tape, h.below.output, by simpa using h.below.size, fun i hi => (World.putObj_heap_other (by omega)).trans (h.below.block i hi)⟩
  bm := h.bm.putObj (by omega) o
  b1 := h.b1.putObj (by omega) o
  b2 := h.b2.putObj (by omega) o
  foot := fun i hi => ⟨(h.foot i hi).1, by simpa using (h.foot i hi).2⟩
  size := by simpa using h.size
theorem ShJ.rd (h : ShJ w b B m cb L s k G V) : AlRd w b B m cb (w.heap.size + 1 + 1) (w.heap.size + 1 + 1 + 1) V := ⟨h.below, h.b1.cell 0, h.b2.cell 0⟩
theorem ShJ.next {V' : World} {G' : Nat → Prop} {D : DataW Unit} (h : ShJ w b B m cb L s k G V) (hk : Kept G V V') (hG : Grp V' w.heap.size (k + 1) D G') (hS : SelMap D (sel ((seqAll L s).take (k + 1)))) (hn : ∀ i, G' i → G i ∨ (V.heap.size ≤ i ∧ i < V'.heap.size)) : ShJ w b B m cb L s (k + 1) G' V' where
  grp := ⟨D, hG, hS⟩
  below := by
    have h2 := hk.toBelow (B := w.heap.size) (by have := h.size; omega) (fun i hi => by have := h.foot i hi; omega)
    exact h.below.trans h2
  bm := h.bm.kept hk (fun hg => by have := h.foot _ hg; omega)
  b1 := h.b1.kept hk (fun hg => by have := h.foot _ hg; omega)
  b2 := h.b2.kept hk (fun hg => by have := h.foot _ hg; omega)
  foot := fun i hi => by
    have h1 := h.size
    have h2 := hk.size
    rcases hn i hi with h3 | h3
    · have := h.foot i h3; omega
    · omega
  size := Nat.le_trans h.size hk.size
end

set_option maxRecDepth 100000 in
set_option maxHeartbeats 8000000 in
theorem shifts_any {w : World} {b : Nat} {L : List Nm} (hC : CovAt w b L) (hr : rightB L = true) (B : Option Addr) (m cb : Nat) (s : Nm) (hs : BytesIn w B m s) (hmc : m ≤ cb) (hm3 : m ≤ 30000) :
    Calls Try.prog 23 #[.pointer (some ⟨b, 0, none⟩), .slice B m cb] w fun e w' => ∃ n D G, e = .returned (.map (some w.heap.size)) ∧ Below w.heap.size w w' ∧ Grp w' w.heap.size n D G ∧ (∀ i, G i → i < w'.heap.size) ∧ n ≤ 20000 ∧ SelMap D fun t => shOf (tokI L t) s := by
  obtain ⟨i0, hi, hz0, hz1, hz2⟩ := info_parts intInfoI
  have HMK := Lib.hid (fun w => aligns_make w b B m cb)
  have HSEQ := Lib.hid (aligns_seq hC hr B m cb s hs hmc hm3 (w.heap.size + 1 + 1) (w.heap.size + 1 + 1 + 1))
  have HRI := Lib.hid hr
  clear hC hs hr
  refine (callsIn_wide (n := 5)).1 ?_
  refine callsIn_of_wp_marks Try.func23 rfl trivial ?_ rfl
  simp only [Try.ntmps23, List.size_toArray, List.length_cons, List.length_nil, Nat.reduceAdd, Nat.reduceSub, Array.replicate_succ, Array.replicate_zero, List.push_toArray, List.append_toArray, List.nil_append, List.cons_append]
  have hfm : Fence.wide.fn 32 := trivial
  have hmm := @run_makeMap Try.prog
  gi_wp2_with (gi_at_call 32; refine (callsIn_wide.2 (HMK.out _)).mono ?_; rintro e w3 ⟨rfl, rfl⟩)
  clear hmm
  obtain ⟨W0, hW0⟩ : ∃ z, z = (((w.alloc (.map #[] 0)).alloc (.cells #[.map (some w.heap.size)] 51)).alloc (.cells #[.pointer (some ⟨b, 0, none⟩)] 29)).alloc (.cells #[.slice B m cb] 23) := ⟨_, rfl⟩
  have hsz : W0.heap.size = w.heap.size + 1 + 1 + 1 + 1 := by rw [hW0]; simp
  have hJ0 : ∀ r, ShJ w b B m cb L s 0 (fun i => i = w.heap.size) ((W0.alloc (.deferred (some []))).alloc (.loop r)) := fun r => by
    have hb0 : Below (w.alloc (.map #[] 0)).heap.size (w.alloc (.map #[] 0)) ((W0.alloc (.deferred (some []))).alloc (.loop r)) := by
      rw [hW0]
      exact (((((Below.refl _ _).alloc (Nat.le_refl _) _).alloc (by simp) _).alloc (by simp) _).alloc (by simp) _).alloc (by simp) _
    refine ⟨⟨.map [], (Grp.made w).below hb0, ?_⟩, below_then ((Below.refl _ w).alloc (Nat.le_refl _) _) hb0 (by simp), ?_, ?_, ?_, fun i hi => ⟨.inl hi, by rw [hi]; simp; omega⟩, by simp; omega⟩
    · exact SelMap.nil.congr fun t => by simp [sel]
    · have h1 := Blk.new (w.alloc (.map #[] 0)) 51 #[.map (some w.heap.size)]
      rw [World.size_alloc] at h1
      rw [hW0]
      exact (((h1.alloc _).alloc _).alloc _).alloc _
    · have h1 := Blk.new ((w.alloc (.map #[] 0)).alloc (.cells #[.map (some w.heap.size)] 51)) 29 #[.pointer (some ⟨b, 0, none⟩)]
      rw [World.size_alloc, World.size_alloc] at h1
      rw [hW0]
      exact ((h1.alloc _).alloc _).alloc _
    · have h1 := Blk.new (((w.alloc (.map #[] 0)).alloc (.cells #[.map (some w.heap.size)] 51)).alloc (.cells #[.pointer (some ⟨b, 0, none⟩)] 29)) 23 #[.slice B m cb]
      rw [World.size_alloc, World.size_alloc, World.size_alloc] at h1
      rw [hW0]
      exact (h1.alloc _).alloc _
  rw [← hW0]
  have HJ0 := Lib.hid hJ0
  have HSZ := Lib.hid hsz
  clear hJ0 hW0 hsz
  refine range_lawG (F := Fence.wide) (n := 5) rfl (by omega) (gf := 41) rfl trivial (enters_of Try.func41 (by kernel_rfl) rfl) HSEQ.out (fun _ => rfl)
    (ShJ w b B m cb L s) (fun k G W h => ⟨h.rd, fun i hi => (h.foot i hi).2⟩) (fun k G W W' h hb => h.then hb) (fun k G W h => ⟨fun hg => by have := h.foot _ hg; have := HSZ.out; omega, fun hg => by have := h.foot _ hg; have := HSZ.out; omega⟩)
    (fun i => i = w.heap.size) HJ0.out (fun k G W o h => by rw [HSZ.out]; exact h.putObj o)
    (fun k na => { tmps := #[.pointer (some ⟨b, 0, none⟩), .slice B m cb, undef, undef, .map none, .pointer (some ⟨w.heap.size + 1, 0, none⟩), .pointer (some ⟨na, 0, none⟩), .map (some w.heap.size), .pointer (some ⟨b, 0, none⟩), .slice B m cb, .func (.func 41) #[] #[.pointer (some ⟨w.heap.size + 1 + 1, 0, none⟩), .pointer (some ⟨w.heap.size + 1 + 1 + 1, 0, none⟩)], .agg #[.int .i64 ((seqAll L s).getD k (0, 0)).1, .int .i64 ((seqAll L s).getD k (0, 0)).2], undef, undef, undef, undef, undef, undef, undef, undef, undef, undef, undef, undef], defers := [] })
    (fun k W => W.alloc (.cells #[.int .i64 ((seqAll L s).getD k (0, 0)).1, .int .i64 ((seqAll L s).getD k (0, 0)).2] 26)) (fun k W => (Below.refl _ W).alloc (Nat.le_refl _) _) ?assign ?body ?done
  case assign =>
    intro l k W K hK
    unfold encA
    obtain ⟨y1, hy1⟩ : ∃ y, y = ((seqAll L s).getD k (0, 0)).1 := ⟨_, rfl⟩
    obtain ⟨y2, hy2⟩ : ∃ y, y = ((seqAll L s).getD k (0, 0)).2 := ⟨_, rfl⟩
    rw [← hy1, ← hy2] at hK ⊢
    clear hy1 hy2
    gi_wp2
    exact hK
  case done =>
    intro G W hJ hdf
    obtain ⟨D, hg, hS⟩ := hJ.grp
    have c0 := hJ.bm.cell 0
    have c0' : W.cell? ⟨w.heap.size + 1, 0, none⟩ = some (.map (some w.heap.size)) := c0
    rw [List.take_of_length_le (Nat.le_refl _)] at hS
    have HG := Lib.hid hg
    have HS := Lib.hid (hS.congr fun t => (seq_sel HRI.out s t).symm)
    have HB := Lib.hid hJ.below
    have HDF := Lib.hid hdf
    have HGN : Hid (¬ G W0.heap.size) := Lib.hid (fun hg => by have := hJ.foot _ hg; have := HSZ.out; omega)
    have HW : Hid (w.heap.size ≤ W0.heap.size) := Lib.hid (by have := HSZ.out; omega)
    have HFT : Hid (∀ i, G i → i < W.heap.size) := Lib.hid (fun i h => (hJ.foot i h).2)
    have HLN : Hid ((seqAll L s).length ≤ 20000) := Lib.hid (seq_len HRI.out s)
    clear hJ hg hS c0 hdf
    gi_wp2
    refine ⟨by simp, .inl ⟨_, _, rfl, run_takeDeferred HDF.out, ?_⟩⟩
    exact ⟨_, results_tmp rfl _ _ _, _, D, G, rfl, below_putObj HB.out HW.out _, HG.out.putObj HGN.out _, fun i h => by simpa using HFT.out i h, HLN.out, HS.out⟩
  case body =>
    intro l k G V o hJ hk
    obtain ⟨p, hp⟩ : ∃ p, (seqAll L s)[k]? = some p := ⟨_, List.getElem?_eq_getElem hk⟩
    obtain ⟨t, x⟩ := p
    have hgd : (seqAll L s).getD k (0, 0) = (t, x) := by rw [List.getD_eq_getElem?_getD, hp]; rfl
    have hfit := seq_fits HRI.out (List.mem_of_getElem? hp)
    have htk : (seqAll L s).take (k + 1) = (seqAll L s).take k ++ [(t, x)] := by rw [List.take_add_one, hp]; rfl
    have hk2 := seq_len HRI.out s
    simp only [hgd]
    have ht64 : fits64 t := ⟨by have := hfit.1; simp only at this; omega, by have := hfit.2.1; simp only at this; omega⟩
    have hx64 : fits64 x := ⟨by have := hfit.2.2.1; simp only at this; omega, by have := hfit.2.2.2; simp only at this; omega⟩
    rw [HSZ.out]
    obtain ⟨V1, hV1⟩ : ∃ z, z = (V.alloc (.cells #[.int .i64 t, .int .i64 x] 26)).putObj (w.heap.size + 1 + 1 + 1 + 1 + 1) o := ⟨_, rfl⟩
    have hJ1 : ShJ w b B m cb L s k G V1 := by rw [hV1]; exact (hJ.then ((Below.refl _ V).alloc (Nat.le_refl _) _)).putObj o
    have hna : Blk V1 V.heap.size 26 #[.int .i64 t, .int .i64 x] := by
      rw [hV1]
      exact (Blk.new V 26 #[.int .i64 t, .int .i64 x]).putObj (by have := hJ.size; omega) o
    have hV1s : V.heap.size < V1.heap.size := hna.lt
    rw [← hV1]
    obtain ⟨na, hnn⟩ : ∃ z, z = V.heap.size := ⟨_, rfl⟩
    have hGna : ¬ G na := fun hg => by have := (hJ.foot _ hg).2; omega
    have hGbm : ¬ G (w.heap.size + 1) := fun hg => by have := hJ.foot _ hg; omega
    rw [← hnn] at hna hV1s ⊢
    obtain ⟨D, hgr, hSM⟩ := hJ1.grp
    have hmb6 := hJ1.size
    have hnmb : na ≠ w.heap.size := by have := hJ.size; omega
    have HJ1 := Lib.hid hJ1
    have HSM := Lib.hid hSM
    have HTK := Lib.hid htk
    have HX := Lib.hid hx64
    have HT := Lib.hid ht64
    have HNA := Lib.hid hna
    have HGN := Lib.hid (And.intro hGna hGbm)
    have HGR := Lib.hid hgr
    have HNN := Lib.hid hnn
    have HK2 : Hid (k ≤ 20000) := Lib.hid (by omega)
    clear hJ hp hgd hfit htk hV1 hJ1 hgr hSM hx64 ht64 hna hGna hGbm hnn hk2 hk
    gi_wp2
    refine wpIn_region_round (S := fun w' => w'.cell? ⟨w.heap.size + 1, 0, none⟩ = some (.map (some w.heap.size)) ∧ w'.cell? ⟨na, 0, none⟩ = some (.int .i64 t) ∧ w'.cell? ⟨na, 1, none⟩ = some (.int .i64 x)) (by kernel_rfl) ?hd ?hQ ?hS (fun hHeld => ?_)
    case hd => simp
    case hQ => rintro ⟨a, w, h⟩; exact h
    case hS => exact ⟨HJ1.out.bm.cell 0, HNA.out.cell 0, HNA.out.cell 1⟩
    obtain ⟨u0, hu0⟩ : ∃ z, z = V1.drew := ⟨_, rfl⟩
    rw [← hu0]
    rw [← hu0] at hHeld
    have HR0 := Lib.hid (show Grp u0 w.heap.size k D G by rw [hu0]; exact HGR.out.below (Below.refl _ _).drew)
    have HB0 := Lib.hid (show Blk u0 (w.heap.size + 1) 51 #[.map (some w.heap.size)] by rw [hu0]; exact HJ1.out.bm)
    have HN0 := Lib.hid (show Blk u0 na 26 #[.int .i64 t, .int .i64 x] by rw [hu0]; exact HNA.out)
    have HK0 := Lib.hid (show Kept G V1 u0 by rw [hu0]; exact (Kept.refl _ _).drew)
    have HS0 := Lib.hid (show V1.heap.size ≤ u0.heap.size by rw [hu0]; exact Nat.le_refl _)
    clear hu0
    refine wpAnyH_take (i := 0) (oi := ?oit10) (v := ?vt10) ?hit10 (by kernel_rfl) (by kernel_rfl) (by kernel_rfl) ?hQt10 (Or.inl ⟨?hwt10, ?hyt10⟩) (by assumption) ?restt10
    case hit10 => (first | (simp only [List.getElem?_toArray, List.getElem?_cons_zero, List.getElem?_cons_succ]; rfl) | rfl)
    case hQt10 => exact fun _ _ _ h => h
    case hwt10 => rfl
    case hyt10 => ((intro w hSw; go_simp); first | done | with_reducible rfl)
    try simp only [Act.put, List.setIfInBounds_toArray, List.set_cons_zero, List.set_cons_succ]
    refine wpAnyH_take (i := 1) (oi := ?oit21) (v := ?vt21) ?hit21 (by kernel_rfl) (by kernel_rfl) (by kernel_rfl) ?hQt21 (Or.inl ⟨?hwt21, ?hyt21⟩) (by assumption) ?restt21
    case hit21 => (first | (simp only [List.getElem?_toArray, List.getElem?_cons_zero, List.getElem?_cons_succ]; rfl) | rfl)
    case hQt21 => exact fun _ _ _ h => h
    case hwt21 => rfl
    case hyt21 => ((intro w hSw; go_simp); first | done | with_reducible rfl)
    try simp only [Act.put, List.setIfInBounds_toArray, List.set_cons_zero, List.set_cons_succ]
    refine wpAnyH_take (i := 3) (oi := ?oit33) (v := ?vt33) ?hit33 (by kernel_rfl) (by kernel_rfl) (by kernel_rfl) ?hQt33 (Or.inl ⟨?hwt33, ?hyt33⟩) (by assumption) ?restt33
    case hit33 => (first | (simp only [List.getElem?_toArray, List.getElem?_cons_zero, List.getElem?_cons_succ]; rfl) | rfl)
    case hQt33 => exact fun _ _ _ h => h
    case hwt33 => rfl
    case hyt33 => ((intro w hSw; go_simp); first | done | with_reducible rfl)
    try simp only [Act.put, List.setIfInBounds_toArray, List.set_cons_zero, List.set_cons_succ]
    refine wpAnyH_take (i := 4) (oi := ?oit44) (v := ?vt44) ?hit44 (by kernel_rfl) (by kernel_rfl) (by kernel_rfl) ?hQt44 (Or.inl ⟨?hwt44, ?hyt44⟩) (by assumption) ?restt44
    case hit44 => (first | (simp only [List.getElem?_toArray, List.getElem?_cons_zero, List.getElem?_cons_succ]; rfl) | rfl)
    case hQt44 => exact fun _ _ _ h => h
    case hwt44 => rfl
    case hyt44 => ((intro w hSw; go_simp); first | done | with_reducible rfl)
    try simp only [Act.put, List.setIfInBounds_toArray, List.set_cons_zero, List.set_cons_succ]
    refine wpAnyH_take (i := 7) (oi := ?oit57) (v := ?vt57) ?hit57 (by kernel_rfl) (by kernel_rfl) (by kernel_rfl) ?hQt57 (Or.inl ⟨?hwt57, ?hyt57⟩) (by assumption) ?restt57
    case hit57 => (first | (simp only [List.getElem?_toArray, List.getElem?_cons_zero, List.getElem?_cons_succ]; rfl) | rfl)
    case hQt57 => exact fun _ _ _ h => h
    case hwt57 => rfl
    case hyt57 => ((intro w hSw; go_simp); first | done | with_reducible rfl)
    try simp only [Act.put, List.setIfInBounds_toArray, List.set_cons_zero, List.set_cons_succ]
    refine wpAnyH_take (i := 2) (oi := ?oit62) (v := ?vt62) ?hit62 (by kernel_rfl) (by kernel_rfl) (by kernel_rfl) ?hQt62 (Or.inl ⟨?hwt62, ?hyt62⟩) (by assumption) ?restt62
    case hit62 => (first | (simp only [List.getElem?_toArray, List.getElem?_cons_zero, List.getElem?_cons_succ]; rfl) | rfl)
    case hQt62 => exact fun _ _ _ h => h
    case hwt62 => rfl
    case hyt62 => ((intro w hSw; go_simp); first | done | with_reducible rfl)
    try simp only [Act.put, List.setIfInBounds_toArray, List.set_cons_zero, List.set_cons_succ]
    refine wpAnyH_take (i := 5) (oi := ?oit75) (v := ?vt75) ?hit75 (by kernel_rfl) (by kernel_rfl) (by kernel_rfl) ?hQt75 (Or.inl ⟨?hwt75, ?hyt75⟩) (by assumption) ?restt75
    case hit75 => (first | (simp only [List.getElem?_toArray, List.getElem?_cons_zero, List.getElem?_cons_succ]; rfl) | rfl)
    case hQt75 => exact fun _ _ _ h => h
    case hwt75 => rfl
    case hyt75 => ((intro w hSw; go_simp); first | done | with_reducible rfl)
    try simp only [Act.put, List.setIfInBounds_toArray, List.set_cons_zero, List.set_cons_succ]
    refine wpAnyH_take (i := 8) (oi := ?oit88) (v := ?vt88) ?hit88 (by kernel_rfl) (by kernel_rfl) (by kernel_rfl) ?hQt88 (Or.inl ⟨?hwt88, ?hyt88⟩) (by assumption) ?restt88
    case hit88 => (first | (simp only [List.getElem?_toArray, List.getElem?_cons_zero, List.getElem?_cons_succ]; rfl) | rfl)
    case hQt88 => exact fun _ _ _ h => h
    case hwt88 => rfl
    case hyt88 => ((intro w hSw; go_simp); first | done | with_reducible rfl)
    try simp only [Act.put, List.setIfInBounds_toArray, List.set_cons_zero, List.set_cons_succ]
    refine wpAnyH_ready (rs := [6, 9]) (by kernel_rfl) (by simp) ?_
    refine AllReadyH.cons (o := ?ot9) ?ht9 ?st9 (AllReadyH.cons (o := ?ot10) ?ht10 ?st10 AllReadyH.nil)
    case ht9 => (simp only [List.getElem?_toArray, List.getElem?_cons_zero, List.getElem?_cons_succ]; rfl)
    case ht10 => (simp only [List.getElem?_toArray, List.getElem?_cons_zero, List.getElem?_cons_succ]; rfl)
    case st9 =>
      intro K hK
      obtain ⟨vq1, zsq2, hrunq3, hatq4, hoiq5, hzlq6, hvGq7, hstq8⟩ := HR0.out.step (by have := HK2.out; unfold maxLen; omega) HT.out
      rw [HSM.out.at_] at hatq4
      have hzsq9 := Lib.hid (rowD_inv hoiq5 hatq4)
      have Ohoiq5 := Lib.hid hoiq5
      have OhvGq7 := Lib.hid hvGq7
      have Ohstq8 := Lib.hid hstq8
      have Ohzlq6 := Lib.hid hzlq6
      clear hatq4 hoiq5 hvGq7 hstq8 hzlq6
      go_simp
      clear hrunq3
      refine hK.out _ _ ⟨HB0.out.cell 0, HN0.out.cell 0, HN0.out.cell 1⟩ (fun ht11 => ?_)
      clear hK K
      try simp only [Act.put, List.setIfInBounds_toArray, List.set_cons_zero, List.set_cons_succ]
      refine wpAnyH_ready (rs := [9]) (by kernel_rfl) (by simp) ?_
      refine AllReadyH.cons (o := ?ot12) ?ht12 ?st12 AllReadyH.nil
      case ht12 => (simp only [List.getElem?_toArray, List.getElem?_cons_zero, List.getElem?_cons_succ]; rfl)
      case st12 =>
        intro K hK
        go_simp
        obtain ⟨uq10, huq11⟩ : ∃ z, z = u0.alloc (.cells #[.int .i64 x] 3) := ⟨_, rfl⟩
        have Cq14 : Hid (Blk uq10 u0.heap.size 3 #[.int .i64 x]) := Lib.hid (by rw [huq11]; exact Blk.new _ _ _)
        rw [← huq11]
        have hbq12 : Below u0.heap.size u0 uq10 := by rw [huq11]; exact (Below.refl _ u0).alloc (Nat.le_refl _) _
        have Rq13 := Lib.hid (HR0.out.below hbq12)
        have Bq15 := Lib.hid (HB0.out.below hbq12 HB0.out.lt)
        have Nq16 := Lib.hid (HN0.out.below hbq12 HN0.out.lt)
        have Kq17 := Lib.hid (show Kept G V1 uq10 by rw [huq11]; exact HK0.out.alloc _)
        have Sq18 := Lib.hid (Nat.le_trans HS0.out hbq12.size)
        have Oq19 := Lib.hid (Ohoiq5.out.kept ⟨hbq12.os, hbq12.tape, hbq12.output, hbq12.size, fun k hk _ => hbq12.block k hk⟩ (row := none) (by cases (vq1).ownBlock <;> simp))
        have GOq19 := Lib.hid (show u0.grownBy uq10 (vq1).ownBlock from ⟨hbq12.os, hbq12.tape, hbq12.output, hbq12.size, fun k hk _ => hbq12.block k hk⟩)
        clear huq11 hbq12
        refine hK.out _ _ ⟨Bq15.out.cell 0, Nq16.out.cell 0, Nq16.out.cell 1⟩ (fun ht13 => ?_)
        clear hK K
        try simp only [Act.put, List.setIfInBounds_toArray, List.set_cons_zero, List.set_cons_succ]
        refine wpAnyH_ready (rs := [10]) (by kernel_rfl) (by simp) ?_
        refine AllReadyH.cons (o := ?ot14) ?ht14 ?st14 AllReadyH.nil
        case ht14 => (simp only [List.getElem?_toArray, List.getElem?_cons_zero, List.getElem?_cons_succ]; rfl)
        case st14 =>
          intro K hK
          refine step_append_src _ rfl (.tmp 18) (.tmp 21) 24 rfl (w.heap.size + 1) 3 i0 (.int .i64 0) 8 Try.underlying24 hi hz0 hz1 hz2 rfl vq1 zsq2.length (zsq2.map (Value.int .i64)) rfl Oq19.out.1 (some ⟨u0.heap.size, 0, none⟩) 1 1 [.int .i64 x] rfl ⟨rfl, fun ad e j u hu => by cases e; rw [addr_at0, Cq14.out.cell]; simpa using hu, fun e => by cases e⟩ (by simp [Value.oneCell']) (by have := HK2.out; have := Ohzlq6.out; unfold maxLen; omega) (by have := HK2.out; have := Ohzlq6.out; omega) (by have := Sq18.out; omega) ?_
          intro vq21 uq20 hwq22 hgq23 hlq24
          obtain ⟨uq25, hrq26, hGq27, hgq28⟩ := Ohstq8.out uq20 vq21 x HX.out (GOq19.out.trans hgq23) hwq22 (hlq24.imp id fun h => ⟨_, h, (show (u0).heap.size ≤ (uq10).heap.size by have := GOq19.out.size; omega)⟩)
          have Bq29 := Lib.hid (Bq15.out.grown hgq23 (fun e => HGN.out.2 (OhvGq7.out _ e.symm)))
          have Nq30 := Lib.hid (Nq16.out.grown hgq23 (fun e => HGN.out.1 (OhvGq7.out _ e.symm)))
          have Kq31 := Lib.hid ((Kq17.out.grown hgq23 (fun g e => .inl (OhvGq7.out g e))).grown hgq28 (fun g e => by cases e; exact .inl HGR.out.inG))
          have Gq32 := Lib.hid hGq27
          have Bq29x := Lib.hid (Bq29.out.grown hgq28 (by simp))
          have Nq30x := Lib.hid (Nq30.out.grown hgq28 (fun e => hnmb (Option.some.inj e)))
          have hrq26x := Lib.hid hrq26
          clear hwq22 hgq23 hlq24 hGq27 hgq28 hrq26
          refine hK.out _ _ ⟨Bq29.out.cell 0, Nq30.out.cell 0, Nq30.out.cell 1⟩ (fun ht15 => ?_)
          clear hK K
          try simp only [Act.put, List.setIfInBounds_toArray, List.set_cons_zero, List.set_cons_succ]
          refine wpAnyH_ready (rs := [11]) (by kernel_rfl) (by simp) ?_
          refine AllReadyH.cons (o := ?ot16) ?ht16 ?st16 AllReadyH.nil
          case ht16 => (simp only [List.getElem?_toArray, List.getElem?_cons_zero, List.getElem?_cons_succ]; rfl)
          case st16 =>
            intro K hK
            have yq33 := hrq26x.out
            go_simp
            clear yq33
            refine hK.out _ _ ⟨Bq29x.out.cell 0, Nq30x.out.cell 0, Nq30x.out.cell 1⟩ (fun ht17 => ?_)
            clear hK K
            try simp only [Act.put, List.setIfInBounds_toArray, List.set_cons_zero, List.set_cons_succ]
            refine wpAnyH_done (by kernel_rfl) ?_ _
            gi_wp2
            have hSL := HS0.out
            have hS := HSM.out.put t x (g := sel ((seqAll L s).take (k + 1))) (fun u => by rw [HTK.out, sel_snoc])
            rw [← hzsq9.out] at hS
            exact ⟨fun i => G i ∨ ((u0).heap.size ≤ i ∧ i < (uq25).heap.size), HJ1.out.next Kq31.out Gq32.out hS (fun i hi => hi.imp id fun h => ⟨by omega, h.2⟩), Kq31.out, fun i hi => hi.imp id fun h => by omega⟩
    case st10 =>
      intro K hK
      go_simp
      obtain ⟨uq34, huq35⟩ : ∃ z, z = u0.alloc (.cells #[.int .i64 x] 3) := ⟨_, rfl⟩
      have Cq38 : Hid (Blk uq34 u0.heap.size 3 #[.int .i64 x]) := Lib.hid (by rw [huq35]; exact Blk.new _ _ _)
      rw [← huq35]
      have hbq36 : Below u0.heap.size u0 uq34 := by rw [huq35]; exact (Below.refl _ u0).alloc (Nat.le_refl _) _
      have Rq37 := Lib.hid (HR0.out.below hbq36)
      have Bq39 := Lib.hid (HB0.out.below hbq36 HB0.out.lt)
      have Nq40 := Lib.hid (HN0.out.below hbq36 HN0.out.lt)
      have Kq41 := Lib.hid (show Kept G V1 uq34 by rw [huq35]; exact HK0.out.alloc _)
      have Sq42 := Lib.hid (Nat.le_trans HS0.out hbq36.size)
      clear huq35 hbq36
      refine hK.out _ _ ⟨Bq39.out.cell 0, Nq40.out.cell 0, Nq40.out.cell 1⟩ (fun ht18 => ?_)
      clear hK K
      try simp only [Act.put, List.setIfInBounds_toArray, List.set_cons_zero, List.set_cons_succ]
      refine wpAnyH_ready (rs := [6]) (by kernel_rfl) (by simp) ?_
      refine AllReadyH.cons (o := ?ot19) ?ht19 ?st19 AllReadyH.nil
      case ht19 => (simp only [List.getElem?_toArray, List.getElem?_cons_zero, List.getElem?_cons_succ]; rfl)
      case st19 =>
        intro K hK
        obtain ⟨vq44, zsq45, hrunq46, hatq47, hoiq48, hzlq49, hvGq50, hstq51⟩ := Rq37.out.step (by have := HK2.out; unfold maxLen; omega) HT.out
        rw [HSM.out.at_] at hatq47
        have hzsq52 := Lib.hid (rowD_inv hoiq48 hatq47)
        have Ohoiq48 := Lib.hid hoiq48
        have OhvGq50 := Lib.hid hvGq50
        have Ohstq51 := Lib.hid hstq51
        have Ohzlq49 := Lib.hid hzlq49
        clear hatq47 hoiq48 hvGq50 hstq51 hzlq49
        go_simp
        clear hrunq46
        refine hK.out _ _ ⟨Bq39.out.cell 0, Nq40.out.cell 0, Nq40.out.cell 1⟩ (fun ht20 => ?_)
        clear hK K
        try simp only [Act.put, List.setIfInBounds_toArray, List.set_cons_zero, List.set_cons_succ]
        refine wpAnyH_ready (rs := [10]) (by kernel_rfl) (by simp) ?_
        refine AllReadyH.cons (o := ?ot21) ?ht21 ?st21 AllReadyH.nil
        case ht21 => (simp only [List.getElem?_toArray, List.getElem?_cons_zero, List.getElem?_cons_succ]; rfl)
        case st21 =>
          intro K hK
          refine step_append_src _ rfl (.tmp 18) (.tmp 21) 24 rfl (w.heap.size + 1) 3 i0 (.int .i64 0) 8 Try.underlying24 hi hz0 hz1 hz2 rfl vq44 zsq45.length (zsq45.map (Value.int .i64)) rfl Ohoiq48.out.1 (some ⟨u0.heap.size, 0, none⟩) 1 1 [.int .i64 x] rfl ⟨rfl, fun ad e j u hu => by cases e; rw [addr_at0, Cq38.out.cell]; simpa using hu, fun e => by cases e⟩ (by simp [Value.oneCell']) (by have := HK2.out; have := Ohzlq49.out; unfold maxLen; omega) (by have := HK2.out; have := Ohzlq49.out; omega) (by have := Sq42.out; omega) ?_
          intro vq54 uq53 hwq55 hgq56 hlq57
          obtain ⟨uq58, hrq59, hGq60, hgq61⟩ := Ohstq51.out uq53 vq54 x HX.out hgq56 hwq55 (hlq57.imp id fun h => ⟨_, h, (show (uq34).heap.size ≤ (uq34).heap.size by omega)⟩)
          have Bq62 := Lib.hid (Bq39.out.grown hgq56 (fun e => HGN.out.2 (OhvGq50.out _ e.symm)))
          have Nq63 := Lib.hid (Nq40.out.grown hgq56 (fun e => HGN.out.1 (OhvGq50.out _ e.symm)))
          have Kq64 := Lib.hid ((Kq41.out.grown hgq56 (fun g e => .inl (OhvGq50.out g e))).grown hgq61 (fun g e => by cases e; exact .inl HGR.out.inG))
          have Gq65 := Lib.hid hGq60
          have Bq62x := Lib.hid (Bq62.out.grown hgq61 (by simp))
          have Nq63x := Lib.hid (Nq63.out.grown hgq61 (fun e => hnmb (Option.some.inj e)))
          have hrq59x := Lib.hid hrq59
          clear hwq55 hgq56 hlq57 hGq60 hgq61 hrq59
          refine hK.out _ _ ⟨Bq62.out.cell 0, Nq63.out.cell 0, Nq63.out.cell 1⟩ (fun ht22 => ?_)
          clear hK K
          try simp only [Act.put, List.setIfInBounds_toArray, List.set_cons_zero, List.set_cons_succ]
          refine wpAnyH_ready (rs := [11]) (by kernel_rfl) (by simp) ?_
          refine AllReadyH.cons (o := ?ot23) ?ht23 ?st23 AllReadyH.nil
          case ht23 => (simp only [List.getElem?_toArray, List.getElem?_cons_zero, List.getElem?_cons_succ]; rfl)
          case st23 =>
            intro K hK
            have yq66 := hrq59x.out
            go_simp
            clear yq66
            refine hK.out _ _ ⟨Bq62x.out.cell 0, Nq63x.out.cell 0, Nq63x.out.cell 1⟩ (fun ht24 => ?_)
            clear hK K
            try simp only [Act.put, List.setIfInBounds_toArray, List.set_cons_zero, List.set_cons_succ]
            refine wpAnyH_done (by kernel_rfl) ?_ _
            gi_wp2
            have hSL := Sq42.out
            have hS := HSM.out.put t x (g := sel ((seqAll L s).take (k + 1))) (fun u => by rw [HTK.out, sel_snoc])
            rw [← hzsq52.out] at hS
            exact ⟨fun i => G i ∨ ((uq34).heap.size ≤ i ∧ i < (uq58).heap.size), HJ1.out.next Kq64.out Gq65.out hS (fun i hi => hi.imp id fun h => ⟨by omega, h.2⟩), Kq64.out, fun i hi => hi.imp id fun h => by omega⟩
end Go.Proofs.Ytjnbilcanfhkjaa
