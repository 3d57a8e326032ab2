/- Files: all of the directory's files, as a list of the call's own. -/
import Derived.Test.YtblpppeppgfbpaaDoes
namespace Go.Proofs.Ytblpppeppgfbpaa
open Go.RowKit Go.Maps Go.WideMaps

def filesOf (s : St) : List (Nm × Nm) := s.now.map fun p => (p.1, s.dat p.2)
/-- The cells of a row of files. -/
def fileCells : List (Nm × Nm) → List Value → List Value
  | x :: l, v :: r => encStr x.1 :: v :: fileCells l r
  | _, _ => []
theorem fileCells_snoc (x : Nm × Nm) (v : Value) : ∀ (l : List (Nm × Nm)) (r : List Value), l.length = r.length → fileCells (l ++ [x]) (r ++ [v]) = fileCells l r ++ [encStr x.1, v]
  | [], [], _ => rfl
  | y :: l, u :: r, h => by
    simp only [List.cons_append, fileCells]
    rw [fileCells_snoc x v l r (by simpa using h)]
theorem fileCells_at : ∀ (l : List (Nm × Nm)) (r : List Value) (i : Nat) (x : Nm × Nm) (v : Value), l[i]? = some x → r[i]? = some v → (fileCells l r)[i * 2]? = some (encStr x.1) ∧ (fileCells l r)[i * 2 + 1]? = some v
  | y :: l, u :: r, 0, x, v, h, h' => by
    simp at h h'
    subst h h'
    exact ⟨rfl, rfl⟩
  | y :: l, u :: r, i + 1, x, v, h, h' => by
    have := fileCells_at l r i x v (by simpa using h) (by simpa using h')
    simpa [fileCells, Nat.add_mul] using this
/-- A row of files of the call's own, with the bytes of each. -/
def FilesRow (w : World) (base : Nat) (v : Value) (l : List (Nm × Nm)) : Prop :=
  ∃ svs : List Value, svs.length = l.length ∧ w.ownsRow base 60 2 v l.length (fileCells l svs) ∧ ∀ (i : Nat) (sv : Value) (x : Nm × Nm), svs[i]? = some sv → l[i]? = some x → w.ownsRow base 5 1 sv x.2.length (x.2.map byteV)
theorem FilesRow.frame {w w' : World} {base : Nat} {v : Value} {l : List (Nm × Nm)} (h : FilesRow w base v l) (hb : ∀ g, base ≤ g → g < w.heap.size → w'.heap[g]? = w.heap[g]?) : FilesRow w' base v l := by
  obtain ⟨svs, h1, h2, h3⟩ := h
  exact ⟨svs, h1, ownsRow_block h2 fun g hg => hb g (h2.lt g hg).1 (h2.lt g hg).2, fun i sv x e1 e2 => by
    have h4 := h3 i sv x e1 e2
    exact ownsRow_block h4 fun g hg => hb g (h4.lt g hg).1 (h4.lt g hg).2⟩
theorem FilesRow.kept {F : Nat → Prop} {w w' : World} {base : Nat} {v : Value} {l : List (Nm × Nm)} (h : FilesRow w base v l) (hk : Kept F w w') (hF : ∀ i, F i → i < base) : FilesRow w' base v l :=
  h.frame fun g hb hl => hk.block g hl (fun hf => by have := hF g hf; omega)
theorem FilesRow.below {w w' : World} {base : Nat} {v : Value} {l : List (Nm × Nm)} (h : FilesRow w base v l) (hk : Below w.heap.size w w') : FilesRow w' base v l :=
  h.frame fun g _ hl => hk.block g hl

theorem FilesRow.snoc {w : World} {base : Nat} {v : Value} {l : List (Nm × Nm)} {svs : List Value} (h1 : svs.length = l.length) (h3 : ∀ (i : Nat) (sv : Value) (x : Nm × Nm), svs[i]? = some sv → l[i]? = some x → w.ownsRow base 5 1 sv x.2.length (x.2.map byteV)) {x : Nm × Nm} {sv : Value}
    (h2 : w.ownsRow base 60 2 v (l.length + 1) (fileCells l svs ++ [encStr x.1, sv])) (h4 : w.ownsRow base 5 1 sv x.2.length (x.2.map byteV)) : FilesRow w base v (l ++ [x]) := by
  refine ⟨svs ++ [sv], by simp [h1], by rw [fileCells_snoc x sv l svs h1.symm]; simpa using h2, fun i sv' x' e1 e2 => ?_⟩
  rcases Nat.lt_or_ge i l.length with hl | hl
  · rw [List.getElem?_append_left (by omega)] at e1 e2
    exact h3 i sv' x' e1 e2
  · have hlt := (List.getElem?_eq_some_iff.1 e2).1
    simp at hlt
    obtain rfl : i = l.length := by omega
    rw [List.getElem?_append_right (by omega)] at e1 e2
    simp [h1] at e1 e2
    subst e1 e2
    exact h4
theorem own_mono {w : World} {base base' : Nat} {e : TypeId} {size n : Nat} {v : Value} {xs : List Value} (h : w.ownsRow base e size v n xs) (hb : base' ≤ base) : w.ownsRow base' e size v n xs := by
  refine ⟨h.1, ?_⟩
  rcases h.2 with h1 | ⟨g, cap, cur, e, h1, h2⟩
  · exact .inl h1
  · exact .inr ⟨g, cap, cur, e, Nat.le_trans hb h1, h2⟩
theorem fileInfo : (Try.prog.info? 60).map (fun i => (i.zero, i.size, i.bytes)) = some (some (.agg #[.string ⟨#[]⟩, .slice none 0 0]), 2, 40) := by kernel_rfl

set_option maxHeartbeats 4000000 in
set_option maxRecDepth 100000 in
theorem Files_any {w : World} {F : Nat → Prop} {b : Nat} {s : St} (hD : Disk w F b s) :
    Calls Try.prog 21 #[at0 b] w fun e w' => ∃ v, e = .returned v ∧ FilesRow w' w.heap.size v (filesOf s) ∧ Below w.heap.size w w' := by
  obtain ⟨bn, bo, cv, cls, fv, hd⟩ := hD
  obtain ⟨i0, hi, hz0, hz1, hz2⟩ := info_parts fileInfo
  have hlen := hd.now.len (t := 67) Try.underlying67 3
  rw [toD_size] at hlen
  have h64 := hd.wf.nnow
  have hmk := fun W => run_make (P := Try.prog) W 22 60 i0 _ Try.underlying22 hi hz0 .i64 .i64 0 s.now.length (by omega) (by omega) (by rw [hz2]; omega) (by omega)
  have c1 := hd.blk.cell 1
  simp at c1
  have c2 : ∀ o, (w.alloc o).cell? ⟨b, 1, none⟩ = some (.map (some bn)) := fun o => by
    have := (hd.blk.alloc o).cell 1
    simpa using this
  have hnames := fun o => names_any (hd.now.alloc o) (by omega)
  have hpw := Lib.hid (pairs_ne (dir_sorted hd.now))
  have hnl := Lib.hid (dir_names_len hd.now)
  have HN := Lib.hid hnames
  have HI := Lib.hid hd
  clear hd hnames
  unfold at0
  go_enter Try.func21, Try.ntmps21
  go_wp2_with (go_at_call 49; refine (HN.out _).mono ?_; rintro e w2 ⟨v, rfl, hrow, hbl2⟩; obtain ⟨An, cpn, hvn⟩ := own_slice hrow; rw [hvn]; rw [hvn] at hrow; have HROW := Lib.hid hrow; clear hrow hvn)
  have hb1 : Below w.heap.size w (w.alloc (.cells (madeCells (Value.agg #[.string ⟨#[]⟩, .slice none 0 0]).cells ((s.now.length : Int).toNat * i0.size)) 60)) := (Below.refl _ w).alloc (Nat.le_refl _) _
  have hs1 : (w.alloc (.cells (madeCells (Value.agg #[.string ⟨#[]⟩, .slice none 0 0]).cells ((s.now.length : Int).toNat * i0.size)) 60)).heap.size = w.heap.size + 1 := by simp
  have hown1 := World.ownsRow_made (base := w.heap.size) (e := 60) (size := 2) w (madeCells (Value.agg #[.string ⟨#[]⟩, .slice none 0 0]).cells ((s.now.length : Int).toNat * i0.size)) s.now.length (Nat.le_refl _) (by unfold maxLen; omega) (by rw [size_madeCells, hz1]; simp)
  simp only [Value.cells, Int.toNat_natCast, hz1] at hb1 hs1 hown1
  generalize hW1 : w.alloc (.cells (madeCells #[Value.string ⟨#[]⟩, .slice none 0 0] (s.now.length * 2)) 60) = W1 at *
  have hown2 := ownsRow_block hown1 (w' := w2) fun g hg => hbl2.block g (hown1.lt g hg).2
  have hbel2 : Below w.heap.size w w2 := hb1.trans (hbl2.mono (by omega))
  have hsz2 := hbel2.size
  have hlen3 : w.heap.size + 1 ≤ w2.heap.size := by have := hbl2.size; omega
  have HS1 := Lib.hid hs1
  have HBL := Lib.hid hbl2
  clear hmk hW1 c1 c2 hs1 hb1 hown1 hbl2
  go_loopw [3, 18] (fun v i wr => ∃ k : Nat, k ≤ s.now.length ∧ i = .int .i64 k ∧ FilesRow wr w.heap.size v ((filesOf s).take k) ∧ Below w.heap.size w wr ∧ wr.ownsRow (w.heap.size + 1) 9 1 (.slice An s.now.length cpn) s.now.length (s.now.map fun p => encStr p.1))
    (fun _ i _ => s.now.length - (intOf i).toNat)
  case atStart => exact ⟨0, Nat.zero_le _, rfl, ⟨[], rfl, hown2, by simp⟩, hbel2, by have h := HROW.out; rw [HS1.out] at h; exact h⟩
  case round =>
    obtain ⟨k, hk, rfl, hrow, hbr, hnr⟩ := hrel
    have HNR := Lib.hid hnr
    have HFR := Lib.hid hrow
    have hsr := hbr.size
    clear hnr hrow
    by_cases hlt : k < s.now.length
    · have hp : s.now[k]? = some s.now[k] := List.getElem?_eq_getElem hlt
      have hmem : s.now[k] ∈ s.now := List.getElem_mem hlt
      have hd := HI.out
      have hi' : s.now[k].2 ∈ s.ids := hd.wf.now_id _ hmem
      have hdr : ∀ i, F i → wr.heap[i]? = w.heap[i]? := fun i hi => hbr.block i (hd.lt i hi)
      have hd' := hd.frame hdr hsr
      have hlk : (Instr.lookup 67 (.map (some bn)) (.string ⟨s.now[k].1.toArray⟩) false).run Try.prog wr = .ok (.pointer (some ⟨s.now[k].2, 0, none⟩)) wr := by
        have h := look_at (w := wr) (bn := bn) (d := s.now) hd'.now (nm := ⟨s.now[k].1.toArray⟩) (by have := hnl.out _ hmem; simpa [ByteArray.size] using this)
        have h2 := dget_of_mem hpw.out _ hmem
        simp only [h2, ptrOf, at0] at h
        exact h
      have f1 := hd'.blk.cell 1
      simp at f1
      have hf := hd'.files _ hi'
      have f0 := hf.1.cell 0
      simp at f0
      have hfit := (hd'.wf.fit _ hi').2
      have hc := cloneFile_any hf hfit
      rcases HNR.out.2 with ⟨_, h0⟩ | ⟨gn, capn, cur, hvn, hgn, hgh, _⟩
      · omega
      have hAn : An = some ⟨gn, 0, none⟩ := by injection hvn
      have hnc : wr.cell? ⟨gn, k, none⟩ = some (.string ⟨s.now[k].1.toArray⟩) := by
        have h1 := HNR.out.cells (g := gn) (by rw [hAn]; rfl) k (.string ⟨s.now[k].1.toArray⟩) (by rw [List.getElem?_map, hp]; rfl)
        rw [Addr.add_mid] at h1
        simpa using h1
      have htk : (filesOf s).take (k + 1) = (filesOf s).take k ++ [(s.now[k].1, s.dat s.now[k].2)] := take_snoc' _ k _ (by simp [filesOf, hp])
      have hlk2 : ((filesOf s).take k).length = k := by simp [filesOf]; omega
      have HC := Lib.hid hc
      have HP := Lib.hid hp
      have HAN := Lib.hid hAn
      have HTK := Lib.hid htk
      have HL2 := Lib.hid hlk2
      have HK := Lib.hid hk
      clear hd hd' hdr hc hf hp hAn htk hlk2 hvn hgh hmem hk
      rw [HAN.out]
      generalize hq : s.now[k] = q at *
      have HQ := Lib.hid hq
      clear hq
      obtain ⟨svs, g1, g2, g3⟩ := HFR.out
      have G1 := Lib.hid g1
      have G2 := Lib.hid g2
      have G3 := Lib.hid g3
      clear g1 g2 g3
      go_wp2_with (first
        | (go_at_call 30; refine (Hid.out HC).mono ?_; rintro e w3 ⟨v', rfl, hrow3, hb3⟩; obtain ⟨A3, cp3, hv3⟩ := own_slice hrow3; have HB3 := Lib.hid hb3; have HR3 := Lib.hid hrow3; have hs3 := hb3.size; have G2' := Lib.hid (fun o : Obj => ownsRow_block G2.out (w' := w3.alloc o) (fun g hg => (hb3.alloc hb3.size o).block g (G2.out.lt g hg).2)); rw [HL2.out] at G2'; subst hv3; clear hb3 hrow3)
        | (at_builtin; refine wpList_append_own _ rfl _ _ 22 rfl w.heap.size 60 i0 _ 2 40 Try.underlying22 hi hz0 hz1 hz2 rfl (by decide) _ k _ rfl (G2'.out _) ⟨w3.heap.size, 0, none⟩ 1 1 [encStr q.1, .slice A3 (s.dat q.2).length cp3] rfl rfl (by intro j u hu; rw [Addr.add_mid, cell_of_row _ _ _ _ _ _ (heap_alloc_new w3 _)]; simpa [encStr] using hu) (by intro u hu; simp at hu; rcases hu with rfl | rfl <;> rfl) (by unfold maxLen; omega) (by omega) (by simp; omega) ?_; intro v4 w4 hown4 hgrow4 hnil4; clear hnil4))
      go_roundw
      case rel =>
        have hg4 : (w3.alloc (.cells #[.string ⟨q.1.toArray⟩, .slice A3 (s.dat q.2).length cp3] 60)).grownBy w4 u3.ownBlock := hgrow4
        have hb4 : Below wr.heap.size wr (w3.alloc (.cells #[.string ⟨q.1.toArray⟩, .slice A3 (s.dat q.2).length cp3] 60)) := HB3.out.alloc hs3 _
        have hfr : ∀ g, g < wr.heap.size → u3.ownBlock ≠ some g → w4.heap[g]? = wr.heap[g]? := fun g hg hn => (hg4.block g (Nat.lt_of_lt_of_le hg hb4.size) (fun e => hn e.symm)).trans (hb4.block g hg)
        have g2 := G2.out
        have g1 := G1.out
        have hr4 : w4.ownsRow w.heap.size 5 1 (.slice A3 (s.dat q.2).length cp3) (s.dat q.2).length ((s.dat q.2).map byteV) := by
          refine own_mono (ownsRow_block HR3.out fun g hg => ?_) hsr
          have h1 := HR3.out.lt g hg
          rw [hg4.block g (by simp; omega) (fun e => by have := (g2.lt g e.symm).2; omega)]
          exact Below.heap_alloc w3 _ g h1.2
        refine ⟨k + 1, by omega, by go_num, ?_, (hbr.trans (hb4.mono hsr)).grown hg4 (by simp; omega) (fun j hj => (g2.lt j hj).1), ?_⟩
        · rw [HTK.out]
          refine FilesRow.snoc g1 (fun i sv x e1 e2 => ?_) ?_ hr4
          · have h3 := G3.out i sv x e1 e2
            exact ownsRow_block h3 fun g hg => hfr g (h3.lt g hg).2 (own_row_ne h3 g2 (by decide) g hg)
          · rw [HL2.out]
            exact hown4
        · have h5 := HNR.out
          rw [HAN.out] at h5
          exact ownsRow_block h5 fun g hg => hfr g (h5.lt g hg).2 (own_row_ne h5 g2 (by decide) g hg)
      case measure => simp [intOf]; omega
    · obtain rfl : k = s.now.length := by omega
      go_wp2
      go_ret
      have h := HFR.out
      rw [List.take_of_length_le (by simp [filesOf])] at h
      exact ⟨_, rfl, h, hbr⟩
end Go.Proofs.Ytblpppeppgfbpaa
