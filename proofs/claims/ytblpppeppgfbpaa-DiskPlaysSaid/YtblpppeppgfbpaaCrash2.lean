/- Crash as it is called. -/
import Derived.Test.YtblpppeppgfbpaaCrash
namespace Go.Proofs.Ytblpppeppgfbpaa
open Go.RowKit Go.Maps Go.WideMaps

theorem dir_names_len {w : World} {b : Nat} {d : Dir} (h : dirAt w b d) : ∀ p ∈ d, p.1.length ≤ maxLen := by
  obtain ⟨es, he, hk⟩ := h.keysOf
  have e : es = d.map ent := by injection he with he; exact he.symm
  intro p hp
  obtain ⟨v, hv⟩ := hk (ent p) (by rw [e]; exact List.mem_map_of_mem hp)
  obtain ⟨x, _, hx, hl⟩ := Maps.keyOf_str Try.underlying9 hv
  have : p.1 = x := by simpa [ent] using hx
  rw [this]; exact hl
theorem dget_of_mem : ∀ {d : Dir}, d.Pairwise (fun p q => p.1 ≠ q.1) → ∀ p ∈ d, dget d p.1 = some p.2
  | [], _, p, hp => by simp at hp
  | q :: r, h, p, hp => by
    obtain ⟨h1, h2⟩ := List.pairwise_cons.1 h
    rcases List.mem_cons.1 hp with e | e
    · subst e; simp [dget]
    · have := dget_of_mem h2 p e
      unfold dget at this ⊢
      have hne : (q.1 == p.1) = false := by simpa using h1 p e
      rw [List.find?_cons, hne]
      exact this

/-- The directory's files, cut one by one. -/
def cutN (s : St) (cs : List Int) (d : Dir) : Nat → St
  | 0 => s
  | j + 1 => match d[j]? with
    | some p => (cutN s cs d j).cutFile p.2 (cutOf cs j)
    | none => cutN s cs d j
theorem cutN_now (s : St) (cs : List Int) (d : Dir) : ∀ j, (cutN s cs d j).now = s.now
  | 0 => rfl
  | j + 1 => by
    simp only [cutN]
    cases d[j]? with
    | none => exact cutN_now s cs d j
    | some p => exact cutN_now s cs d j
theorem cutN_ids (s : St) (cs : List Int) (d : Dir) : ∀ j, (cutN s cs d j).ids = s.ids
  | 0 => rfl
  | j + 1 => by
    simp only [cutN]
    cases d[j]? with
    | none => exact cutN_ids s cs d j
    | some p => exact cutN_ids s cs d j
theorem cutN_succ (s : St) (cs : List Int) (d : Dir) (j : Nat) {p : Nm × Nat} (h : d[j]? = some p) : cutN s cs d (j + 1) = (cutN s cs d j).cutFile p.2 (cutOf cs j) := by
  simp only [cutN, h]
def St.replayed (s : St) (acts : Int) : St := { s with now := effAll s.old (s.chs.take (partN acts s.chs.length)), mid := true }
def St.crashed (s : St) (acts : Int) (cs : List Int) : St :=
  { cutN (s.replayed acts) cs (s.replayed acts).now (s.replayed acts).now.length with old := (s.replayed acts).now, chs := [], mid := false, fuse := -1, down := false }

set_option maxHeartbeats 4000000 in
set_option maxRecDepth 100000 in
theorem Crash_any {w : World} {F : Nat → Prop} {b : Nat} {s : St} (hD : Disk w F b s) (hcs : s.chs.length < 1099511627776) (acts : Int) (hacts : acts ≤ 9223372036854775807) (A : Option Addr) (n c : Nat) (cs : List Int) (hsrc : Src w A n (cs.map i64v))
    (hA : ∀ ad, A = some ad → 0 < n → ad.block < w.heap.size ∧ ¬ F ad.block) (hcut : ∀ j, cutOf cs j ≤ 9223372036854775807) :
    Calls Try.prog 27 #[at0 b, .agg #[.int .i64 acts, .slice A n c]] w fun e w' => e = .returned (.tuple #[]) ∧ (∃ F', Disk w' F' b (s.crashed acts cs) ∧ ∀ i, F' i → F i ∨ w.heap.size ≤ i) ∧ Kept F w w' := by
  have hlt : ∀ i, F i → i < w.heap.size := by obtain ⟨bn, bo, cv, cls, fv, hd⟩ := hD; exact hd.lt
  have hFb : F b := by obtain ⟨bn, bo, cv, cls, fv, hd⟩ := hD; exact hd.fb
  have hD0 := hD.alloc (.cells #[.int .i64 acts, .slice A n c] 36)
  have hbx : Blk (w.alloc (.cells #[.int .i64 acts, .slice A n c] 36)) w.heap.size 36 #[.int .i64 acts, .slice A n c] := Blk.new _ _ _
  have x0 := hbx.cell 0
  simp at x0
  have hrep := fun W (h : Disk W F b s) => replay_any (w := W) h (partN acts s.chs.length) (partN_le _ _) hcs
  have HREP := Lib.hid hrep
  have HD0 := Lib.hid hD0
  have HBX := Lib.hid hbx
  clear hrep hbx
  obtain ⟨bn, bo, cv, cls, fv, hd⟩ := hD0
  have c3 := hd.blk.cell 3
  obtain ⟨A3, cp3, hv3⟩ := own_slice hd.row
  rw [hv3] at c3
  simp at c3
  clear hv3 hd
  unfold at0
  go_enter Try.func27, Try.ntmps27
  go_wp2
  go_region_law (first
    | (go_simp; go_at_call 57; refine (part_any _ _ _ (by omega) hacts).mono ?_; rintro e w' ⟨rfl, rfl⟩)
    | (go_simp; go_at_call 56; refine (HREP.out _ (by exact HD0.out.drew)).mono ?_; rintro e w1 ⟨rfl, hD1, hk1⟩))
  all_goals
    have hF1 : ∀ i, Own F (w.alloc (.cells #[.int .i64 acts, .slice A n c] 36)).drew w1 i → (F i ∨ w.heap.size < i) ∧ i < w1.heap.size := fun i hi => by
      rcases hi with h | h
      · have h1 := hlt i h
        have h2 := hk1.size
        simp at h2
        exact ⟨.inl h, by omega⟩
      · have h1 := h.1
        simp at h1
        exact ⟨.inr (by omega), h.2⟩
    have hs1 : w.heap.size + 1 ≤ w1.heap.size := by have := hk1.size; simpa using this
    have hbx1 : Blk w1 w.heap.size 36 #[.int .i64 acts, .slice A n c] := (HBX.out.drew).kept hk1 (fun h => by have := hlt _ h; omega)
    have hsrc1 : Src w1 A n (cs.map i64v) := hsrc.keep fun ad e h0 => by
      have h1 := hA ad e h0
      rw [hk1.block _ (by simp; omega) h1.2]
      exact Below.heap_alloc w _ _ h1.1
    have hkw : Kept F w w1 := ((Kept.refl F w).alloc _).drew.trans hk1 (fun _ _ h => h)
    generalize hG : Own F (w.alloc (.cells #[.int .i64 acts, .slice A n c] 36)).drew w1 = G at hD1 hF1
    have HG := Lib.hid hG
    clear hG hk1 x0 c3
    obtain ⟨S1, hS1⟩ : ∃ S1, S1 = s.replayed acts := ⟨_, rfl⟩
    have hD1' : Disk w1 G b S1 := by rw [hS1]; exact hD1
    have hnoG : ∀ i, i ≤ w.heap.size → ¬ F i → ¬ G i := fun i hi hn h => by
      rcases (hF1 i h).1 with h3 | h3
      · exact hn h3
      · omega
    have HS1 := Lib.hid hS1
    have HD1 := Lib.hid hD1'
    clear hD1 hS1
    obtain ⟨bn1, bo1, cv1, cls1, fv1, hd1⟩ := hD1'
    have hN := names_any hd1.now (by have := hd1.wf.nnow; omega)
    have hlen := hd1.wf.nnow
    have hpw := Lib.hid (pairs_ne (dir_sorted hd1.now))
    have hnl := Lib.hid (dir_names_len hd1.now)
    have hids := Lib.hid hd1.wf.now_id
    have e1 := hd1.blk.cell 1
    simp at e1
    have HN := Lib.hid hN
    clear hd1 hN
    go_wp2_with (go_at_call 49; refine (Hid.out HN).mono ?_; rintro e w2 ⟨v, rfl, hrow, hbl2⟩; obtain ⟨An, cpn, hvn⟩ := own_slice hrow; rw [hvn]; have HROW := Lib.hid (show w2.ownsRow w1.heap.size 9 1 (.slice An S1.now.length cpn) S1.now.length (S1.now.map fun p => encStr p.1) by rw [← hvn]; exact hrow); clear hvn hrow)
    go_loopw [22] (fun i wr => ∃ (j : Nat) (Fr : Nat → Prop), j ≤ S1.now.length ∧ i = .int .i64 j ∧ Disk wr Fr b (cutN S1 cs S1.now j) ∧ (∀ k, Fr k → G k ∨ w2.heap.size ≤ k) ∧ Kept G w2 wr)
      (fun i _ => S1.now.length - (intOf i).toNat)
    case atStart => exact ⟨0, G, Nat.zero_le _, rfl, HD1.out.kept (Kept.below (F := fun _ => False) hbl2) (fun _ _ => id), fun _ h => .inl h, Kept.refl G w2⟩
    case round =>
      obtain ⟨j, Fr, hj, rfl, hDr, hFr, hkr⟩ := hrel
      have HDR := Lib.hid hDr
      have hs2 := hbl2.size
      have hs3 := hkr.size
      by_cases hjl : j < S1.now.length
      · have hp : S1.now[j]? = some S1.now[j] := List.getElem?_eq_getElem hjl
        have hmem : S1.now[j] ∈ S1.now := List.getElem_mem hjl
        obtain ⟨bnr, bor, cvr, clsr, fvr, hdr⟩ := hDr
        have hnow : dirAt wr bnr S1.now := by have h := hdr.now; rw [cutN_now] at h; exact h
        have hi : S1.now[j].2 ∈ (cutN S1 cs S1.now j).ids := by rw [cutN_ids]; exact hids.out _ hmem
        have hlk : (Instr.lookup 67 (.map (some bnr)) (.string ⟨S1.now[j].1.toArray⟩) false).run Try.prog wr.drew = .ok (.pointer (some ⟨S1.now[j].2, 0, none⟩)) wr.drew := by
          have h := look_at (w := wr.drew) (bn := bnr) (d := S1.now) hnow (nm := ⟨S1.now[j].1.toArray⟩) (by have := hnl.out _ hmem; simpa [ByteArray.size] using this)
          have h2 := dget_of_mem hpw.out _ hmem
          simp only [h2, ptrOf, at0] at h
          exact h
        have f1 := hdr.blk.cell 1
        simp at f1
        have hbxr : Blk wr w.heap.size 36 #[.int .i64 acts, .slice A n c] := by
          have h2 : Blk w2 w.heap.size 36 #[.int .i64 acts, .slice A n c] := hbx1.below hbl2 hbx1.lt
          exact h2.kept hkr (hnoG _ (Nat.le_refl _) (fun h => by have := hlt _ h; omega))
        have x1 := hbxr.cell 1
        simp at x1
        have hsrcr : Src wr.drew A n (cs.map i64v) := hsrc1.keep fun ad e h0 => by
          have h1 := hA ad e h0
          show wr.heap[ad.block]? = _
          rw [hkr.block _ (by omega) (hnoG _ (by omega) h1.2)]
          exact hbl2.block _ (by omega)
        rcases HROW.out.2 with ⟨_, h0⟩ | ⟨gn, capn, cur, hvn, hgn, hgh, _⟩
        · omega
        have hAn : An = some ⟨gn, 0, none⟩ := by injection hvn
        have hnc : wr.cell? ⟨gn, j, none⟩ = some (.string ⟨S1.now[j].1.toArray⟩) := by
          have hgl : gn < w2.heap.size := (HROW.out.lt gn (by rw [hAn]; rfl)).2
          have h1 := HROW.out.cells (g := gn) (by rw [hAn]; rfl) j (.string ⟨S1.now[j].1.toArray⟩) (by rw [List.getElem?_map, hp]; rfl)
          have e1 : ((⟨gn, 0, none⟩ : Addr).add j) = ⟨gn, j, none⟩ := by
            unfold Addr.add
            split
            · rename_i h0; subst h0; rfl
            · simp
          rw [e1] at h1
          rw [World.cell?_of_block (w := w2) (hkr.block gn hgl (fun h => by have := (hF1 _ h).2; omega)), h1]
        have hfc := fcrash_any (w := wr.drew) (HDR.out.drew) hi (cutOf cs j) (hcut j)
        have hca := cutAt_any (w := wr.drew) A n c cs hsrcr j (by omega)
        have HFC := Lib.hid hfc
        have HCA := Lib.hid hca
        have HP := Lib.hid hp
        have HAN := Lib.hid hAn
        have hcst := cutN_succ S1 cs S1.now j hp
        have HCS := Lib.hid hcst
        clear hfc hca hdr hnow hbxr hsrcr hvn hgh hp hAn hcst
        rw [HAN.out]
        generalize hq : S1.now[j] = q at *
        have HQ := Lib.hid hq
        clear hq
        unfold at0 at HFC
        go_wp2
        go_region_law (first
          | (go_simp; go_at_call 59; refine (Hid.out HCA).mono ?_; rintro e w' ⟨rfl, rfl⟩)
          | (go_simp; go_at_call 58; refine (Hid.out HFC).mono ?_; rintro e w5 ⟨rfl, hD5, hk5⟩))
        all_goals
          have HD5 := Lib.hid hD5
          clear hD5
          go_wp2
          go_roundw
          case rel =>
            have hk5' : Kept Fr wr w5 := ⟨hk5.os, hk5.tape, hk5.output, hk5.size, hk5.block⟩
            refine ⟨j + 1, _, by omega, by go_num, by rw [HCS.out]; exact HD5.out, ?_, hkr.trans hk5' (fun i hi h => (hFr i h).resolve_right (by omega))⟩
            intro k hk
            rcases hk with h | h
            · exact hFr k h
            · have := h.1
              simp at this
              exact .inr (by omega)
          case measure => simp [intOf]; omega
      · have hje : j = S1.now.length := by omega
        subst hje
        have hset := settle_any hDr
        have HSET := Lib.hid hset
        clear hDr hset
        go_wp2_with (go_at_call 32; refine (Hid.out HSET).mono ?_; rintro e w4 ⟨rfl, hD4, hk4⟩; have HD4 := Lib.hid hD4; obtain ⟨bn4, bo4, cv4, cls4, fv4, hd4⟩ := hD4; have y5 := hd4.blk.cell 5; have y6 := hd4.blk.cell 6; have z5 := hd4.blk.frozen 5; have z6 := hd4.blk.frozen 6; simp at y5 y6; have HI4 := Lib.hid hd4; clear hd4)
        go_end0
        have hd4 := HI4.out
        have h5 := hd4.atB (w' := (w4.setCell ⟨b, 5, none⟩ (.int .i64 (-1))).setCell ⟨b, 6, none⟩ (.bool false)) (f := -1) (d := false) (fun i hi => by rw [heap_setCell_other _ _ _ hi, heap_setCell_other _ _ _ hi]) (by rw [size_setCell', size_setCell']; exact Nat.le_refl _)
          (by simpa using (hd4.blk.set_ 5 (.int .i64 (-1))).set_ 6 (.bool false)) (by omega) (by omega)
        have est : s.crashed acts cs = { cutN S1 cs S1.now S1.now.length with old := (cutN S1 cs S1.now S1.now.length).now, chs := [], mid := false, acts := (cutN S1 cs S1.now S1.now.length).acts, fuse := -1, down := false } := by
          unfold St.crashed
          rw [← HS1.out, cutN_now]
        refine ⟨rfl, ⟨Own Fr wr w4, by rw [est]; exact ⟨bn4, bo4, cv4, cls4, fv4, h5⟩, ?_⟩, ?_⟩
        · intro i hi
          rcases hi with h | h
          · rcases hFr i h with h1 | h1
            · rcases (hF1 i h1).1 with h2 | h2
              · exact .inl h2
              · exact .inr (by omega)
            · exact .inr (by omega)
          · have := h.1
            exact .inr (by omega)
        · have k1 : Kept G w1 wr := (Kept.below hbl2).trans hkr (fun _ _ h => h)
          have k2 : Kept F w wr := hkw.trans k1 (fun i hi h => by
            rcases (hF1 i h).1 with h2 | h2
            · exact h2
            · omega)
          have k3 : Kept F w w4 := k2.trans hk4 (fun i hi h => by
            rcases hFr i h with h1 | h1
            · rcases (hF1 i h1).1 with h2 | h2
              · exact h2
              · omega
            · omega)
          exact (k3.setCell (.inl hFb) _).setCell (.inl hFb) _
end Go.Proofs.Ytblpppeppgfbpaa
