/- The document's disk: Create, Sync. The document's disk: Append. -/
import Derived.Test.YtmhiekbpmoikfaaGreatDoorZp4
namespace Go.Proofs.YtmhiekbpmoikfaaGreatDoor
open Go.RowKit Go.Maps Go.WideMaps

theorem inoCells_app (x : Nm × Nat) (v : Value) : ∀ (l : List (Nm × Nat)) (r : List Value), l.length = r.length → inoCells (l ++ [x]) (r ++ [v]) = inoCells l r ++ [v, .int .i64 x.2]
  | [], [], _ => rfl
  | y :: l, u :: r, h => by
    simp only [List.cons_append, inoCells]
    rw [inoCells_app x v l r (by simpa using h)]
theorem inoCells_syn (n : Nat) (y : Nm) : ∀ (l : List (Nm × Nat)) (r : List Value) (j : Nat) (x : Nm × Nat), l.length = r.length → l[j]? = some x → (inoCells l r).set (j * 2 + 1) (.int .i64 n) = inoCells (l.set j (y, n)) r
  | a :: l, u :: r, 0, x, _, _ => by simp [inoCells]
  | a :: l, u :: r, j + 1, x, h, hx => by
    have := inoCells_syn n y l r j x (by simpa using h) (by simpa using hx)
    rw [show (j + 1) * 2 + 1 = (j * 2 + 1) + 1 + 1 by omega]
    simp only [inoCells, List.set_cons_succ]
    rw [this]
theorem inoCells_dat (v : Value) (y : Nm) : ∀ (l : List (Nm × Nat)) (r : List Value) (j : Nat) (x : Nm × Nat), l.length = r.length → l[j]? = some x → (inoCells l r).set (j * 2) v = inoCells (l.set j (y, x.2)) (r.set j v)
  | a :: l, u :: r, 0, x, _, hx => by
    simp at hx
    subst hx
    simp [inoCells]
  | a :: l, u :: r, j + 1, x, h, hx => by
    have := inoCells_dat v y l r j x (by simpa using h) (by simpa using hx)
    rw [show (j + 1) * 2 = (j * 2) + 1 + 1 by omega]
    simp only [inoCells, List.set_cons_succ]
    rw [this]
theorem inoInfo : (Tryz.prog.info? 124).map (fun i => (i.zero, i.size, i.bytes)) = some (some (.agg #[.slice none 0 0, .int .i64 0]), 2, 32) := by kernel_rfl
/-- The files have turned. -/
theorem IsR1.inos {w w' : World} {b : Nat} {G : Nat → Prop} {r : RSt} {vi vc : Value} {A : Option Addr} {c : Nat} {B : Option Addr} {cb : Nat} {svs : List Value} (h : IsR1 w b G r vi vc A c B cb svs)
    (hs : w.heap.size ≤ w'.heap.size) (hb : ∀ i, i ≠ b → vi.ownBlock ≠ some i → i < w.heap.size → w'.heap[i]? = w.heap[i]?) {ino' : List (Nm × Nat)} {vi' : Value} {svs' : List Value} (N : Nat → Prop)
    (blk : Blk w' b 64 #[.int .i64 r.room, vi', .slice A r.dir.length c, .slice B r.old.length cb, vc, .int .i64 r.done, .bool r.fused, .int .i64 r.left, .bool r.off])
    (hi : w'.ownsRow 0 124 2 vi' ino'.length (inoCells ino' svs')) (hl : svs'.length = ino'.length)
    (hdat : ∀ (i : Nat) (sv : Value) (x : Nm × Nat), svs'[i]? = some sv → ino'[i]? = some x → (∃ y, svs[i]? = some sv ∧ r.ino[i]? = some y ∧ y.1 = x.1) ∨ ∃ D cd, sv = .slice D x.1.length cd ∧ x.1.length ≤ cd ∧ BytesIn w' D x.1.length x.1 ∧ ∀ ad, D = some ad → 0 < x.1.length → N ad.block)
    (hN : ∀ i, N i → w.heap.size ≤ i ∧ i < w'.heap.size ∧ vi'.ownBlock ≠ some i)
    (hvi : vi'.ownBlock = vi.ownBlock ∨ ∃ g, vi'.ownBlock = some g ∧ w.heap.size ≤ g) (wf : RWF { r with ino := ino' }) :
    IsR1 w' b (fun i => G i ∨ N i) { r with ino := ino' } vi' vc A c B cb svs' := by
  have hbl := h.blk.lt
  have keepG : ∀ i, G i → w'.heap[i]? = w.heap[i]? := fun i hi => hb i (fun e => h.gb (e ▸ hi)) (fun e => h.gi i e hi) (h.glt i hi)
  exact {
    wf := wf
    blk := blk
    ino := hi
    isl := hl
    dat := fun i sv x e1 e2 => by
      rcases hdat i sv x e1 e2 with ⟨y, k1, k2, k3⟩ | ⟨D, cd, k1, k2, k3, k4⟩
      · obtain ⟨D, cd, q1, q2, q3, q4⟩ := h.dat i sv y k1 k2
        rw [k3] at q1 q2 q3 q4
        exact ⟨D, cd, q1, q2, ⟨q3.1, q3.2.1.keep fun ad e h0 => keepG _ (q4 ad e h0), fun ad e h0 => Nat.lt_of_lt_of_le (q3.2.2 ad e h0) hs⟩, fun ad e h0 => .inl (q4 ad e h0)⟩
      · exact ⟨D, cd, k1, k2, k3, fun ad e h0 => .inr (k4 ad e h0)⟩
    dir := h.dir.keep fun ad e h0 => keepG _ (h.dirG ad e h0)
    dirG := fun ad e h0 => .inl (h.dirG ad e h0)
    old := h.old.keep fun ad e h0 => keepG _ (h.oldG ad e h0)
    oldG := fun ad e h0 => .inl (h.oldG ad e h0)
    chs := ownsRow_block h.chs fun g hg => hb g (fun e => own_blk_ne h.chs h.blk (by decide) (by rw [hg, e])) (fun e => own_row_ne h.ino h.chs (by decide) g e hg) (h.chs.lt g hg).2
    gb := fun hg => by
      rcases hg with hg | hg
      · exact h.gb hg
      · have := (hN b hg).1; omega
    gi := fun g hg hG => by
      rcases hG with hG | hG
      · rcases hvi with h3 | ⟨g', h3, h4⟩
        · rw [h3] at hg
          exact h.gi g hg hG
        · rw [h3] at hg
          cases hg
          have := h.glt _ hG; omega
      · exact (hN g hG).2.2 hg
    gc := fun g hg hG => by
      rcases hG with hG | hG
      · exact h.gc g hg hG
      · have := (hN g hG).1
        have := (h.chs.lt g hg).2
        omega
    glt := fun i hi => by
      rcases hi with hi | hi
      · exact Nat.lt_of_lt_of_le (h.glt i hi) hs
      · exact (hN i hi).2.1 }
/-- .. as a whole. -/
theorem IsR1.inosAt {w w' : World} {F : Nat → Prop} {b : Nat} {G : Nat → Prop} {r r' : RSt} {vi vc vi' : Value} {A : Option Addr} {c : Nat} {B : Option Addr} {cb : Nat} {svs svs' : List Value} {N : Nat → Prop} (h : IsR1 w' b (fun i => G i ∨ N i) r' vi' vc A c B cb svs')
    (hF : ∀ i, OfR1 b vi vc G i → F i) (hlt : ∀ i, F i → i < w.heap.size) (hs : w.heap.size ≤ w'.heap.size) (hN : ∀ i, N i → w.heap.size ≤ i ∧ i < w'.heap.size)
    (hvi : vi'.ownBlock = vi.ownBlock ∨ ∃ g, vi'.ownBlock = some g ∧ w.heap.size ≤ g) : R1At w' (Own F w w') b r' := by
  have _ := svs
  have _ := r
  refine ⟨_, vi', vc, A, c, B, cb, svs', h, fun i hi => ?_, fun i hi => ?_⟩
  · rcases hi with h1 | h1 | h1 | h1
    · exact .inl (hF i (.inl h1))
    · rcases hvi with h3 | ⟨g, h3, h4⟩
      · exact .inl (hF i (.inr (.inl (by rw [← h3]; exact h1))))
      · have h5 := (h.ino.lt i h1).2
        rw [h3] at h1
        cases h1
        exact .inr ⟨h4, h5⟩
    · exact .inl (hF i (.inr (.inr (.inl h1))))
    · rcases h1 with h1 | h1
      · exact .inl (hF i (.inr (.inr (.inr h1))))
      · exact .inr (hN i h1)
  · rcases hi with h1 | h1
    · have := hlt i h1; omega
    · exact h1.2

theorem R1Left.after {w w4 w' : World} {F : Nat → Prop} {b : Nat} {n : Int} {r' : RSt} {e : Ending} (h : R1Left w4 (Own F w w4) b n r' e w') (hk : Kept F w w4) : R1Left w F b n r' e w' := by
  obtain ⟨h1, F', h2, h3, h4⟩ := h
  refine ⟨h1, F', h2, hk.trans h3 (fun i hi h => ?_), fun i hi => ?_⟩
  · rcases h with h | h
    · exact h
    · omega
  · rcases h4 i hi with h | h
    · exact h.imp id (·.1)
    · exact .inr (Nat.le_trans hk.size h)
def rCreate (r : RSt) (k : Nm) : Int × RSt :=
  if (rPower r).off then (14, rPower r) else if okName k = false then (1, r) else match dget r.dir k with | some _ => (13, r) | none => if 64 ≤ r.dir.length then (2, r) else (0, rChange { r with ino := r.ino ++ [([], 0)] } ⟨[], k, r.ino.length⟩)
set_option maxHeartbeats 4000000 in
set_option maxRecDepth 100000 in
theorem r1Create_any (w : World) (F : Nat → Prop) (b : Nat) (r : RSt) (hR : R1At w F b r) (hnd : r.dir.length < 100000) (hnc : r.chs.length < 100000) (hni : r.ino.length < 100000) (hdn : r.done < 100000) (k : Nm) (hk0 : k.length ≤ maxLen) :
    Calls Tryz.prog 97 #[at0 b, .string ⟨k.toArray⟩] w (R1Left w F b (rCreate r k).1 (rCreate r k).2) := by
  have hb := hR.F_b
  unfold rCreate
  cases ho : (rPower r).off with
  | true =>
    rw [if_pos rfl]
    have HO := Lib.hid ho
    have HR := Lib.hid hR
    clear hR ho
    unfold at0
    go_enter Tryz.func97, Tryz.ntmps97
    go_wp2_with fail
    refine (r1power_any w F b r HR.out).mono ?_
    rintro e w1 ⟨rfl, hR1, hk⟩
    rw [HO.out]
    have HR1 := Lib.hid hR1
    have HK := Lib.hid hk
    clear hR1 hk
    go_wp2
    go_ret
    exact R1Left.stay HR1.out HK.out
  | false =>
    rw [if_neg Bool.false_ne_true]
    have hon := (rPower_on ho).2
    have hsame := rPower_same ho
    have HO := Lib.hid ho
    have HR := Lib.hid hR
    have HSAME := Lib.hid hsame
    have HON := Lib.hid hon
    clear hR ho hsame hon
    cases hok : okName k with
    | false =>
      rw [if_pos rfl]
      have HOK := Lib.hid hok
      clear hok
      unfold at0
      go_enter Tryz.func97, Tryz.ntmps97
      go_wp2_with fail
      refine (r1power_any w F b r HR.out).mono ?_
      rintro e w1 ⟨rfl, hR1, hk⟩
      rw [HO.out]
      rw [HSAME.out] at hR1
      have HR1 := Lib.hid hR1
      have HK := Lib.hid hk
      clear hR1 hk
      go_wp2_with fail
      refine (right_is w1 k hk0 HOK.out).mono ?_
      rintro e w2 ⟨rfl, hw⟩
      rw [hw]
      clear hw
      go_wp2
      go_ret
      exact R1Left.stay HR1.out HK.out
    | true =>
      rw [if_neg (by simp)]
      have HOK := Lib.hid hok
      clear hok
      rcases dfind_dget r.dir k with ⟨g1, g2⟩ | ⟨i, ⟨pn, j⟩, g0, g1, g2⟩
      · rw [g1]
        have G2 := Lib.hid g2
        clear g1 g2
        simp only
        by_cases h64 : 64 ≤ r.dir.length
        · rw [if_pos h64]
          have h64z : (64 : Int) ≤ (r.dir.length : Int) := by omega
          unfold at0
          go_enter Tryz.func97, Tryz.ntmps97
          go_wp2_with fail
          refine (r1power_any w F b r HR.out).mono ?_
          rintro e w1 ⟨rfl, hR1, hk⟩
          rw [HO.out]
          rw [HSAME.out] at hR1
          obtain ⟨A, c, k2, hd⟩ := hR1.dirCell
          have HR1 := Lib.hid hR1
          have HK := Lib.hid hk
          have HD := Lib.hid hd
          clear hR1 hk hd
          go_wp2_with fail
          refine (right_is w1 k hk0 HOK.out).mono ?_
          rintro e w2 ⟨rfl, hw⟩
          rw [hw]
          clear hw
          go_wp2_with fail
          refine (r1find_is w1 A _ c r.dir HD.out k G2.out).mono ?_
          rintro e w2 ⟨rfl, hw⟩
          rw [hw]
          clear hw
          go_wp2
          go_ret
          exact R1Left.stay HR1.out HK.out
        · rw [if_neg h64]
          have h64z : ¬ (64 : Int) ≤ (r.dir.length : Int) := by omega
          obtain ⟨i0, hi, hz0, hz1, hz2⟩ := info_parts inoInfo
          unfold at0
          go_enter Tryz.func97, Tryz.ntmps97
          go_wp2_with fail
          refine (r1power_any w F b r HR.out).mono ?_
          rintro e w1 ⟨rfl, hR1, hk⟩
          rw [HO.out]
          rw [HSAME.out] at hR1
          obtain ⟨G, vi, vc, A, c, B, cb, svs, h, hF, hlt⟩ := hR1
          have k1 := h.blk.cell 1
          have k2 := h.blk.cell 2
          have z1 := h.blk.frozen 1
          simp at k1 k2
          have H := Lib.hid h
          have HK := Lib.hid hk
          have HF := Lib.hid hF
          have HLT := Lib.hid hlt
          have HD := Lib.hid h.dir
          have HIV := Lib.hid (show vi.ownBlock ≠ some b from own_blk_ne h.ino h.blk (by decide))
          have hbl := h.blk.lt
          obtain ⟨n, hn⟩ : ∃ n, n = r.ino.length := ⟨_, rfl⟩
          have hino := h.ino
          rw [← hn] at hino hni
          have HI := Lib.hid hino
          have HN := Lib.hid hn
          obtain ⟨Av, cv, hv⟩ := own_slice hino
          subst hv
          clear h hk hF hlt hino hn
          go_wp2_with fail
          refine (right_is w1 k hk0 HOK.out).mono ?_
          rintro e w2 ⟨rfl, hw⟩
          rw [hw]
          clear hw
          go_wp2_with fail
          refine (r1find_is w1 A _ c r.dir HD.out k G2.out).mono ?_
          rintro e w2 ⟨rfl, hw⟩
          rw [hw]
          clear hw
          go_wp2_with (at_builtin; refine wpList_append_own_at _ rfl _ _ 60 rfl 0 124 i0 _ 2 32 Tryz.underlying60 hi hz0 hz1 hz2 rfl (by decide) _ n _ rfl (World.ownsRow.alloc HI.out _) ⟨w1.heap.size, 0, none⟩ 1 1 [.slice none 0 0, .int .i64 0] rfl rfl (by intro i u hu; rw [Addr.add_mid, cell_of_row _ _ _ _ _ _ (heap_alloc_new w1 _)]; simpa using hu) (by intro u hu; simp at hu; rcases hu with rfl | rfl <;> rfl) (by unfold maxLen; omega) (by omega) (Nat.zero_le _) ?_; intro v3 w3 hown3 hg3 hnil3 hloc3; obtain ⟨A3, c3, hv3⟩ := own_slice hown3; subst hv3; have HG3 := Lib.hid hg3; have HO3 := Lib.hid hown3; have HL3 := Lib.hid hloc3; have hbk3 := ((H.out.blk.alloc (.cells #[.slice none 0 0, .int .i64 0] 124)).grown hg3 (fun e => HIV.out e.symm)); have n1 := hbk3.cell 1; have n1z := hbk3.frozen 1; simp at n1; have HBK3 := Lib.hid hbk3; clear hg3 hown3 hloc3 hnil3 hbk3)
          refine r1calls_at ?_
          intro w4 hw4
          have hal : Below w1.heap.size w1 (w1.alloc (.cells #[.slice none 0 0, .int .i64 0] 124)) := (Below.refl _ w1).alloc (Nat.le_refl _) _
          have hs4 : w3.heap.size = w4.heap.size := by rw [hw4]; simp [World.setCell]
          have hs3 : w1.heap.size + 1 ≤ w3.heap.size := by have := HG3.out.size; simp at this; exact this
          have hb4 : ∀ i, i ≠ b → (Value.slice Av n cv).ownBlock ≠ some i → i < w1.heap.size → w4.heap[i]? = w1.heap[i]? := fun i h1 h2 h3 => by
            rw [hw4]
            exact (heap_setCell_other _ _ _ h1).trans ((HG3.out.block i (by simp; omega) (fun e => h2 e.symm)).trans (Below.heap_alloc w1 _ _ h3))
          have hv3b : (Value.slice A3 (n + 1) c3).ownBlock ≠ some b := own_blk_ne HO3.out HBK3.out (by decide)
          have hO4 : w4.ownsRow 0 124 2 (.slice A3 (n + 1) c3) (n + 1) (inoCells r.ino svs ++ [.slice none 0 0, .int .i64 0]) := by rw [hw4]; exact ownsRow_block HO3.out fun g hg => heap_setCell_other _ _ _ (fun e => hv3b (by rw [hg, e]))
          have hblk4 : Blk w4 b 64 #[.int .i64 r.room, .slice A3 (n + 1) c3, .slice A r.dir.length c, .slice B r.old.length cb, vc, .int .i64 r.done, .bool r.fused, .int .i64 r.left, .bool r.off] := by rw [hw4]; simpa using HBK3.out.set_ 1 (.slice A3 (n + 1) c3)
          have hvi4 : (Value.slice A3 (n + 1) c3).ownBlock = (Value.slice Av n cv).ownBlock ∨ ∃ g, (Value.slice A3 (n + 1) c3).ownBlock = some g ∧ w1.heap.size ≤ g := by
            rcases HL3.out with h1 | h1
            · exact .inl h1
            · exact .inr ⟨_, h1, by simp⟩
          have hwf := H.out.wf
          have hI4 := H.out.inos (w' := w4) (by omega) hb4 (ino' := r.ino ++ [([], 0)]) (vi' := .slice A3 (n + 1) c3) (svs' := svs ++ [.slice none 0 0]) (fun _ => False) hblk4
            (by rw [List.length_append, ← HN.out, inoCells_app ([], 0) (.slice none 0 0) r.ino svs H.out.isl.symm]; exact hO4)
            (by rw [List.length_append, List.length_append, H.out.isl]; rfl)
            (fun i sv y e1 e2 => by
              rcases Nat.lt_or_ge i r.ino.length with hi | hi
              · rw [List.getElem?_append_left (by rw [H.out.isl]; exact hi)] at e1
                rw [List.getElem?_append_left hi] at e2
                exact .inl ⟨y, e1, e2, rfl⟩
              · have hlt' := (List.getElem?_eq_some_iff.1 e2).1
                simp at hlt'
                obtain rfl : i = r.ino.length := by omega
                rw [List.getElem?_append_right (by rw [H.out.isl]; exact Nat.le_refl _), H.out.isl, Nat.sub_self] at e1
                rw [List.getElem?_append_right (Nat.le_refl _), Nat.sub_self] at e2
                simp at e1 e2
                subst e1 e2
                exact .inr ⟨none, 0, rfl, Nat.le_refl _, BytesIn.nil _, fun ad e => by cases e⟩)
            (fun i h => h.elim) hvi4
            { hwf with
              nino := by rw [List.length_append, ← HN.out]; simp; omega
              fdir := fun p hp => by have := hwf.fdir p hp; simp; omega
              fold := fun p hp => by have := hwf.fold p hp; simp; omega
              fchs := fun c hc => by
                rcases hwf.fchs c hc with h1 | h1
                · exact .inl h1
                · right; simp; omega
              fit := fun x hx => by
                rcases List.mem_append.1 hx with h1 | h1
                · exact hwf.fit x h1
                · rw [List.mem_singleton.1 h1]; simp }
          have hR4 := hI4.inosAt (r := r) (svs := svs) (w := w1) HF.out HLT.out (by omega) (fun i h => h.elim) hvi4
          have hk4 : Kept F w1 w4 := by
            rw [hw4]
            exact (((Kept.refl F w1).alloc _).grown HG3.out (fun g e => .inl (HF.out g (.inr (.inl e))))).setCell (.inl hb) _
          have HR4 := Lib.hid hR4
          have HK4 := Lib.hid hk4
          clear hw4 hb4 hv3b hO4 hblk4 hvi4 hI4 hR4 hk4 hal
          refine (r1change_any w4 _ b _ HR4.out ⟨[], k, n⟩ hnd hnc (.inr (by rw [List.length_append, ← HN.out]; simp)) hdn HON.out).mono ?_
          intro e w5 hL
          have hL2 := R1Left.later (R1Left.after hL HK4.out) hb HK.out
          have HE := Lib.hid hL.1
          have HL5 := Lib.hid hL2
          clear hL hL2
          rw [HE.out]
          go_wp2
          go_ret
          have h9 := HL5.out
          rw [HE.out, HN.out] at h9
          exact h9
      · rw [g1]
        have G2 := Lib.hid g2
        have hni : ¬ ((i : Int) < 0) := by omega
        have hni2 : (0 : Int) ≤ (i : Int) := by omega
        clear g0 g1 g2
        unfold at0
        go_enter Tryz.func97, Tryz.ntmps97
        go_wp2_with fail
        refine (r1power_any w F b r HR.out).mono ?_
        rintro e w1 ⟨rfl, hR1, hk⟩
        rw [HO.out]
        rw [HSAME.out] at hR1
        obtain ⟨A, c, k2, hd⟩ := hR1.dirCell
        have HR1 := Lib.hid hR1
        have HK := Lib.hid hk
        have HD := Lib.hid hd
        clear hR1 hk hd
        go_wp2_with fail
        refine (right_is w1 k hk0 HOK.out).mono ?_
        rintro e w2 ⟨rfl, hw⟩
        rw [hw]
        clear hw
        go_wp2_with fail
        refine (r1find_is w1 A _ c r.dir HD.out k G2.out).mono ?_
        rintro e w2 ⟨rfl, hw⟩
        rw [hw]
        clear hw
        go_wp2
        go_ret
        exact R1Left.stay HR1.out HK.out
def rSync (r : RSt) (k : Nm) : Int × RSt :=
  if (rPower r).off then (14, rPower r) else match dget r.dir k with | none => (12, r) | some j => (0, rDid { r with ino := r.ino.set j (rDat r j, (rDat r j).length) })
set_option linter.unusedSimpArgs false in
set_option maxHeartbeats 4000000 in
set_option maxRecDepth 100000 in
theorem r1Sync_any (w : World) (F : Nat → Prop) (b : Nat) (r : RSt) (hR : R1At w F b r) (hdn : r.done < 100000) (k : Nm) :
    Calls Tryz.prog 99 #[at0 b, .string ⟨k.toArray⟩] w (R1Left w F b (rSync r k).1 (rSync r k).2) := by
  have hb := hR.F_b
  unfold rSync
  cases ho : (rPower r).off with
  | true =>
    rw [if_pos rfl]
    have HO := Lib.hid ho
    have HR := Lib.hid hR
    clear hR ho
    unfold at0
    go_enter Tryz.func99, Tryz.ntmps99
    go_wp2_with fail
    refine (r1power_any w F b r HR.out).mono ?_
    rintro e w1 ⟨rfl, hR1, hk⟩
    rw [HO.out]
    have HR1 := Lib.hid hR1
    have HK := Lib.hid hk
    clear hR1 hk
    go_wp2
    go_ret
    exact R1Left.stay HR1.out HK.out
  | false =>
    rw [if_neg Bool.false_ne_true]
    have hon := (rPower_on ho).2
    have hsame := rPower_same ho
    have HO := Lib.hid ho
    have HR := Lib.hid hR
    have HSAME := Lib.hid hsame
    have HON := Lib.hid hon
    clear hR ho hsame hon
    rcases dfind_dget r.dir k with ⟨g1, g2⟩ | ⟨i, ⟨pn, j⟩, g0, g1, g2⟩
    · rw [g1]
      have G2 := Lib.hid g2
      clear g1 g2
      unfold at0
      go_enter Tryz.func99, Tryz.ntmps99
      go_wp2_with fail
      refine (r1power_any w F b r HR.out).mono ?_
      rintro e w1 ⟨rfl, hR1, hk⟩
      rw [HO.out]
      rw [HSAME.out] at hR1
      obtain ⟨A, c, k2, hd⟩ := hR1.dirCell
      have HR1 := Lib.hid hR1
      have HK := Lib.hid hk
      have HD := Lib.hid hd
      clear hR1 hk hd
      go_wp2_with fail
      refine (r1find_is w1 A _ c r.dir HD.out k G2.out).mono ?_
      rintro e w2 ⟨rfl, hw⟩
      rw [hw]
      clear hw
      go_wp2
      go_ret
      exact R1Left.stay HR1.out HK.out
    · rw [g1]
      have G2 := Lib.hid g2
      have hni : ¬ ((i : Int) < 0) := by omega
      have hin := (List.getElem?_eq_some_iff.1 g0).1
      have hj := HR.out.wf.fdir _ (List.mem_of_getElem? g0)
      simp only at hj
      obtain ⟨x, hx⟩ : ∃ x, r.ino[j]? = some x := ⟨_, List.getElem?_eq_getElem hj⟩
      have G0 := Lib.hid g0
      have HX := Lib.hid hx
      have hxl := (HR.out.wf.fit x (List.mem_of_getElem? hx)).2
      simp only [show rDat r j = x.1 from rDat_at hx]
      clear g0 g1 g2 hx
      unfold at0
      go_enter Tryz.func99, Tryz.ntmps99
      go_wp2_with fail
      refine (r1power_any w F b r HR.out).mono ?_
      rintro e w1 ⟨rfl, hR1, hk⟩
      rw [HO.out]
      rw [HSAME.out] at hR1
      obtain ⟨G, vi, vc, A, c, B, cb, svs, h, hF, hlt⟩ := hR1
      have k1 := h.blk.cell 1
      have k2 := h.blk.cell 2
      simp at k1 k2
      obtain ⟨ad, p', rfl, hp', d1, d2⟩ := h.dir.at i hin
      rw [G0.out] at hp'
      cases hp'
      simp only at d2
      obtain ⟨gi, cap, D, cd, rfl, hsv, e1, e2, e3, e4, e5⟩ := h.inode HX.out
      have ez := h.ino.frozenAt (j * 2 + 1)
      have H := Lib.hid h
      have HK := Lib.hid hk
      have HF := Lib.hid hF
      have HLT := Lib.hid hlt
      have HD := Lib.hid h.dir
      have HSV := Lib.hid hsv
      have hgb : gi ≠ b := fun e => own_blk_ne h.ino h.blk (by decide) (by rw [e]; rfl)
      have p0 : (0 : Int) ≤ (i : Int) := by omega
      have p1 : (i : Int) < (r.dir.length : Int) := by omega
      have q0 : (0 : Int) ≤ (j : Int) := by omega
      have q1 : (j : Int) < (r.ino.length : Int) := by omega
      obtain ⟨m, hm⟩ : ∃ m, m = x.1.length := ⟨_, rfl⟩
      rw [← hm] at e1 hxl ⊢
      have HM := Lib.hid hm
      have hnew := (h.ino.stored (j * 2 + 1) (.int .i64 m)).1
      rw [inoCells_syn m x.1 r.ino svs j x h.isl.symm HX.out] at hnew
      have HNEW := Lib.hid hnew
      have hc0 := (inoCells_at (r.ino.set j (x.1, m)) svs j (x.1, m) (.slice D x.1.length cd) (by rw [List.getElem?_set_self (by omega)]) hsv).1
      have hc1 : (w1.setCell ⟨gi, j * 2 + 1, none⟩ (.int .i64 m)).cell? ⟨gi, j * 2, none⟩ = some (.slice D m cd) := by
        have h2 := hnew.cells (g := gi) rfl (j * 2) _ hc0
        rw [Addr.add_mid] at h2
        simp only [← hm] at h2
        simpa using h2
      have HC1 := Lib.hid hc1
      clear h hk hF hlt hsv e3 e4 e5 d1 hm hnew hc0 hc1
      go_wp2_with fail
      refine (r1find_is w1 (some ad) _ c r.dir HD.out k G2.out).mono ?_
      rintro e w2 ⟨rfl, hw⟩
      rw [hw]
      clear hw
      go_wp2_with fail
      refine wp_region_held_drew (S := fun w' => w'.cell? ⟨b, 1, none⟩ = some (.slice (some ⟨gi, 0, none⟩) r.ino.length cap) ∧ w'.cell? ⟨gi, j * 2, none⟩ = some (.slice D m cd)) (by kernel_rfl) ⟨k1, e1⟩ (fun hHeld => ?_)
      refine wpAnyH_take (i := 0) (oi := ?oi0) (v := ?v0) ?hi0 (by kernel_rfl) (by kernel_rfl) (by kernel_rfl) ?hQ0 (Or.inl ⟨?hw0, ?hy0⟩) (by assumption) ?rest0
      case hi0 => (first | (simp only [List.getElem?_toArray, List.getElem?_cons_zero, List.getElem?_cons_succ]; rfl) | rfl)
      case hQ0 => exact fun _ _ _ h => h
      case hw0 => rfl
      case hy0 => ((intro w hSw; go_simp); first | done | with_reducible rfl)
      try simp only [Act.put, List.setIfInBounds_toArray, List.set_cons_zero, List.set_cons_succ]
      refine wpAnyH_take (i := 1) (oi := ?oi1) (v := ?v1) ?hi1 (by kernel_rfl) (by kernel_rfl) (by kernel_rfl) ?hQ1 (Or.inl ⟨?hw1, ?hy1⟩) (by assumption) ?rest1
      case hi1 => (first | (simp only [List.getElem?_toArray, List.getElem?_cons_zero, List.getElem?_cons_succ]; rfl) | rfl)
      case hQ1 => exact fun _ _ _ h => h
      case hw1 => rfl
      case hy1 => ((intro w hSw; go_simp); first | done | with_reducible rfl)
      try simp only [Act.put, List.setIfInBounds_toArray, List.set_cons_zero, List.set_cons_succ]
      refine wpAnyH_take (i := 2) (oi := ?oi2) (v := ?v2) ?hi2 (by kernel_rfl) (by kernel_rfl) (by kernel_rfl) ?hQ2 (Or.inl ⟨?hw2, ?hy2⟩) (by assumption) ?rest2
      case hi2 => (first | (simp only [List.getElem?_toArray, List.getElem?_cons_zero, List.getElem?_cons_succ]; rfl) | rfl)
      case hQ2 => exact fun _ _ _ h => h
      case hw2 => rfl
      case hy2 => ((intro w hSw; go_simp); first | done | with_reducible rfl)
      try simp only [Act.put, List.setIfInBounds_toArray, List.set_cons_zero, List.set_cons_succ]
      refine wpAnyH_take (i := 3) (oi := ?oi3) (v := ?v3) ?hi3 (by kernel_rfl) (by kernel_rfl) (by kernel_rfl) ?hQ3 (Or.inl ⟨?hw3, ?hy3⟩) (by assumption) ?rest3
      case hi3 => (first | (simp only [List.getElem?_toArray, List.getElem?_cons_zero, List.getElem?_cons_succ]; rfl) | rfl)
      case hQ3 => exact fun _ _ _ h => h
      case hw3 => rfl
      case hy3 => ((intro w hSw; go_simp); first | done | with_reducible rfl)
      try simp only [Act.put, List.setIfInBounds_toArray, List.set_cons_zero, List.set_cons_succ]
      refine wpAnyH_take (i := 4) (oi := ?oi4) (v := ?v4) ?hi4 (by kernel_rfl) (by kernel_rfl) (by kernel_rfl) ?hQ4 (Or.inl ⟨?hw4, ?hy4⟩) (by assumption) ?rest4
      case hi4 => (first | (simp only [List.getElem?_toArray, List.getElem?_cons_zero, List.getElem?_cons_succ]; rfl) | rfl)
      case hQ4 => exact fun _ _ _ h => h
      case hw4 => rfl
      case hy4 => ((intro w hSw; go_simp); first | done | with_reducible rfl)
      try simp only [Act.put, List.setIfInBounds_toArray, List.set_cons_zero, List.set_cons_succ]
      refine wpAnyH_take (i := 5) (oi := ?oi5) (v := ?v5) ?hi5 (by kernel_rfl) (by kernel_rfl) (by kernel_rfl) ?hQ5 (Or.inl ⟨?hw5, ?hy5⟩) (by assumption) ?rest5
      case hi5 => (first | (simp only [List.getElem?_toArray, List.getElem?_cons_zero, List.getElem?_cons_succ]; rfl) | rfl)
      case hQ5 => exact fun _ _ _ h => h
      case hw5 => rfl
      case hy5 => ((intro w hSw; go_simp); first | done | with_reducible rfl)
      try simp only [Act.put, List.setIfInBounds_toArray, List.set_cons_zero, List.set_cons_succ]
      refine wpAnyH_take (i := 6) (oi := ?oi6) (v := ?v6) ?hi6 (by kernel_rfl) (by kernel_rfl) (by kernel_rfl) ?hQ6 (Or.inl ⟨?hw6, ?hy6⟩) (by assumption) ?rest6
      case hi6 => (first | (simp only [List.getElem?_toArray, List.getElem?_cons_zero, List.getElem?_cons_succ]; rfl) | rfl)
      case hQ6 => exact fun _ _ _ h => h
      case hw6 => rfl
      case hy6 => ((intro w hSw; go_simp); first | done | with_reducible rfl)
      try simp only [Act.put, List.setIfInBounds_toArray, List.set_cons_zero, List.set_cons_succ]
      refine wpAnyH_take (i := 7) (oi := ?oi7) (v := ?v7) ?hi7 (by kernel_rfl) (by kernel_rfl) (by kernel_rfl) ?hQ7 (Or.inl ⟨?hw7, ?hy7⟩) (by assumption) ?rest7
      case hi7 => (first | (simp only [List.getElem?_toArray, List.getElem?_cons_zero, List.getElem?_cons_succ]; rfl) | rfl)
      case hQ7 => exact fun _ _ _ h => h
      case hw7 => rfl
      case hy7 => ((intro w hSw; go_simp); first | done | with_reducible rfl)
      try simp only [Act.put, List.setIfInBounds_toArray, List.set_cons_zero, List.set_cons_succ]
      refine wpAnyH_take (i := 8) (oi := ?oi8) (v := ?v8) ?hi8 (by kernel_rfl) (by kernel_rfl) (by kernel_rfl) ?hQ8 (Or.inl ⟨?hw8, ?hy8⟩) (by assumption) ?rest8
      case hi8 => (first | (simp only [List.getElem?_toArray, List.getElem?_cons_zero, List.getElem?_cons_succ]; rfl) | rfl)
      case hQ8 => exact fun _ _ _ h => h
      case hw8 => rfl
      case hy8 => ((intro w hSw; go_simp); first | done | with_reducible rfl)
      try simp only [Act.put, List.setIfInBounds_toArray, List.set_cons_zero, List.set_cons_succ]
      refine wpAnyH_take (i := 9) (oi := ?oi9) (v := ?v9) ?hi9 (by kernel_rfl) (by kernel_rfl) (by kernel_rfl) ?hQ9 (Or.inl ⟨?hw9, ?hy9⟩) (by assumption) ?rest9
      case hi9 => (first | (simp only [List.getElem?_toArray, List.getElem?_cons_zero, List.getElem?_cons_succ]; rfl) | rfl)
      case hQ9 => exact fun _ _ _ h => h
      case hw9 => rfl
      case hy9 => ((intro w hSw; go_simp); first | done | with_reducible rfl)
      try simp only [Act.put, List.setIfInBounds_toArray, List.set_cons_zero, List.set_cons_succ]
      refine wpAnyH_take (i := 10) (oi := ?oi10) (v := ?v10) ?hi10 (by kernel_rfl) (by kernel_rfl) (by kernel_rfl) ?hQ10 (Or.inl ⟨?hw10, ?hy10⟩) (by assumption) ?rest10
      case hi10 => (first | (simp only [List.getElem?_toArray, List.getElem?_cons_zero, List.getElem?_cons_succ]; rfl) | rfl)
      case hQ10 => exact fun _ _ _ h => h
      case hw10 => rfl
      case hy10 => ((intro w hSw; go_simp); first | done | with_reducible rfl)
      try simp only [Act.put, List.setIfInBounds_toArray, List.set_cons_zero, List.set_cons_succ]
      refine wpAnyH_take (i := 11) (oi := ?oi11) (v := ?v11) ?hi11 (by kernel_rfl) (by kernel_rfl) (by kernel_rfl) ?hQ11 (Or.inl ⟨?hw11, ?hy11⟩) (by assumption) ?rest11
      case hi11 => (first | (simp only [List.getElem?_toArray, List.getElem?_cons_zero, List.getElem?_cons_succ]; rfl) | rfl)
      case hQ11 => exact fun _ _ _ h => h
      case hw11 => rfl
      case hy11 => ((intro w hSw; go_simp); first | done | with_reducible rfl)
      try simp only [Act.put, List.setIfInBounds_toArray, List.set_cons_zero, List.set_cons_succ]
      refine wpAnyH_take (i := 12) (oi := ?oi12) (v := ?v12) ?hi12 (by kernel_rfl) (by kernel_rfl) (by kernel_rfl) ?hQ12 (Or.inl ⟨?hw12, ?hy12⟩) (by assumption) ?rest12
      case hi12 => (first | (simp only [List.getElem?_toArray, List.getElem?_cons_zero, List.getElem?_cons_succ]; rfl) | rfl)
      case hQ12 => exact fun _ _ _ h => h
      case hw12 => rfl
      case hy12 => ((intro w hSw; go_simp); first | done | with_reducible rfl)
      try simp only [Act.put, List.setIfInBounds_toArray, List.set_cons_zero, List.set_cons_succ]
      refine wpAnyH_take (i := 13) (oi := ?oi13) (v := ?v13) ?hi13 (by kernel_rfl) (by kernel_rfl) (by kernel_rfl) ?hQ13 (Or.inl ⟨?hw13, ?hy13⟩) (by assumption) ?rest13
      case hi13 => (first | (simp only [List.getElem?_toArray, List.getElem?_cons_zero, List.getElem?_cons_succ]; rfl) | rfl)
      case hQ13 => exact fun _ _ _ h => h
      case hw13 => rfl
      case hy13 => ((intro w hSw; go_simp); first | done | with_reducible rfl)
      try simp only [Act.put, List.setIfInBounds_toArray, List.set_cons_zero, List.set_cons_succ]
      refine wpAnyH_take (i := 14) (oi := ?oi14) (v := ?v14) ?hi14 (by kernel_rfl) (by kernel_rfl) (by kernel_rfl) ?hQ14 (Or.inl ⟨?hw14, ?hy14⟩) (by assumption) ?rest14
      case hi14 => (first | (simp only [List.getElem?_toArray, List.getElem?_cons_zero, List.getElem?_cons_succ]; rfl) | rfl)
      case hQ14 => exact fun _ _ _ h => h
      case hw14 => rfl
      case hy14 => ((intro w hSw; go_simp); first | done | with_reducible rfl)
      try simp only [Act.put, List.setIfInBounds_toArray, List.set_cons_zero, List.set_cons_succ]
      refine wpAnyH_take (i := 15) (oi := ?oi15) (v := ?v15) ?hi15 (by kernel_rfl) (by kernel_rfl) (by kernel_rfl) ?hQ15 (Or.inl ⟨?hw15, ?hy15⟩) (by assumption) ?rest15
      case hi15 => (first | (simp only [List.getElem?_toArray, List.getElem?_cons_zero, List.getElem?_cons_succ]; rfl) | rfl)
      case hQ15 => exact fun _ _ _ h => h
      case hw15 => rfl
      case hy15 => ((intro w hSw; go_simp); first | done | with_reducible rfl)
      try simp only [Act.put, List.setIfInBounds_toArray, List.set_cons_zero, List.set_cons_succ]
      refine wpAnyH_ready (rs := [16]) (by kernel_rfl) (by simp) ?_
      refine AllReadyH.cons (o := ?oS) ?hiS ?stepS AllReadyH.nil
      case hiS => (simp only [List.getElem?_toArray, List.getElem?_cons_zero, List.getElem?_cons_succ]; rfl)
      intro K hK
      go_simp
      refine hK.out _ _ ⟨(World.cell?_of_block (a := ⟨b, 1, none⟩) (heap_setCell_other w1 ⟨gi, j * 2 + 1, none⟩ (.int .i64 m) (by show b ≠ gi; exact fun e => hgb e.symm))).trans k1, HC1.out⟩ (fun hHeld1 => ?_)
      clear hK K
      try simp only [Act.put, List.setIfInBounds_toArray, List.set_cons_zero, List.set_cons_succ]
      refine wpAnyH_done (by kernel_rfl) ?_ _
      clear hHeld hHeld1
      have hI4 := H.out.inos (w' := w1.drew.setCell ⟨gi, j * 2 + 1, none⟩ (.int .i64 m)) (by simp [World.setCell]) (fun i _ h2 _ => heap_setCell_other w1 ⟨gi, j * 2 + 1, none⟩ (.int .i64 m) (by show i ≠ gi; exact fun e => h2 (by rw [e]; rfl))) (ino' := r.ino.set j (x.1, m)) (vi' := .slice (some ⟨gi, 0, none⟩) r.ino.length cap) (svs' := svs) (fun _ => False)
        ((heap_setCell_other w1 ⟨gi, j * 2 + 1, none⟩ (.int .i64 m) (by show b ≠ gi; exact fun e => hgb e.symm)).trans H.out.blk)
        (by rw [List.length_set]; exact HNEW.out) (by rw [List.length_set]; exact H.out.isl)
        (fun i sv y f1 f2 => by
          by_cases hij : i = j
          · subst hij
            rw [List.getElem?_set_self (by omega)] at f2
            cases f2
            exact .inl ⟨x, f1, HX.out, rfl⟩
          · rw [List.getElem?_set_ne (fun e => hij e.symm)] at f2
            exact .inl ⟨y, f1, f2, rfl⟩)
        (fun i h => h.elim) (.inl rfl)
        { H.out.wf with
          nino := by rw [List.length_set]; exact H.out.wf.nino
          fdir := fun p hp => by rw [List.length_set]; exact H.out.wf.fdir p hp
          fold := fun p hp => by rw [List.length_set]; exact H.out.wf.fold p hp
          fchs := fun c hc => by rw [List.length_set]; exact H.out.wf.fchs c hc
          fit := fun y hy => by
            rcases List.mem_or_eq_of_mem_set hy with h1 | h1
            · exact H.out.wf.fit y h1
            · rw [h1, HM.out]; exact ⟨Nat.le_refl _, by show x.1.length ≤ _; rw [← HM.out]; exact hxl⟩ }
      have hR4 := hI4.inosAt (r := r) (svs := svs) (w := w1) HF.out HLT.out (by simp [World.setCell]) (fun i h => h.elim) (.inl rfl)
      have hk4 : Kept F w1 (w1.drew.setCell ⟨gi, j * 2 + 1, none⟩ (.int .i64 m)) := (Kept.refl F w1).drew.setCell (.inl (HF.out gi (.inr (.inl rfl)))) _
      have HR4 := Lib.hid hR4
      have HK4 := Lib.hid hk4
      clear hI4 hR4 hk4
      go_wp2_with fail
      refine (r1did_any _ _ b _ HR4.out hdn HON.out).mono ?_
      rintro e w5 ⟨rfl, hR5, hK5⟩
      have HL5 := Lib.hid (R1Left.later (R1Left.after (R1Left.stay (n := 0) hR5 hK5) HK4.out) hb HK.out)
      clear hR5 hK5
      go_wp2
      go_ret
      have h9 := HL5.out
      rw [HM.out] at h9
      exact h9
end Go.Proofs.YtmhiekbpmoikfaaGreatDoor
namespace Go.Proofs.YtmhiekbpmoikfaaGreatDoor
open Go.RowKit Go.Maps Go.WideMaps

theorem bytes_keep' {w w' : World} {A : Option Addr} {n : Nat} {l : Nm} (h : BytesIn w A n l) (hb : ∀ ad, A = some ad → 0 < n → w'.heap[ad.block]? = w.heap[ad.block]?) (hs : w.heap.size ≤ w'.heap.size) : BytesIn w' A n l :=
  ⟨h.1, h.2.1.keep hb, fun ad e h0 => Nat.lt_of_lt_of_le (h.2.2 ad e h0) hs⟩
def rAppend (r : RSt) (k bs : Nm) : Int × RSt :=
  if (rPower r).off then (14, rPower r) else match dget r.dir k with
  | none => (12, r)
  | some j => if 262144 < bs.length + (rDat r j).length then (2, r) else if r.room < bs.length + rSum r r.dir then (11, r) else (0, rDid { r with ino := r.ino.set j (rDat r j ++ bs, ((r.ino[j]?).map (·.2)).getD 0) })
set_option linter.unusedSimpArgs false in
set_option maxHeartbeats 8000000 in
set_option maxRecDepth 100000 in
theorem r1Append_any (w : World) (F : Nat → Prop) (b : Nat) (r : RSt) (hR : R1At w F b r) (hdn : r.done < 100000) (k : Nm) (Ab : Option Addr) (nb cb' : Nat) (bs : Nm) (hbs : BytesIn w Ab nb bs) (hAb : ∀ ad, Ab = some ad → 0 < nb → ¬ F ad.block) :
    Calls Tryz.prog 98 #[at0 b, .string ⟨k.toArray⟩, .slice Ab nb cb'] w (R1Left w F b (rAppend r k bs).1 (rAppend r k bs).2) := by
  have hb := hR.F_b
  have hbl : bs.length = nb := by have := hbs.2.1.len; simpa using this
  have n63 : nb ≤ 9223372036854775807 := hbs.1
  have HBL := Lib.hid hbl
  have HBS := Lib.hid hbs
  clear hbl hbs
  unfold rAppend
  cases ho : (rPower r).off with
  | true =>
    rw [if_pos rfl]
    have HO := Lib.hid ho
    have HR := Lib.hid hR
    clear hR ho
    unfold at0
    go_enter Tryz.func98, Tryz.ntmps98
    go_wp2_with fail
    refine (r1power_any w F b r HR.out).mono ?_
    rintro e w1 ⟨rfl, hR1, hk⟩
    rw [HO.out]
    have HR1 := Lib.hid hR1
    have HK := Lib.hid hk
    clear hR1 hk
    go_wp2
    go_ret
    exact R1Left.stay HR1.out HK.out
  | false =>
    rw [if_neg Bool.false_ne_true]
    have hon := (rPower_on ho).2
    have hsame := rPower_same ho
    have HO := Lib.hid ho
    have HR := Lib.hid hR
    have HSAME := Lib.hid hsame
    have HON := Lib.hid hon
    clear hR ho hsame hon
    rcases dfind_dget r.dir k with ⟨g1, g2⟩ | ⟨i, ⟨pn, j⟩, g0, g1, g2⟩
    · rw [g1]
      have G2 := Lib.hid g2
      clear g1 g2
      unfold at0
      go_enter Tryz.func98, Tryz.ntmps98
      go_wp2_with fail
      refine (r1power_any w F b r HR.out).mono ?_
      rintro e w1 ⟨rfl, hR1, hk⟩
      rw [HO.out]
      rw [HSAME.out] at hR1
      obtain ⟨A, c, k2, hd⟩ := hR1.dirCell
      have HR1 := Lib.hid hR1
      have HK := Lib.hid hk
      have HD := Lib.hid hd
      clear hR1 hk hd
      go_wp2_with fail
      refine (r1find_is w1 A _ c r.dir HD.out k G2.out).mono ?_
      rintro e w2 ⟨rfl, hw⟩
      rw [hw]
      clear hw
      go_wp2
      go_ret
      exact R1Left.stay HR1.out HK.out
    · rw [g1]
      have G2 := Lib.hid g2
      have hni : ¬ ((i : Int) < 0) := by omega
      have hin := (List.getElem?_eq_some_iff.1 g0).1
      have hj := HR.out.wf.fdir _ (List.mem_of_getElem? g0)
      simp only at hj
      obtain ⟨x, hx⟩ : ∃ x, r.ino[j]? = some x := ⟨_, List.getElem?_eq_getElem hj⟩
      have G0 := Lib.hid g0
      have HX := Lib.hid hx
      have hxl := (HR.out.wf.fit x (List.mem_of_getElem? hx)).2
      simp only [show rDat r j = x.1 from rDat_at hx, show ((r.ino[j]?).map (·.2)).getD 0 = x.2 by rw [hx]; rfl]
      clear g0 g1 g2 hx
      obtain ⟨m, hm⟩ : ∃ m, m = x.1.length := ⟨_, rfl⟩
      obtain ⟨U, hU⟩ : ∃ U, U = rSum r r.dir := ⟨_, rfl⟩
      have hsum := rSum_le HR.out.wf r.dir
      rw [← hU] at hsum ⊢
      rw [← hm] at hxl ⊢
      rw [HBL.out]
      have HM := Lib.hid hm
      have HU := Lib.hid hU
      have hsb1 : IntKind.i64.wrap (262144 - (m : Int)) = 262144 - (m : Int) := IntWalk.i64_in _ (by omega)
      have hroom0 := HR.out.wf.room
      have hndir0 := HR.out.wf.ndir
      have hsb2 : IntKind.i64.wrap ((r.room : Int) - (U : Int)) = (r.room : Int) - (U : Int) := IntWalk.i64_in _ (by omega)
      clear hm hU hsum
      by_cases hbig : 262144 < nb + m
      · rw [if_pos hbig]
        have hbz : 262144 - (m : Int) < (nb : Int) := by omega
        unfold at0
        go_enter Tryz.func98, Tryz.ntmps98
        go_wp2_with fail
        refine (r1power_any w F b r HR.out).mono ?_
        rintro e w1 ⟨rfl, hR1, hk⟩
        rw [HO.out]
        rw [HSAME.out] at hR1
        obtain ⟨G, vi, vc, A, c, B, cb, svs, h, hF, hlt⟩ := hR1
        have k0 := h.blk.cell 0
        have k1 := h.blk.cell 1
        have k2 := h.blk.cell 2
        simp at k0 k1 k2
        obtain ⟨ad, p', rfl, hp', d1, d2⟩ := h.dir.at i hin
        rw [G0.out] at hp'
        cases hp'
        simp only at d2
        obtain ⟨gi, cap, D, cd, rfl, hsv, e1, e2, e3, e4, e5⟩ := h.inode HX.out
        have hroom := h.wf.room
        have hndir := h.wf.ndir
        have H := Lib.hid h
        have HK := Lib.hid hk
        have HF := Lib.hid hF
        have HLT := Lib.hid hlt
        have HD := Lib.hid h.dir
        have HSV := Lib.hid hsv
        have hgb : gi ≠ b := fun e => own_blk_ne h.ino h.blk (by decide) (by rw [e]; rfl)
        have p0 : (0 : Int) ≤ (i : Int) := by omega
        have p1 : (i : Int) < (r.dir.length : Int) := by omega
        have q0 : (0 : Int) ≤ (j : Int) := by omega
        have q1 : (j : Int) < (r.ino.length : Int) := by omega
        rw [← HM.out] at e1 e4 e5
        have HE4 := Lib.hid e4
        have HE5 := Lib.hid e5
        clear h hk hF hlt hsv e3 e4 e5 d1
        go_wp2_with fail
        refine (r1find_is w1 (some ad) _ c r.dir HD.out k G2.out).mono ?_
        rintro e w2 ⟨rfl, hw⟩
        rw [hw]
        clear hw
        go_wp2
        go_ret
        exact R1Left.stay ⟨G, _, vc, some ad, c, B, cb, svs, H.out, HF.out, HLT.out⟩ HK.out
      rw [if_neg hbig]
      have hbz : ¬ (262144 - (m : Int) < (nb : Int)) := by omega
      by_cases hfull : r.room < nb + U
      · rw [if_pos hfull]
        have hfz : (r.room : Int) - (U : Int) < (nb : Int) := by omega
        unfold at0
        go_enter Tryz.func98, Tryz.ntmps98
        go_wp2_with fail
        refine (r1power_any w F b r HR.out).mono ?_
        rintro e w1 ⟨rfl, hR1, hk⟩
        rw [HO.out]
        rw [HSAME.out] at hR1
        obtain ⟨G, vi, vc, A, c, B, cb, svs, h, hF, hlt⟩ := hR1
        have k0 := h.blk.cell 0
        have k1 := h.blk.cell 1
        have k2 := h.blk.cell 2
        simp at k0 k1 k2
        obtain ⟨ad, p', rfl, hp', d1, d2⟩ := h.dir.at i hin
        rw [G0.out] at hp'
        cases hp'
        simp only at d2
        obtain ⟨gi, cap, D, cd, rfl, hsv, e1, e2, e3, e4, e5⟩ := h.inode HX.out
        have hroom := h.wf.room
        have hndir := h.wf.ndir
        have H := Lib.hid h
        have HK := Lib.hid hk
        have HF := Lib.hid hF
        have HLT := Lib.hid hlt
        have HD := Lib.hid h.dir
        have HSV := Lib.hid hsv
        have hgb : gi ≠ b := fun e => own_blk_ne h.ino h.blk (by decide) (by rw [e]; rfl)
        have p0 : (0 : Int) ≤ (i : Int) := by omega
        have p1 : (i : Int) < (r.dir.length : Int) := by omega
        have q0 : (0 : Int) ≤ (j : Int) := by omega
        have q1 : (j : Int) < (r.ino.length : Int) := by omega
        rw [← HM.out] at e1 e4 e5
        have HE4 := Lib.hid e4
        have HE5 := Lib.hid e5
        clear h hk hF hlt hsv e3 e4 e5 d1
        go_wp2_with fail
        refine (r1find_is w1 (some ad) _ c r.dir HD.out k G2.out).mono ?_
        rintro e w2 ⟨rfl, hw⟩
        rw [hw]
        clear hw
        go_wp2_with fail
        refine (r1Used_any w1 F b r ⟨G, _, vc, some ad, c, B, cb, svs, H.out, HF.out, HLT.out⟩).mono ?_
        rintro e w2 ⟨rfl, q, hw⟩
        rw [← HU.out]
        have h2 : IsR1 w2 b G r (.slice (some ⟨gi, 0, none⟩) r.ino.length cap) vc (some ad) c B cb svs := by rw [hw]; exact H.out.same (fun _ _ => rfl) (Nat.le_refl _)
        have hk2 : Kept (fun i => i = b) w w2 := by rw [hw]; exact HK.out.drewN q
        have hsz2 : w1.heap.size = w2.heap.size := by rw [hw]; rfl
        have hlt2 : ∀ i, F i → i < w2.heap.size := fun i hi => by rw [← hsz2]; exact HLT.out i hi
        have j0 : w2.cell? ⟨b, 0, none⟩ = some (.int .i64 r.room) := by simpa using h2.blk.cell 0
        have j1 : w2.cell? ⟨b, 1, none⟩ = some (.slice (some ⟨gi, 0, none⟩) r.ino.length cap) := by simpa using h2.blk.cell 1
        have f1 : w2.cell? ⟨gi, j * 2, none⟩ = some (.slice D m cd) := by rw [hw]; exact e1
        have H2 := Lib.hid h2
        have HK2 := Lib.hid hk2
        have HLT2 := Lib.hid hlt2
        clear hw h2 hk2 hsz2 hlt2 H HK HLT HD k0 k1 k2 d2 e1
        go_wp2
        go_ret
        exact R1Left.stay ⟨G, _, vc, some ad, c, B, cb, svs, H2.out, HF.out, HLT2.out⟩ HK2.out
      rw [if_neg hfull]
      have hfz : ¬ ((r.room : Int) - (U : Int) < (nb : Int)) := by omega
      unfold at0
      go_enter Tryz.func98, Tryz.ntmps98
      go_wp2_with fail
      refine (r1power_any w F b r HR.out).mono ?_
      rintro e w1 ⟨rfl, hR1, hk⟩
      rw [HO.out]
      rw [HSAME.out] at hR1
      obtain ⟨G, vi, vc, A, c, B, cb, svs, h, hF, hlt⟩ := hR1
      have k0 := h.blk.cell 0
      have k1 := h.blk.cell 1
      have k2 := h.blk.cell 2
      simp at k0 k1 k2
      obtain ⟨ad, p', rfl, hp', d1, d2⟩ := h.dir.at i hin
      rw [G0.out] at hp'
      cases hp'
      simp only at d2
      obtain ⟨gi, cap, D, cd, rfl, hsv, e1, e2, e3, e4, e5⟩ := h.inode HX.out
      have hroom := h.wf.room
      have hndir := h.wf.ndir
      have H := Lib.hid h
      have HK := Lib.hid hk
      have HF := Lib.hid hF
      have HLT := Lib.hid hlt
      have HD := Lib.hid h.dir
      have HSV := Lib.hid hsv
      have hgb : gi ≠ b := fun e => own_blk_ne h.ino h.blk (by decide) (by rw [e]; rfl)
      have p0 : (0 : Int) ≤ (i : Int) := by omega
      have p1 : (i : Int) < (r.dir.length : Int) := by omega
      have q0 : (0 : Int) ≤ (j : Int) := by omega
      have q1 : (j : Int) < (r.ino.length : Int) := by omega
      rw [← HM.out] at e1 e4 e5
      have HE4 := Lib.hid e4
      have HE5 := Lib.hid e5
      clear h hk hF hlt hsv e3 e4 e5 d1
      go_wp2_with fail
      refine (r1find_is w1 (some ad) _ c r.dir HD.out k G2.out).mono ?_
      rintro e w2 ⟨rfl, hw⟩
      rw [hw]
      clear hw
      go_wp2_with fail
      refine (r1Used_any w1 F b r ⟨G, _, vc, some ad, c, B, cb, svs, H.out, HF.out, HLT.out⟩).mono ?_
      rintro e w2 ⟨rfl, q, hw⟩
      rw [← HU.out]
      have h2 : IsR1 w2 b G r (.slice (some ⟨gi, 0, none⟩) r.ino.length cap) vc (some ad) c B cb svs := by rw [hw]; exact H.out.same (fun _ _ => rfl) (Nat.le_refl _)
      have hk2 : Kept (fun i => i = b) w w2 := by rw [hw]; exact HK.out.drewN q
      have hsz2 : w1.heap.size = w2.heap.size := by rw [hw]; rfl
      have hlt2 : ∀ i, F i → i < w2.heap.size := fun i hi => by rw [← hsz2]; exact HLT.out i hi
      have j0 : w2.cell? ⟨b, 0, none⟩ = some (.int .i64 r.room) := by simpa using h2.blk.cell 0
      have j1 : w2.cell? ⟨b, 1, none⟩ = some (.slice (some ⟨gi, 0, none⟩) r.ino.length cap) := by simpa using h2.blk.cell 1
      have f1 : w2.cell? ⟨gi, j * 2, none⟩ = some (.slice D m cd) := by rw [hw]; exact e1
      have H2 := Lib.hid h2
      have HK2 := Lib.hid hk2
      have HLT2 := Lib.hid hlt2
      clear hw h2 hk2 hsz2 hlt2 H HK HLT HD k0 k1 k2 d2 e1
      have hE2 : BytesIn w2 D m x.1 := by
        obtain ⟨gi', cap', D', cd', _, hsv', f1, _, _, f4, _⟩ := H2.out.inode HX.out
        rw [HSV.out] at hsv'
        cases hsv'
        rw [HM.out]
        exact f4
      have HIN0 := Lib.hid hE2
      have HIB := Lib.hid (bytes_keep' HBS.out (fun ad e h0 => HK2.out.block _ (HBS.out.2.2 ad e h0) (fun h => hAb ad e h0 (by rw [show ad.block = b from h]; exact hb))) HK2.out.size)
      have ez := H2.out.ino.frozenAt (j * 2)
      clear hE2
      obtain ⟨i0, hi, hz0, hz1, hz2⟩ := info_parts byteInfo
      go_wp2_with fail
      refine wp_region_held_drew (S := fun w' => w'.cell? ⟨b, 1, none⟩ = some (.slice (some ⟨gi, 0, none⟩) r.ino.length cap)) (by kernel_rfl) j1 (fun hHeld => ?_)
      refine wpAnyH_take (i := 0) (oi := ?oi0) (v := ?v0) ?hi0 (by kernel_rfl) (by kernel_rfl) (by kernel_rfl) ?hQ0 (Or.inl ⟨?hw0, ?hy0⟩) (by assumption) ?rest0
      case hi0 => (first | (simp only [List.getElem?_toArray, List.getElem?_cons_zero, List.getElem?_cons_succ]; rfl) | rfl)
      case hQ0 => exact fun _ _ _ h => h
      case hw0 => rfl
      case hy0 => ((intro w hSw; go_simp); first | done | with_reducible rfl)
      try simp only [Act.put, List.setIfInBounds_toArray, List.set_cons_zero, List.set_cons_succ]
      refine wpAnyH_take (i := 1) (oi := ?oi1) (v := ?v1) ?hi1 (by kernel_rfl) (by kernel_rfl) (by kernel_rfl) ?hQ1 (Or.inl ⟨?hw1, ?hy1⟩) (by assumption) ?rest1
      case hi1 => (first | (simp only [List.getElem?_toArray, List.getElem?_cons_zero, List.getElem?_cons_succ]; rfl) | rfl)
      case hQ1 => exact fun _ _ _ h => h
      case hw1 => rfl
      case hy1 => ((intro w hSw; go_simp); first | done | with_reducible rfl)
      try simp only [Act.put, List.setIfInBounds_toArray, List.set_cons_zero, List.set_cons_succ]
      refine wpAnyH_take (i := 2) (oi := ?oi2) (v := ?v2) ?hi2 (by kernel_rfl) (by kernel_rfl) (by kernel_rfl) ?hQ2 (Or.inl ⟨?hw2, ?hy2⟩) (by assumption) ?rest2
      case hi2 => (first | (simp only [List.getElem?_toArray, List.getElem?_cons_zero, List.getElem?_cons_succ]; rfl) | rfl)
      case hQ2 => exact fun _ _ _ h => h
      case hw2 => rfl
      case hy2 => ((intro w hSw; go_simp); first | done | with_reducible rfl)
      try simp only [Act.put, List.setIfInBounds_toArray, List.set_cons_zero, List.set_cons_succ]
      refine wpAnyH_take (i := 3) (oi := ?oi3) (v := ?v3) ?hi3 (by kernel_rfl) (by kernel_rfl) (by kernel_rfl) ?hQ3 (Or.inl ⟨?hw3, ?hy3⟩) (by assumption) ?rest3
      case hi3 => (first | (simp only [List.getElem?_toArray, List.getElem?_cons_zero, List.getElem?_cons_succ]; rfl) | rfl)
      case hQ3 => exact fun _ _ _ h => h
      case hw3 => rfl
      case hy3 => ((intro w hSw; go_simp); first | done | with_reducible rfl)
      try simp only [Act.put, List.setIfInBounds_toArray, List.set_cons_zero, List.set_cons_succ]
      refine wpAnyH_take (i := 4) (oi := ?oi4) (v := ?v4) ?hi4 (by kernel_rfl) (by kernel_rfl) (by kernel_rfl) ?hQ4 (Or.inl ⟨?hw4, ?hy4⟩) (by assumption) ?rest4
      case hi4 => (first | (simp only [List.getElem?_toArray, List.getElem?_cons_zero, List.getElem?_cons_succ]; rfl) | rfl)
      case hQ4 => exact fun _ _ _ h => h
      case hw4 => rfl
      case hy4 => ((intro w hSw; go_simp); first | done | with_reducible rfl)
      try simp only [Act.put, List.setIfInBounds_toArray, List.set_cons_zero, List.set_cons_succ]
      refine wpAnyH_take (i := 6) (oi := ?oi6) (v := ?v6) ?hi6 (by kernel_rfl) (by kernel_rfl) (by kernel_rfl) ?hQ6 (Or.inl ⟨?hw6, ?hy6⟩) (by assumption) ?rest6
      case hi6 => (first | (simp only [List.getElem?_toArray, List.getElem?_cons_zero, List.getElem?_cons_succ]; rfl) | rfl)
      case hQ6 => exact fun _ _ _ h => h
      case hw6 => rfl
      case hy6 => ((intro w hSw; go_simp); first | done | with_reducible rfl)
      try simp only [Act.put, List.setIfInBounds_toArray, List.set_cons_zero, List.set_cons_succ]
      refine wpAnyH_take (i := 7) (oi := ?oi7) (v := ?v7) ?hi7 (by kernel_rfl) (by kernel_rfl) (by kernel_rfl) ?hQ7 (Or.inl ⟨?hw7, ?hy7⟩) (by assumption) ?rest7
      case hi7 => (first | (simp only [List.getElem?_toArray, List.getElem?_cons_zero, List.getElem?_cons_succ]; rfl) | rfl)
      case hQ7 => exact fun _ _ _ h => h
      case hw7 => rfl
      case hy7 => ((intro w hSw; go_simp); first | done | with_reducible rfl)
      try simp only [Act.put, List.setIfInBounds_toArray, List.set_cons_zero, List.set_cons_succ]
      refine wpAnyH_take (i := 8) (oi := ?oi8) (v := ?v8) ?hi8 (by kernel_rfl) (by kernel_rfl) (by kernel_rfl) ?hQ8 (Or.inl ⟨?hw8, ?hy8⟩) (by assumption) ?rest8
      case hi8 => (first | (simp only [List.getElem?_toArray, List.getElem?_cons_zero, List.getElem?_cons_succ]; rfl) | rfl)
      case hQ8 => exact fun _ _ _ h => h
      case hw8 => rfl
      case hy8 => ((intro w hSw; go_simp); first | done | with_reducible rfl)
      try simp only [Act.put, List.setIfInBounds_toArray, List.set_cons_zero, List.set_cons_succ]
      refine wpAnyH_take (i := 9) (oi := ?oi9) (v := ?v9) ?hi9 (by kernel_rfl) (by kernel_rfl) (by kernel_rfl) ?hQ9 (Or.inl ⟨?hw9, ?hy9⟩) (by assumption) ?rest9
      case hi9 => (first | (simp only [List.getElem?_toArray, List.getElem?_cons_zero, List.getElem?_cons_succ]; rfl) | rfl)
      case hQ9 => exact fun _ _ _ h => h
      case hw9 => rfl
      case hy9 => ((intro w hSw; go_simp); first | done | with_reducible rfl)
      try simp only [Act.put, List.setIfInBounds_toArray, List.set_cons_zero, List.set_cons_succ]
      refine wpAnyH_take (i := 10) (oi := ?oi10) (v := ?v10) ?hi10 (by kernel_rfl) (by kernel_rfl) (by kernel_rfl) ?hQ10 (Or.inl ⟨?hw10, ?hy10⟩) (by assumption) ?rest10
      case hi10 => (first | (simp only [List.getElem?_toArray, List.getElem?_cons_zero, List.getElem?_cons_succ]; rfl) | rfl)
      case hQ10 => exact fun _ _ _ h => h
      case hw10 => rfl
      case hy10 => ((intro w hSw; go_simp); first | done | with_reducible rfl)
      try simp only [Act.put, List.setIfInBounds_toArray, List.set_cons_zero, List.set_cons_succ]
      refine wpAnyH_take (i := 11) (oi := ?oi11) (v := ?v11) ?hi11 (by kernel_rfl) (by kernel_rfl) (by kernel_rfl) ?hQ11 (Or.inl ⟨?hw11, ?hy11⟩) (by assumption) ?rest11
      case hi11 => (first | (simp only [List.getElem?_toArray, List.getElem?_cons_zero, List.getElem?_cons_succ]; rfl) | rfl)
      case hQ11 => exact fun _ _ _ h => h
      case hw11 => rfl
      case hy11 => ((intro w hSw; go_simp); first | done | with_reducible rfl)
      try simp only [Act.put, List.setIfInBounds_toArray, List.set_cons_zero, List.set_cons_succ]
      refine wpAnyH_take (i := 12) (oi := ?oi12) (v := ?v12) ?hi12 (by kernel_rfl) (by kernel_rfl) (by kernel_rfl) ?hQ12 (Or.inl ⟨?hw12, ?hy12⟩) (by assumption) ?rest12
      case hi12 => (first | (simp only [List.getElem?_toArray, List.getElem?_cons_zero, List.getElem?_cons_succ]; rfl) | rfl)
      case hQ12 => exact fun _ _ _ h => h
      case hw12 => rfl
      case hy12 => ((intro w hSw; go_simp); first | done | with_reducible rfl)
      try simp only [Act.put, List.setIfInBounds_toArray, List.set_cons_zero, List.set_cons_succ]
      refine wpAnyH_take (i := 15) (oi := ?oi15) (v := ?v15) ?hi15 (by kernel_rfl) (by kernel_rfl) (by kernel_rfl) ?hQ15 (Or.inl ⟨?hw15, ?hy15⟩) (by assumption) ?rest15
      case hi15 => (first | (simp only [List.getElem?_toArray, List.getElem?_cons_zero, List.getElem?_cons_succ]; rfl) | rfl)
      case hQ15 => exact fun _ _ _ h => h
      case hw15 => rfl
      case hy15 => ((intro w hSw; go_simp); first | done | with_reducible rfl)
      try simp only [Act.put, List.setIfInBounds_toArray, List.set_cons_zero, List.set_cons_succ]
      refine wpAnyH_ready (rs := [5, 13]) (by kernel_rfl) (by simp) ?_
      have hA0 := (Below.refl w2.heap.size w2).alloc (Nat.le_refl _) (.cells #[] 5)
      have HIN := Lib.hid (HIN0.out.below hA0).drew
      have j1b : (w2.alloc (.cells #[] 5)).drew.cell? ⟨b, 1, none⟩ = some (.slice (some ⟨gi, 0, none⟩) r.ino.length cap) := below_cells hA0 j1
      have f1b : (w2.alloc (.cells #[] 5)).drew.cell? ⟨gi, j * 2, none⟩ = some (.slice D m cd) := below_cells hA0 f1
      clear hA0
      refine AllReadyH.cons (o := ?oP) ?hiP ?stepP (AllReadyH.cons (o := ?oQ) ?hiQ ?stepQ AllReadyH.nil)
      case hiP => (simp only [List.getElem?_toArray, List.getElem?_cons_zero, List.getElem?_cons_succ]; rfl)
      case hiQ => (simp only [List.getElem?_toArray, List.getElem?_cons_zero, List.getElem?_cons_succ]; rfl)
      case stepP =>
        intro K hK
        go_simp
        refine hK.out _ _ j1b (fun hHeldA => ?_)
        clear hK K
        try simp only [Act.put, List.setIfInBounds_toArray, List.set_cons_zero, List.set_cons_succ]
        refine wpAnyH_ready (rs := [13]) (by kernel_rfl) (by simp) ?_
        refine AllReadyH.cons (o := ?oPA) ?hiPA ?stepPA AllReadyH.nil
        case hiPA => (simp only [List.getElem?_toArray, List.getElem?_cons_zero, List.getElem?_cons_succ]; rfl)
        intro K hK
        go_simp
        refine hK.out _ _ hHeldA (fun hHeldB => ?_)
        clear hK K
        try simp only [Act.put, List.setIfInBounds_toArray, List.set_cons_zero, List.set_cons_succ]
        refine wpAnyH_ready (rs := [14]) (by kernel_rfl) (by simp) ?_
        refine AllReadyH.cons (o := ?opB) ?hipB ?steppB AllReadyH.nil
        case hipB => (simp only [List.getElem?_toArray, List.getElem?_cons_zero, List.getElem?_cons_succ]; rfl)
        intro K hK
        refine step_append_src _ rfl (.tmp 60) (.tmp 68) 25 rfl w2.heap.size 5 i0 (.int .u8 0) 1 Tryz.underlying25 hi hz0 hz1 hz2 rfl (.slice (some ⟨w2.heap.size, 0, none⟩) 0 0) 0 [] rfl (World.ownsRow_made w2 #[] 0 (Nat.le_refl _) (Nat.zero_le _) rfl) D m cd (x.1.map byteV) rfl HIN.out.2.1 (u8_one _) (by unfold maxLen; omega) (by omega) (by simp) ?_
        intro v3 w3 hown hgrow hloc
        obtain ⟨A3, c3, rfl⟩ := own_slice hown
        rw [Nat.zero_add, List.nil_append] at hown
        rw [Nat.zero_add]
        have HB3 : Hid (Below w2.heap.size w2 w3) := Lib.hid ((((Below.refl _ w2).alloc (Nat.le_refl _) (.cells #[] 5)).drew).grown hgrow (by simp) (fun k e => by cases e; exact Nat.le_refl _))
        have HO3 := Lib.hid hown
        have HI3 := Lib.hid (HIB.out.below HB3.out)
        clear hown hgrow hloc
        refine hK.out _ _ (below_cells HB3.out j1) (fun hHeldC => ?_)
        clear hK K
        try simp only [Act.put, List.setIfInBounds_toArray, List.set_cons_zero, List.set_cons_succ]
        refine wpAnyH_ready (rs := [16]) (by kernel_rfl) (by simp) ?_
        refine AllReadyH.cons (o := ?opC) ?hipC ?steppC AllReadyH.nil
        case hipC => (simp only [List.getElem?_toArray, List.getElem?_cons_zero, List.getElem?_cons_succ]; rfl)
        intro K hK
        refine step_append_src _ rfl (.tmp 69) (.tmp 70) 25 rfl w2.heap.size 5 i0 (.int .u8 0) 1 Tryz.underlying25 hi hz0 hz1 hz2 rfl (.slice A3 m c3) m (x.1.map byteV) rfl HO3.out Ab nb cb' (bs.map byteV) rfl HI3.out.2.1 (u8_one _) (by unfold maxLen; omega) (by omega) HB3.out.size ?_
        intro v4 w4 hown hgrow hloc
        obtain ⟨A4, c4, rfl⟩ := own_slice hown
        have HB4 := Lib.hid (HB3.out.grown hgrow HB3.out.size (fun g hg => (HO3.out.lt g hg).1))
        rw [← List.map_append] at hown
        have HO4 := Lib.hid hown
        clear hown hgrow hloc
        refine hK.out _ _ (below_cells HB4.out j1) (fun hHeldD => ?_)
        clear hK K
        try simp only [Act.put, List.setIfInBounds_toArray, List.set_cons_zero, List.set_cons_succ]
        refine wpAnyH_take (i := 17) (oi := ?oip17) (v := ?vp17) ?hip17 (by kernel_rfl) (by kernel_rfl) (by kernel_rfl) ?hQp17 (Or.inl ⟨?hwp17, ?hyp17⟩) (by assumption) ?restp17
        case hip17 => (first | (simp only [List.getElem?_toArray, List.getElem?_cons_zero, List.getElem?_cons_succ]; rfl) | rfl)
        case hQp17 => exact fun _ _ _ h => h
        case hwp17 => rfl
        case hyp17 => ((intro w hSw; go_simp); first | done | with_reducible rfl)
        try simp only [Act.put, List.setIfInBounds_toArray, List.set_cons_zero, List.set_cons_succ]
        refine wpAnyH_take (i := 18) (oi := ?oip18) (v := ?vp18) ?hip18 (by kernel_rfl) (by kernel_rfl) (by kernel_rfl) ?hQp18 (Or.inl ⟨?hwp18, ?hyp18⟩) (by assumption) ?restp18
        case hip18 => (first | (simp only [List.getElem?_toArray, List.getElem?_cons_zero, List.getElem?_cons_succ]; rfl) | rfl)
        case hQp18 => exact fun _ _ _ h => h
        case hwp18 => rfl
        case hyp18 => ((intro w hSw; go_simp); first | done | with_reducible rfl)
        try simp only [Act.put, List.setIfInBounds_toArray, List.set_cons_zero, List.set_cons_succ]
        have o4 := ownsRow_block H2.out.ino fun g hg => HB4.out.block g (H2.out.ino.lt g hg).2
        have n1 := below_cells HB4.out f1
        have n1z := o4.frozenAt (j * 2)
        have HOI := Lib.hid o4
        clear o4
        refine wpAnyH_ready (rs := [19]) (by kernel_rfl) (by simp) ?_
        refine AllReadyH.cons (o := ?opD) ?hipD ?steppD AllReadyH.nil
        case hipD => (simp only [List.getElem?_toArray, List.getElem?_cons_zero, List.getElem?_cons_succ]; rfl)
        intro K hK
        go_simp
        refine hK.out _ _ ((World.cell?_of_block (a := ⟨b, 1, none⟩) (heap_setCell_other w4 ⟨gi, j * 2, none⟩ (.slice A4 (m + nb) c4) (by show b ≠ gi; exact fun e => hgb e.symm))).trans (below_cells HB4.out j1)) (fun hHeldE => ?_)
        clear hK K
        try simp only [Act.put, List.setIfInBounds_toArray, List.set_cons_zero, List.set_cons_succ]
        refine wpAnyH_done (by kernel_rfl) ?_ _
        have hgl : gi < w2.heap.size := (H2.out.ino.lt gi rfl).2
        have hs4 := HB4.out.size
        have hcap4 : m + nb ≤ c4 := by
          obtain ⟨A', c', q1, q2⟩ := own_cap HO4.out
          injection q1 with _ _ q3
          omega
        have hxb : (x.1 ++ bs).length = m + nb := by rw [List.length_append, ← HM.out, HBL.out]
        have hb5 : ∀ i, i ≠ gi → (w4.setCell ⟨gi, j * 2, none⟩ (.slice A4 (m + nb) c4)).heap[i]? = w4.heap[i]? := fun i h1 => heap_setCell_other w4 ⟨gi, j * 2, none⟩ _ h1
        have hin4 : BytesIn (w4.setCell ⟨gi, j * 2, none⟩ (.slice A4 (m + nb) c4)) A4 (m + nb) (x.1 ++ bs) := bytes_keep' (BytesIn.own HO4.out (by unfold maxLen; omega)) (fun ad e h0 => hb5 _ (fun e2 => by have := (HO4.out.lt ad.block (by rw [e]; rfl)).1; omega)) (by simp [World.setCell])
        have hI4 := H2.out.inos (w' := w4.setCell ⟨gi, j * 2, none⟩ (.slice A4 (m + nb) c4)) (by simp [World.setCell]; omega) (fun i _ h2 h3 => (hb5 i (fun e => h2 (by rw [e]; rfl))).trans (HB4.out.block i h3)) (ino' := r.ino.set j (x.1 ++ bs, x.2)) (vi' := .slice (some ⟨gi, 0, none⟩) r.ino.length cap) (svs' := svs.set j (.slice A4 (m + nb) c4)) (fun i => ∃ ad, A4 = some ad ∧ 0 < m + nb ∧ i = ad.block)
          ((hb5 b (fun e => hgb e.symm)).trans ((HB4.out.block b H2.out.blk.lt).trans H2.out.blk))
          (by
            have h1 := (HOI.out.stored (j * 2) (.slice A4 (m + nb) c4)).1
            rw [inoCells_dat _ (x.1 ++ bs) r.ino svs j x H2.out.isl.symm HX.out] at h1
            rw [List.length_set]
            exact h1)
          (by rw [List.length_set, List.length_set]; exact H2.out.isl)
          (fun i sv y f1 f2 => by
            by_cases hij : i = j
            · subst hij
              rw [List.getElem?_set_self (by omega)] at f2
              rw [List.getElem?_set_self (by rw [H2.out.isl]; omega)] at f1
              cases f1
              cases f2
              refine .inr ⟨A4, c4, by rw [hxb], by rw [hxb]; exact hcap4, by rw [hxb]; exact hin4, fun ad e h0 => ⟨ad, e, by rw [hxb] at h0; exact h0, rfl⟩⟩
            · rw [List.getElem?_set_ne (fun e => hij e.symm)] at f1 f2
              exact .inl ⟨y, f1, f2, rfl⟩)
          (fun i ⟨ad, q1, q2, q3⟩ => by
            have h1 := HO4.out.lt ad.block (by rw [q1]; rfl)
            rw [q3]
            refine ⟨h1.1, by simpa [World.setCell] using h1.2, fun e => ?_⟩
            have : gi = ad.block := by simpa [Value.ownBlock] using e
            omega)
          (.inl rfl)
          { H2.out.wf with
            nino := by rw [List.length_set]; exact H2.out.wf.nino
            fdir := fun p hp => by rw [List.length_set]; exact H2.out.wf.fdir p hp
            fold := fun p hp => by rw [List.length_set]; exact H2.out.wf.fold p hp
            fchs := fun c hc => by rw [List.length_set]; exact H2.out.wf.fchs c hc
            fit := fun y hy => by
              rcases List.mem_or_eq_of_mem_set hy with h1 | h1
              · exact H2.out.wf.fit y h1
              · have h3 := (H2.out.wf.fit x (List.mem_of_getElem? HX.out)).1
                rw [h1]
                refine ⟨?_, ?_⟩
                · show x.2 ≤ (x.1 ++ bs).length
                  rw [hxb]
                  have := HM.out
                  omega
                · show (x.1 ++ bs).length ≤ _
                  rw [hxb]
                  omega }
        have hR4 := hI4.inosAt (r := r) (svs := svs) (w := w2) HF.out HLT2.out (by simp [World.setCell]; omega) (fun i ⟨ad, q1, q2, q3⟩ => by
            have h1 := HO4.out.lt ad.block (by rw [q1]; rfl)
            rw [q3]
            exact ⟨h1.1, by simpa [World.setCell] using h1.2⟩) (.inl rfl)
        have hk4 : Kept F w2 (w4.setCell ⟨gi, j * 2, none⟩ (.slice A4 (m + nb) c4)) := (Kept.below (F := F) HB4.out).setCell (.inl (HF.out gi (.inr (.inl rfl)))) _
        have HR4 := Lib.hid hR4
        have HK4 := Lib.hid hk4
        clear hI4 hR4 hk4 hin4 hb5
        go_wp2_with fail
        refine (r1did_any _ _ b _ HR4.out hdn HON.out).mono ?_
        rintro e w5 ⟨rfl, hR5, hK5⟩
        have HL5 := Lib.hid (R1Left.later (R1Left.after (R1Left.stay (n := 0) hR5 hK5) HK4.out) hb HK2.out)
        clear hR5 hK5
        go_wp2
        go_ret
        exact HL5.out
      case stepQ =>
        intro K hK
        go_simp
        refine hK.out _ _ hHeld (fun hHeldA => ?_)
        clear hK K
        try simp only [Act.put, List.setIfInBounds_toArray, List.set_cons_zero, List.set_cons_succ]
        refine wpAnyH_ready (rs := [5]) (by kernel_rfl) (by simp) ?_
        refine AllReadyH.cons (o := ?oQA) ?hiQA ?stepQA AllReadyH.nil
        case hiQA => (simp only [List.getElem?_toArray, List.getElem?_cons_zero, List.getElem?_cons_succ]; rfl)
        intro K hK
        go_simp
        refine hK.out _ _ j1b (fun hHeldB => ?_)
        clear hK K
        try simp only [Act.put, List.setIfInBounds_toArray, List.set_cons_zero, List.set_cons_succ]
        refine wpAnyH_ready (rs := [14]) (by kernel_rfl) (by simp) ?_
        refine AllReadyH.cons (o := ?oqB) ?hiqB ?stepqB AllReadyH.nil
        case hiqB => (simp only [List.getElem?_toArray, List.getElem?_cons_zero, List.getElem?_cons_succ]; rfl)
        intro K hK
        refine step_append_src _ rfl (.tmp 60) (.tmp 68) 25 rfl w2.heap.size 5 i0 (.int .u8 0) 1 Tryz.underlying25 hi hz0 hz1 hz2 rfl (.slice (some ⟨w2.heap.size, 0, none⟩) 0 0) 0 [] rfl (World.ownsRow_made w2 #[] 0 (Nat.le_refl _) (Nat.zero_le _) rfl) D m cd (x.1.map byteV) rfl HIN.out.2.1 (u8_one _) (by unfold maxLen; omega) (by omega) (by simp) ?_
        intro v3 w3 hown hgrow hloc
        obtain ⟨A3, c3, rfl⟩ := own_slice hown
        rw [Nat.zero_add, List.nil_append] at hown
        rw [Nat.zero_add]
        have HB3 : Hid (Below w2.heap.size w2 w3) := Lib.hid ((((Below.refl _ w2).alloc (Nat.le_refl _) (.cells #[] 5)).drew).grown hgrow (by simp) (fun k e => by cases e; exact Nat.le_refl _))
        have HO3 := Lib.hid hown
        have HI3 := Lib.hid (HIB.out.below HB3.out)
        clear hown hgrow hloc
        refine hK.out _ _ (below_cells HB3.out j1) (fun hHeldC => ?_)
        clear hK K
        try simp only [Act.put, List.setIfInBounds_toArray, List.set_cons_zero, List.set_cons_succ]
        refine wpAnyH_ready (rs := [16]) (by kernel_rfl) (by simp) ?_
        refine AllReadyH.cons (o := ?oqC) ?hiqC ?stepqC AllReadyH.nil
        case hiqC => (simp only [List.getElem?_toArray, List.getElem?_cons_zero, List.getElem?_cons_succ]; rfl)
        intro K hK
        refine step_append_src _ rfl (.tmp 69) (.tmp 70) 25 rfl w2.heap.size 5 i0 (.int .u8 0) 1 Tryz.underlying25 hi hz0 hz1 hz2 rfl (.slice A3 m c3) m (x.1.map byteV) rfl HO3.out Ab nb cb' (bs.map byteV) rfl HI3.out.2.1 (u8_one _) (by unfold maxLen; omega) (by omega) HB3.out.size ?_
        intro v4 w4 hown hgrow hloc
        obtain ⟨A4, c4, rfl⟩ := own_slice hown
        have HB4 := Lib.hid (HB3.out.grown hgrow HB3.out.size (fun g hg => (HO3.out.lt g hg).1))
        rw [← List.map_append] at hown
        have HO4 := Lib.hid hown
        clear hown hgrow hloc
        refine hK.out _ _ (below_cells HB4.out j1) (fun hHeldD => ?_)
        clear hK K
        try simp only [Act.put, List.setIfInBounds_toArray, List.set_cons_zero, List.set_cons_succ]
        refine wpAnyH_take (i := 17) (oi := ?oiq17) (v := ?vq17) ?hiq17 (by kernel_rfl) (by kernel_rfl) (by kernel_rfl) ?hQq17 (Or.inl ⟨?hwq17, ?hyq17⟩) (by assumption) ?restq17
        case hiq17 => (first | (simp only [List.getElem?_toArray, List.getElem?_cons_zero, List.getElem?_cons_succ]; rfl) | rfl)
        case hQq17 => exact fun _ _ _ h => h
        case hwq17 => rfl
        case hyq17 => ((intro w hSw; go_simp); first | done | with_reducible rfl)
        try simp only [Act.put, List.setIfInBounds_toArray, List.set_cons_zero, List.set_cons_succ]
        refine wpAnyH_take (i := 18) (oi := ?oiq18) (v := ?vq18) ?hiq18 (by kernel_rfl) (by kernel_rfl) (by kernel_rfl) ?hQq18 (Or.inl ⟨?hwq18, ?hyq18⟩) (by assumption) ?restq18
        case hiq18 => (first | (simp only [List.getElem?_toArray, List.getElem?_cons_zero, List.getElem?_cons_succ]; rfl) | rfl)
        case hQq18 => exact fun _ _ _ h => h
        case hwq18 => rfl
        case hyq18 => ((intro w hSw; go_simp); first | done | with_reducible rfl)
        try simp only [Act.put, List.setIfInBounds_toArray, List.set_cons_zero, List.set_cons_succ]
        have o4 := ownsRow_block H2.out.ino fun g hg => HB4.out.block g (H2.out.ino.lt g hg).2
        have n1 := below_cells HB4.out f1
        have n1z := o4.frozenAt (j * 2)
        have HOI := Lib.hid o4
        clear o4
        refine wpAnyH_ready (rs := [19]) (by kernel_rfl) (by simp) ?_
        refine AllReadyH.cons (o := ?oqD) ?hiqD ?stepqD AllReadyH.nil
        case hiqD => (simp only [List.getElem?_toArray, List.getElem?_cons_zero, List.getElem?_cons_succ]; rfl)
        intro K hK
        go_simp
        refine hK.out _ _ ((World.cell?_of_block (a := ⟨b, 1, none⟩) (heap_setCell_other w4 ⟨gi, j * 2, none⟩ (.slice A4 (m + nb) c4) (by show b ≠ gi; exact fun e => hgb e.symm))).trans (below_cells HB4.out j1)) (fun hHeldE => ?_)
        clear hK K
        try simp only [Act.put, List.setIfInBounds_toArray, List.set_cons_zero, List.set_cons_succ]
        refine wpAnyH_done (by kernel_rfl) ?_ _
        have hgl : gi < w2.heap.size := (H2.out.ino.lt gi rfl).2
        have hs4 := HB4.out.size
        have hcap4 : m + nb ≤ c4 := by
          obtain ⟨A', c', q1, q2⟩ := own_cap HO4.out
          injection q1 with _ _ q3
          omega
        have hxb : (x.1 ++ bs).length = m + nb := by rw [List.length_append, ← HM.out, HBL.out]
        have hb5 : ∀ i, i ≠ gi → (w4.setCell ⟨gi, j * 2, none⟩ (.slice A4 (m + nb) c4)).heap[i]? = w4.heap[i]? := fun i h1 => heap_setCell_other w4 ⟨gi, j * 2, none⟩ _ h1
        have hin4 : BytesIn (w4.setCell ⟨gi, j * 2, none⟩ (.slice A4 (m + nb) c4)) A4 (m + nb) (x.1 ++ bs) := bytes_keep' (BytesIn.own HO4.out (by unfold maxLen; omega)) (fun ad e h0 => hb5 _ (fun e2 => by have := (HO4.out.lt ad.block (by rw [e]; rfl)).1; omega)) (by simp [World.setCell])
        have hI4 := H2.out.inos (w' := w4.setCell ⟨gi, j * 2, none⟩ (.slice A4 (m + nb) c4)) (by simp [World.setCell]; omega) (fun i _ h2 h3 => (hb5 i (fun e => h2 (by rw [e]; rfl))).trans (HB4.out.block i h3)) (ino' := r.ino.set j (x.1 ++ bs, x.2)) (vi' := .slice (some ⟨gi, 0, none⟩) r.ino.length cap) (svs' := svs.set j (.slice A4 (m + nb) c4)) (fun i => ∃ ad, A4 = some ad ∧ 0 < m + nb ∧ i = ad.block)
          ((hb5 b (fun e => hgb e.symm)).trans ((HB4.out.block b H2.out.blk.lt).trans H2.out.blk))
          (by
            have h1 := (HOI.out.stored (j * 2) (.slice A4 (m + nb) c4)).1
            rw [inoCells_dat _ (x.1 ++ bs) r.ino svs j x H2.out.isl.symm HX.out] at h1
            rw [List.length_set]
            exact h1)
          (by rw [List.length_set, List.length_set]; exact H2.out.isl)
          (fun i sv y f1 f2 => by
            by_cases hij : i = j
            · subst hij
              rw [List.getElem?_set_self (by omega)] at f2
              rw [List.getElem?_set_self (by rw [H2.out.isl]; omega)] at f1
              cases f1
              cases f2
              refine .inr ⟨A4, c4, by rw [hxb], by rw [hxb]; exact hcap4, by rw [hxb]; exact hin4, fun ad e h0 => ⟨ad, e, by rw [hxb] at h0; exact h0, rfl⟩⟩
            · rw [List.getElem?_set_ne (fun e => hij e.symm)] at f1 f2
              exact .inl ⟨y, f1, f2, rfl⟩)
          (fun i ⟨ad, q1, q2, q3⟩ => by
            have h1 := HO4.out.lt ad.block (by rw [q1]; rfl)
            rw [q3]
            refine ⟨h1.1, by simpa [World.setCell] using h1.2, fun e => ?_⟩
            have : gi = ad.block := by simpa [Value.ownBlock] using e
            omega)
          (.inl rfl)
          { H2.out.wf with
            nino := by rw [List.length_set]; exact H2.out.wf.nino
            fdir := fun p hp => by rw [List.length_set]; exact H2.out.wf.fdir p hp
            fold := fun p hp => by rw [List.length_set]; exact H2.out.wf.fold p hp
            fchs := fun c hc => by rw [List.length_set]; exact H2.out.wf.fchs c hc
            fit := fun y hy => by
              rcases List.mem_or_eq_of_mem_set hy with h1 | h1
              · exact H2.out.wf.fit y h1
              · have h3 := (H2.out.wf.fit x (List.mem_of_getElem? HX.out)).1
                rw [h1]
                refine ⟨?_, ?_⟩
                · show x.2 ≤ (x.1 ++ bs).length
                  rw [hxb]
                  have := HM.out
                  omega
                · show (x.1 ++ bs).length ≤ _
                  rw [hxb]
                  omega }
        have hR4 := hI4.inosAt (r := r) (svs := svs) (w := w2) HF.out HLT2.out (by simp [World.setCell]; omega) (fun i ⟨ad, q1, q2, q3⟩ => by
            have h1 := HO4.out.lt ad.block (by rw [q1]; rfl)
            rw [q3]
            exact ⟨h1.1, by simpa [World.setCell] using h1.2⟩) (.inl rfl)
        have hk4 : Kept F w2 (w4.setCell ⟨gi, j * 2, none⟩ (.slice A4 (m + nb) c4)) := (Kept.below (F := F) HB4.out).setCell (.inl (HF.out gi (.inr (.inl rfl)))) _
        have HR4 := Lib.hid hR4
        have HK4 := Lib.hid hk4
        clear hI4 hR4 hk4 hin4 hb5
        go_wp2_with fail
        refine (r1did_any _ _ b _ HR4.out hdn HON.out).mono ?_
        rintro e w5 ⟨rfl, hR5, hK5⟩
        have HL5 := Lib.hid (R1Left.later (R1Left.after (R1Left.stay (n := 0) hR5 hK5) HK4.out) hb HK2.out)
        clear hR5 hK5
        go_wp2
        go_ret
        exact HL5.out
end Go.Proofs.YtmhiekbpmoikfaaGreatDoor
