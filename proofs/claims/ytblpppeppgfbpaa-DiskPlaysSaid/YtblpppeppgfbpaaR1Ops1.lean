/- The document's disk: SyncDir, Remove. -/
import Derived.Test.YtblpppeppgfbpaaR1Change
namespace Go.Proofs.Ytblpppeppgfbpaa
open Go.RowKit Go.Maps Go.WideMaps

theorem r1calls_at {P : Program} {f : FuncId} {args : Array Value} {w : World} {Q : Ending → World → Prop} (h : ∀ W, W = w → Calls P f args W Q) : Calls P f args w Q := h w rfl
theorem r1find_is (w : World) (A : Option Addr) (n c : Nat) (d : Dir) (hd : DirIn w A n d) (k : Nm) {z : Int} (hz : dfind d k = z) :
    Calls Try.prog 35 #[.slice A n c, .string ⟨k.toArray⟩] w fun e w' => e = .returned (.int .i64 z) ∧ w' = w := by
  have h := r1find_any w A n c d hd ⟨k.toArray⟩
  rw [← hz]
  exact h
theorem rPower_on {r : RSt} (h : (rPower r).off = false) : r.off = false ∧ (r.fused = true → 0 < r.left) := by
  simp only [rPower, Bool.or_eq_false_iff, Bool.and_eq_false_iff] at h
  refine ⟨h.1, fun hf => ?_⟩
  rcases h.2 with h2 | h2
  · rw [hf] at h2; cases h2
  · have : r.left ≠ 0 := by simpa using h2
    omega
theorem rPower_same {r : RSt} (h : (rPower r).off = false) : rPower r = r := by
  have h1 := (rPower_on h).1
  have h2 : (rPower r).off = r.off := by rw [h, h1]
  cases r
  simp only [rPower] at h2 ⊢
  rw [h2]
theorem R1At.wf {w : World} {F : Nat → Prop} {b : Nat} {r : RSt} (h : R1At w F b r) : RWF r := by
  obtain ⟨G, vi, vc, A, c, B, cb, svs, h1, h2, h3⟩ := h
  exact h1.wf
theorem R1At.F_b {w : World} {F : Nat → Prop} {b : Nat} {r : RSt} (h : R1At w F b r) : F b := by
  obtain ⟨G, vi, vc, A, c, B, cb, svs, h1, h2, h3⟩ := h
  exact h2 b (.inl rfl)
/-- A small step of the disk's own block, then a call. -/
theorem R1Left.later {w w1 w' : World} {F : Nat → Prop} {b : Nat} {n : Int} {r' : RSt} {e : Ending} (h : R1Left w1 F b n r' e w') (hb : F b) (hk : Kept (fun i => i = b) w w1) : R1Left w F b n r' e w' := by
  obtain ⟨h1, F', h2, h3, h4⟩ := h
  exact ⟨h1, F', h2, Kept.trans (F := F) (hk.mono (fun i e => by rw [e]; exact hb)) h3 (fun i _ h => h), fun i hi => (h4 i hi).imp id (fun h => Nat.le_trans hk.size h)⟩
theorem R1Left.stay {w w1 : World} {F : Nat → Prop} {b : Nat} {n : Int} {r' : RSt} (hR : R1At w1 F b r') (hk : Kept (fun i => i = b) w w1) : R1Left w F b n r' (.returned (.int .i64 n)) w1 :=
  ⟨rfl, F, hR, hk.mono (fun i e => by rw [e]; exact hR.F_b), fun i hi => .inl hi⟩

def rSyncDir (r : RSt) : Int × RSt := if (rPower r).off then (14, rPower r) else (0, rDid { r with old := r.dir, chs := [] })
set_option maxHeartbeats 4000000 in
set_option maxRecDepth 100000 in
theorem r1SyncDir_any (w : World) (F : Nat → Prop) (b : Nat) (r : RSt) (hR : R1At w F b r) (hdn : r.done < 100000) :
    Calls Try.prog 46 #[at0 b] w (R1Left w F b (rSyncDir r).1 (rSyncDir r).2) := by
  have hb := hR.F_b
  unfold rSyncDir
  cases ho : (rPower r).off with
  | true =>
    rw [if_pos rfl]
    have HO := Lib.hid ho
    have HR := Lib.hid hR
    clear hR ho
    unfold at0
    go_enter Try.func46, Try.ntmps46
    go_wp2_with fail
    refine (r1power_any w F b r HR.out).mono ?_
    rintro e w1 ⟨rfl, hR1, hk⟩
    rw [HO.out]
    have HR1 := Lib.hid hR1
    have HK := Lib.hid hk
    clear hR1 hk
    go_wp2
    go_ret
    exact R1Left.stay HR1.out HK.out
  | false =>
    rw [if_neg Bool.false_ne_true]
    have hon := (rPower_on ho).2
    have hsame := rPower_same ho
    have HO := Lib.hid ho
    have HR := Lib.hid hR
    have HSAME := Lib.hid hsame
    clear hR ho hsame
    unfold at0
    go_enter Try.func46, Try.ntmps46
    go_wp2_with fail
    refine (r1power_any w F b r HR.out).mono ?_
    rintro e w1 ⟨rfl, hR1, hk⟩
    rw [HO.out]
    rw [HSAME.out] at hR1
    obtain ⟨G, vi, vc, A, c, B, cb, svs, h, hF, hlt⟩ := hR1
    have k2 := h.blk.cell 2
    have k3 := h.blk.cell 3
    have k4 := h.blk.cell 4
    have z3 := h.blk.frozen 3
    have z4 := h.blk.frozen 4
    simp at k2 k3 k4
    have H := Lib.hid h
    have HK := Lib.hid hk
    have HF := Lib.hid hF
    have HLT := Lib.hid hlt
    obtain ⟨Bv, cbv, hvc⟩ := own_slice h.chs
    have HVC := Lib.hid hvc
    rw [hvc] at k4
    clear h hk hF hlt hvc
    go_wp2_with fail
    refine r1calls_at ?_
    intro w2 hw2
    have hR2 : R1At w2 F b { r with old := r.dir, chs := [] } := by
      have hk2 : ∀ i, i ≠ b → w2.heap[i]? = w1.heap[i]? := fun i hi => by rw [hw2]; exact (heap_setCell_other _ _ _ hi).trans (heap_setCell_other _ _ _ hi)
      have hs2 : w1.heap.size = w2.heap.size := by rw [hw2]; simp [World.setCell]
      have h := H.out
      have h1 := h.nums (w' := w2) hk2 (Nat.le_of_eq hs2) (dn := r.done) (lf := r.left) (fu := r.fused) (of := r.off)
      have hdd : DirIn w2 A r.dir.length r.dir := h.dir.keep fun ad e h0 => hk2 _ (fun e2 => h.gb (by rw [← e2]; exact h.dirG ad e h0))
      refine ⟨G, vi, .slice none 0 0, A, c, A, c, svs, ?_, fun i hi => ?_, fun i hi => by rw [← hs2]; exact HLT.out i hi⟩
      · exact {
          wf := { h.wf with nold := h.wf.ndir, nchs := by simp, fold := h.wf.fdir, fchs := by simp }
          blk := by
            rw [hw2]
            have h2 := (h.blk.set_ 3 (.slice A r.dir.length c)).set_ 4 (.slice none 0 0)
            simpa using h2
          ino := ownsRow_block h.ino fun g hg => hk2 g (fun e => own_blk_ne h.ino h.blk (by decide) (by rw [hg, e]))
          isl := h.isl
          dat := fun i sv x e1 e2 => by
            obtain ⟨D, cd, q1, q2, q3, q4⟩ := h.dat i sv x e1 e2
            exact ⟨D, cd, q1, q2, ⟨q3.1, q3.2.1.keep fun ad e h0 => hk2 _ (fun e2 => h.gb (by rw [← e2]; exact q4 ad e h0)), fun ad e h0 => by rw [← hs2]; exact q3.2.2 ad e h0⟩, q4⟩
          dir := hdd
          dirG := h.dirG
          old := hdd
          oldG := h.dirG
          chs := World.ownsRow_nil _ _ _ _
          gb := h.gb
          gi := h.gi
          gc := fun g hg => by simp [Value.ownBlock] at hg
          glt := fun i hi => by rw [← hs2]; exact h.glt i hi }
      · rcases hi with h1 | h1 | h1 | h1
        · exact HF.out i (.inl h1)
        · exact HF.out i (.inr (.inl h1))
        · simp [Value.ownBlock] at h1
        · exact HF.out i (.inr (.inr (.inr h1)))
    have hk2 : Kept (fun i => i = b) w1 w2 := by rw [hw2]; exact ((Kept.refl (fun i => i = b) w1).setCell (.inl rfl) _).setCell (.inl rfl) _
    have HR2 := Lib.hid hR2
    have HK2 := Lib.hid hk2
    clear hR2 hk2 hw2
    refine (r1did_any w2 F b _ HR2.out hdn hon).mono ?_
    rintro e w3 ⟨rfl, hR3, hk3⟩
    have HR3 := Lib.hid hR3
    have HK3 := Lib.hid hk3
    clear hR3 hk3
    go_wp2
    go_ret
    exact R1Left.stay HR3.out ((HK.out.trans HK2.out (fun i _ h => h)).trans HK3.out (fun i _ h => h))

def rRemove (r : RSt) (k : Nm) : Int × RSt :=
  if (rPower r).off then (14, rPower r) else match dget r.dir k with | none => (12, r) | some _ => (0, rChange r ⟨k, [], 0⟩)
set_option maxHeartbeats 4000000 in
set_option maxRecDepth 100000 in
theorem r1Remove_any (w : World) (F : Nat → Prop) (b : Nat) (r : RSt) (hR : R1At w F b r) (hnd : r.dir.length < 100000) (hnc : r.chs.length < 100000) (hdn : r.done < 100000) (k : Nm) :
    Calls Try.prog 45 #[at0 b, .string ⟨k.toArray⟩] w (R1Left w F b (rRemove r k).1 (rRemove r k).2) := by
  have hb := hR.F_b
  unfold rRemove
  cases ho : (rPower r).off with
  | true =>
    rw [if_pos rfl]
    have HO := Lib.hid ho
    have HR := Lib.hid hR
    clear hR ho
    unfold at0
    go_enter Try.func45, Try.ntmps45
    go_wp2_with fail
    refine (r1power_any w F b r HR.out).mono ?_
    rintro e w1 ⟨rfl, hR1, hk⟩
    rw [HO.out]
    have HR1 := Lib.hid hR1
    have HK := Lib.hid hk
    clear hR1 hk
    go_wp2
    go_ret
    exact R1Left.stay HR1.out HK.out
  | false =>
    rw [if_neg Bool.false_ne_true]
    have hon := (rPower_on ho).2
    have hsame := rPower_same ho
    have HO := Lib.hid ho
    have HR := Lib.hid hR
    have HSAME := Lib.hid hsame
    have HON := Lib.hid hon
    have key : ∀ w1, R1At w1 F b r → ∃ A c, w1.cell? ⟨b, 2, none⟩ = some (.slice A r.dir.length c) ∧ DirIn w1 A r.dir.length r.dir := fun w1 ⟨G, vi, vc, A, c, B, cb, svs, h, _, _⟩ => ⟨A, c, by simpa using h.blk.cell 2, h.dir⟩
    have KEY := Lib.hid key
    clear hR ho hsame hon key
    rcases dfind_dget r.dir k with ⟨g1, g2⟩ | ⟨i, p, g0, g1, g2⟩
    · rw [g1]
      have G2 := Lib.hid g2
      clear g1 g2
      unfold at0
      go_enter Try.func45, Try.ntmps45
      go_wp2_with fail
      refine (r1power_any w F b r HR.out).mono ?_
      rintro e w1 ⟨rfl, hR1, hk⟩
      rw [HO.out]
      rw [HSAME.out] at hR1
      obtain ⟨A, c, k2, hd⟩ := KEY.out w1 hR1
      have HR1 := Lib.hid hR1
      have HK := Lib.hid hk
      have HD := Lib.hid hd
      clear hR1 hk hd
      go_wp2_with fail
      refine (r1find_is w1 A _ c r.dir HD.out k G2.out).mono ?_
      rintro e w2 ⟨rfl, hw⟩
      rw [hw]
      clear hw
      go_wp2
      go_ret
      exact R1Left.stay HR1.out HK.out
    · rw [g1]
      have G2 := Lib.hid g2
      have hni : ¬ ((i : Int) < 0) := by omega
      clear g0 g1 g2
      unfold at0
      go_enter Try.func45, Try.ntmps45
      go_wp2_with fail
      refine (r1power_any w F b r HR.out).mono ?_
      rintro e w1 ⟨rfl, hR1, hk⟩
      rw [HO.out]
      rw [HSAME.out] at hR1
      obtain ⟨A, c, k2, hd⟩ := KEY.out w1 hR1
      have HR1 := Lib.hid hR1
      have HK := Lib.hid hk
      have HD := Lib.hid hd
      clear hR1 hk hd
      go_wp2_with fail
      refine (r1find_is w1 A _ c r.dir HD.out k G2.out).mono ?_
      rintro e w2 ⟨rfl, hw⟩
      rw [hw]
      clear hw
      go_wp2_with fail
      refine (r1change_any w1 F b r HR1.out ⟨k, [], 0⟩ hnd hnc (.inl rfl) hdn HON.out).mono ?_
      intro e w3 hL
      obtain ⟨rfl, F', hR3, hk3, hF3⟩ := hL
      have HL := Lib.hid (R1Left.later ⟨rfl, F', hR3, hk3, hF3⟩ hb HK.out : R1Left w F b 0 _ (.returned (.int .i64 0)) w3)
      clear hR3 hk3 hF3
      go_wp2
      go_ret
      exact HL.out
end Go.Proofs.Ytblpppeppgfbpaa
