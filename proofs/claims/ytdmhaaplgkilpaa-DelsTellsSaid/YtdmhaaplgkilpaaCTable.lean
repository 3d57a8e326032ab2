/- The contract of crc's table: entry i is what eight steps of a bit make of i. -/
import Derived.Test.YtdmhaaplgkilpaaKBytes
import Derived.Test.YtdmhaaplgkilpaaCMath
import Derived.Laws.Rows
import Derived.Laws.Tables
import Derived.Laws.ResultCell
import Derived.Laws.BitsAllLaws
import Derived.Deep.WholeRow
import Derived.Deep.Quiet
import Derived.Deep.QuietTactic
namespace Go.Proofs.Ytdmhaaplgkilpaa
open Go.RowKit Go.Maps Go.WideMaps

def u32v (n : Nat) : Value := .int .u32 n
def zeros : Array Value := Array.replicate 256 (.int .u32 0)
def bitsA : Array Nat := #[1996959894, 3993919788, 124634137, 249268274, 498536548, 997073096, 1994146192, 3988292384]
def bits8 : Array Value := #[.int .u32 1996959894, .int .u32 3993919788, .int .u32 124634137, .int .u32 249268274, .int .u32 498536548, .int .u32 997073096, .int .u32 1994146192, .int .u32 3988292384]
def tabCells : Array Value := (Array.range 256).map fun i => u32v (s8 i)
theorem tabInfo : (Try.prog.info? 72).map (fun i => (i.zero, i.size)) = some (some (.agg zeros), 256) := by kernel_rfl

theorem lt_of_Blk {w : World} {g : Nat} {t : TypeId} {cs : Array Value} (h : Blk w g t cs) : g < w.heap.size := h.lt
structure TabAt (w wx : World) (m : Nat) : Prop where
  below : Below w.heap.size w wx
  out : Blk wx w.heap.size 72 zeros
  eight : Blk wx (w.heap.size + 1) 74 bits8
  tab : ∃ C : Array Value, C.size = 256 ∧ Blk wx (w.heap.size + 2) 72 C ∧ (∀ j, j < m → C[j]? = some (u32v (s8 j))) ∧ ∀ j, j < 256 → ∃ n : Int, C[j]? = some (.int .u32 n)
theorem or_step : ∀ (i : Fin 8) (j : Fin 128), j.val < 2 ^ i.val → bits .or .i64 ((2 ^ i.val : Nat) : Int) (j.val : Int) = ((2 ^ i.val + j.val : Nat) : Int) ∧ 2 ^ i.val ||| j.val = 2 ^ i.val + j.val := by decide +kernel
theorem eight_at : ∀ i : Fin 8, bits8[i.val]? = some (u32v (bitsA.getD i.val 0)) ∧ bitsA.getD i.val 0 < 4294967296 := by
  intro i
  match i with
  | 0 | 1 | 2 | 3 | 4 | 5 | 6 | 7 => exact ⟨rfl, by decide⟩
theorem TabAt.drew {w wx : World} {m : Nat} (h : TabAt w wx m) : TabAt w wx.drew m := ⟨h.below.drew, h.out, h.eight, h.tab⟩
theorem TabAt.put {w wx : World} {m : Nat} (h : TabAt w wx m) (hm : m < 256) : TabAt w (wx.setCell ⟨w.heap.size + 1 + 1, m, none⟩ (.int .u32 (s8 m))) (m + 1) := by
  obtain ⟨C, h1, h2, h3, h4⟩ := h.tab
  refine ⟨h.below.setCell (by simp; omega) _, h.out.far (by simp; omega) _, h.eight.far (by simp) _, C.setIfInBounds m (u32v (s8 m)), by simp [h1], h2.set_ m (u32v (s8 m)), fun j hj => ?_, fun j hj => ?_⟩
  · rw [Array.getElem?_setIfInBounds]
    by_cases e : m = j
    · subst e
      rw [if_pos rfl, if_pos (by omega)]
    · rw [if_neg e]
      exact h3 j (by omega)
  · rw [Array.getElem?_setIfInBounds]
    by_cases e : m = j
    · subst e
      rw [if_pos rfl, if_pos (by omega)]
      exact ⟨_, rfl⟩
    · rw [if_neg e]
      exact h4 j hj
theorem TabAt.start (w : World) : TabAt w (((w.alloc (.cells zeros 72)).alloc (.cells bits8 74)).alloc (.cells zeros 72)) 1 := by
  have h0 : Blk (w.alloc (.cells zeros 72)) w.heap.size 72 zeros := Blk.new w _ _
  have h1 : Blk ((w.alloc (.cells zeros 72)).alloc (.cells bits8 74)) (w.heap.size + 1) 74 bits8 := by
    have := Blk.new (w.alloc (.cells zeros 72)) 74 bits8
    simpa using this
  have h2 : Blk (((w.alloc (.cells zeros 72)).alloc (.cells bits8 74)).alloc (.cells zeros 72)) (w.heap.size + 2) 72 zeros := by
    have := Blk.new ((w.alloc (.cells zeros 72)).alloc (.cells bits8 74)) 72 zeros
    simpa using this
  refine ⟨(((Below.refl _ w).alloc (Nat.le_refl _) _).alloc (by simp) _).alloc (by simp; omega) _, (h0.alloc _).alloc _, h1.alloc _, zeros, by simp [zeros], h2, fun j hj => ?_, fun j hj => ⟨0, ?_⟩⟩
  · obtain rfl : j = 0 := by omega
    have : s8 0 = 0 := by decide
    simp [zeros, u32v, this]
  · simp [zeros, hj]

set_option maxHeartbeats 4000000 in
set_option maxRecDepth 100000 in
theorem table_any (w : World) : Calls Try.prog 48 #[] w fun e w' => e = .returned (.agg tabCells) ∧ Below w.heap.size w w' := by
  obtain ⟨hz, hi⟩ := zero_of_info tabInfo
  have HST := Lib.hid (TabAt.start w)
  go_enter Try.func48, Try.ntmps48
  go_wp2
  have hz2 : s8 0 = 0 := by decide
  go_loopw [7] (fun s wr => ∃ i : Nat, i ≤ 8 ∧ s = .int .i64 i ∧ TabAt w wr (2 ^ i)) (fun s _ => 8 - (intOf s).toNat)
  case atStart => exact ⟨0, by omega, rfl, HST.out⟩
  case round =>
    obtain ⟨i, hi8, rfl, hT⟩ := hrel
    clear HST
    have HT := Lib.hid hT
    clear hT
    rcases Nat.lt_or_ge i 8 with hlt | hge
    · have hlt' : (i : Int) < 8 := by omega
      obtain ⟨M, hM⟩ : ∃ M : Nat, M = 2 ^ i := ⟨_, rfl⟩
      have hMl : M ≤ 128 := by
        have := Nat.pow_le_pow_right (n := 2) (by omega) (show i ≤ 7 by omega)
        omega
      have hshl : wrap64 (2 ^ i) = (M : Int) := by
        have e : (2 : Int) ^ i = ((2 ^ i : Nat) : Int) := by simp
        rw [e, ← hM]
        unfold wrap64
        omega
      rw [← hM] at HT
      obtain ⟨B, hB⟩ : ∃ B : Nat, B = bitsA.getD i 0 := ⟨_, rfl⟩
      have he8 := eight_at ⟨i, hlt⟩
      simp only at he8
      rw [← hB] at he8
      obtain ⟨he8, hB32⟩ := he8
      have HE := Lib.hid he8
      have HM := Lib.hid hM
      have HB := Lib.hid hB
      clear he8 hM hB
      go_wp2
      rw [hshl]
      clear hshl
      go_loopw [13] (fun s wr => ∃ l : Nat, l ≤ M ∧ s = .int .i64 l ∧ TabAt w wr (M + l)) (fun s _ => M - (intOf s).toNat)
      case atStart => exact ⟨0, by omega, rfl, HT.out⟩
      case round =>
        clear HT
        obtain ⟨l, hlM, rfl, hT⟩ := hrel
        have HT := Lib.hid hT
        clear hT
        rcases Nat.lt_or_ge l M with hl | hl
        · have hl1 : (l : Int) < (M : Int) := by omega
          have hl2 : (l : Int) < 256 := by omega
          have hl3 : ((M + l : Nat) : Int) < 256 := by omega
          have hor : bits .or .i64 (M : Int) (l : Int) = ((M + l : Nat) : Int) := by
            have := (or_step ⟨i, hlt⟩ ⟨l, by omega⟩ (by rw [HM.out] at hl; exact hl)).1
            rw [HM.out]
            exact this
          obtain ⟨C, hC1, hC2, hC3, hC4⟩ := HT.out.tab
          have c1 : wr.cell? ⟨w.heap.size + 1 + 1, l, none⟩ = some (.int .u32 (s8 l)) := (hC2.cell l).trans (hC3 l (by omega))
          have c2 : wr.cell? ⟨w.heap.size + 1, i, none⟩ = some (.int .u32 B) := (HT.out.eight.cell i).trans HE.out
          have c3 : ∃ n : Int, wr.cell? ⟨w.heap.size + 1 + 1, M + l, none⟩ = some (.int .u32 n) := (hC4 (M + l) (by omega)).imp fun n h => (hC2.cell (M + l)).trans h
          obtain ⟨n0, c3⟩ := c3
          have z3 : wr.frozen? ⟨w.heap.size + 1 + 1, M + l, none⟩ = false := hC2.frozen _
          have hx : bits .xor .u32 ((s8 l : Nat) : Int) (B : Int) = ((s8 (M + l) : Nat) : Int) := by
            rw [u32_xor_nat _ _ (s8_lt (by omega)) hB32]
            have h1 := tab_step ⟨i, hlt⟩ ⟨l, by omega⟩ (by rw [HM.out] at hl; exact hl)
            have h2 := (or_step ⟨i, hlt⟩ ⟨l, by omega⟩ (by rw [HM.out] at hl; exact hl)).2
            simp only at h1 h2
            rw [h2, ← HM.out] at h1
            rw [h1, HB.out]
            congr 2
            match i, hlt with
            | 0, _ | 1, _ | 2, _ | 3, _ | 4, _ | 5, _ | 6, _ | 7, _ => rfl
          go_wp2
          go_region
          go_wp2
          go_roundw
          case rel => exact ⟨l + 1, by omega, by go_num, HT.out.drew.put (by omega)⟩
          case measure => simp [intOf]; omega
        · obtain rfl : l = M := by omega
          have hlz : ¬ ((l : Int) < (l : Int)) := by omega
          go_wp2
          go_roundw
          case rel => exact ⟨i + 1, by omega, by go_num, by have := HT.out; rw [HM.out] at this; rw [Nat.pow_succ, Nat.mul_two]; exact this⟩
          case measure => simp [intOf]; omega
    · obtain rfl : i = 8 := by omega
      have hlt' : ¬ (((8 : Nat) : Int) < 8) := by omega
      obtain ⟨C, hC1, hC2, hC3, -⟩ := HT.out.tab
      have hC : C = tabCells := by
        apply Array.ext_getElem?
        intro j
        rcases Nat.lt_or_ge j 256 with hj | hj
        · rw [hC3 j (by simpa using hj)]
          simp [tabCells, hj]
        · rw [Array.getElem?_eq_none (by omega), Array.getElem?_eq_none (by simp [tabCells]; omega)]
      subst hC
      have hone : tabCells.all (·.oneCell') = true := by
        rw [Array.all_eq_true_iff_forall_mem]
        intro v hv
        simp only [tabCells, Array.mem_map] at hv
        obtain ⟨j, _, rfl⟩ := hv
        rfl
      have HONE := Lib.hid hone
      clear hone
      have hC2' : wr.heap[w.heap.size + 1 + 1]? = some (.cells tabCells 72 (0, 0)) := hC2
      have hO : wr.heap[w.heap.size]? = some (.cells zeros 72 (0, 0)) := HT.out.out
      have hi' : (Try.prog.info? 72).map (·.size) = some tabCells.size := by rw [hC1]; exact hi
      clear hi hz
      have HC2 := Lib.hid hC2'
      have HO := Lib.hid hO
      have HI := Lib.hid hi'
      clear hC2' hO hC2 hC1 hC3 hi'
      go_wp2
      refine wp_load_row 72 (.tmp 2) rfl (w.heap.size + 1 + 1) rfl 72 tabCells (0, 0) _ HC2.out Try.underlying72 rfl HI.out ?_
      rename_i hK
      apply hK
      refine wpList_store_row rfl 72 (.tmp 0) (.tmp 29) rfl w.heap.size tabCells rfl rfl 72 zeros HO.out HI.out (by simp [zeros, tabCells]) HONE.out ?_
      go_wp2
      have hb := HT.out.below
      have hs := hb.size
      refine bodyPost_ret (v := .agg tabCells) ?_ rfl ⟨rfl, ⟨hb.os, hb.tape, hb.output, by simpa using hs, fun k hk => (setRow_other _ _ _ _ (by omega)).trans (hb.block k hk)⟩⟩
      exact results_cell_row rfl _ _ w.heap.size 72 tabCells (0, 0) _ rfl (setRow_heap _ _ zeros _ _ _ HO.out) Try.underlying72 rfl HI.out
end Go.Proofs.Ytdmhaaplgkilpaa
