/- The landed dels in memory: a number and eight bytes; isThere, bit, used. -/
import Derived.Test.YtdmhaaplgkilpaaDlSpec
import Derived.BigQuiet
namespace Go.Proofs.Ytdmhaaplgkilpaa
open Go.RowKit Go.Maps Go.WideMaps
set_option linter.unusedSimpArgs false

/-- A block with a number and eight bytes. -/
structure IsB (w : World) (b n : Nat) (l : List UInt8) : Prop where
  blk : Blk w b 53 (.int .i64 n :: l.map byteV).toArray
  len : l.length = 8
  few : n ≤ 64
section
variable {w w' : World} {b n : Nat} {l : List UInt8}
theorem IsB.c0 (h : IsB w b n l) : w.cell? ⟨b, 0, none⟩ = some (.int .i64 n) := by
  rw [h.blk.cell 0]
  simp
theorem IsB.cb (h : IsB w b n l) (j : Nat) (hj : j < 8) : w.cell? ⟨b, 1 + j, none⟩ = some (.int .u8 (l.getD j 0).toNat) := by
  rw [h.blk.cell (1 + j)]
  have hl := h.len
  simp [Nat.add_comm 1 j, List.getD_eq_getElem?_getD, List.getElem?_eq_getElem (show j < l.length by omega), byteV]
theorem IsB.keep {F : Nat → Prop} (h : IsB w b n l) (hk : Kept F w w') (hb : ¬ F b) : IsB w' b n l := ⟨h.blk.kept hk hb, h.len, h.few⟩
theorem IsB.of_block (h : IsB w b n l) (hk : w'.heap[b]? = w.heap[b]?) : IsB w' b n l := ⟨hk.trans h.blk, h.len, h.few⟩
theorem IsB.drewN (h : IsB w b n l) (q : Nat) : IsB (w.drewN q) b n l := ⟨h.blk.drewN q, h.len, h.few⟩
end

set_option maxHeartbeats 4000000 in
set_option maxRecDepth 100000 in
theorem dpThere_any {w : World} {b n : Nat} {l : List UInt8} (h : IsB w b n l) (i : Int) :
    Calls Try.prog 31 #[.pointer (some ⟨b, 0, none⟩), .int .i64 i] w fun e w' => e = .returned (.bool (decide (0 ≤ i ∧ i < (n : Int)))) ∧ w' = w := by
  have c0 := h.c0
  have hn := h.few
  clear h
  by_cases h0 : 0 ≤ i
  · by_cases h1 : i < (n : Int)
    · rw [decide_eq_true (⟨h0, h1⟩ : 0 ≤ i ∧ i < (n : Int))]
      go_enter Try.func31, Try.ntmps31
      go_wp2
      go_ret
      exact ⟨rfl, rfl⟩
    · rw [decide_eq_false (fun h : 0 ≤ i ∧ i < (n : Int) => h1 h.2)]
      go_enter Try.func31, Try.ntmps31
      go_wp2
      go_ret
      exact ⟨rfl, rfl⟩
  · rw [decide_eq_false (fun h : 0 ≤ i ∧ i < (n : Int) => h0 h.1)]
    go_enter Try.func31, Try.ntmps31
    go_wp2
    go_ret
    exact ⟨rfl, rfl⟩

theorem pow_u8 : ∀ k : Nat, k < 8 → (2 : Int) ^ k % 256 = ((2 ^ k : Nat) : Int) := by decide +kernel
set_option maxHeartbeats 4000000 in
set_option maxRecDepth 100000 in
theorem dpBit_any (w : World) (I : Nat) (hI : I < 64) :
    Calls Try.prog 32 #[.int .i64 I] w fun e w' => e = .returned (.int .u8 ((2 ^ (I % 8) : Nat) : Int)) ∧ w' = w := by
  have h8 : (0 : Int) ≤ (I : Int) % 8 := by omega
  go_enter Try.func32, Try.ntmps32
  go_wp2
  go_ret
  refine ⟨?_, rfl⟩
  show Ending.returned (.int .u8 ((2 : Int) ^ (I % 8) % 256)) = _
  rw [pow_u8 (I % 8) (by omega)]

set_option maxRecDepth 100000 in
theorem arr_len : Try.prog.arrayLen 51 = 8 ∧ Try.prog.elem 51 = 5 ∧ Try.prog.underlying 51 = some (.array 8 5) := ⟨by kernel_rfl, by kernel_rfl, by kernel_rfl⟩
set_option maxRecDepth 100000 in
theorem arr_upto (w : World) (b p : Nat) (hp : p ≤ 8) : (Instr.sliceAt 51 (.pointer (some ⟨b, 1, none⟩)) none (some (.int .i64 p)) none).run Try.prog w = .ok (.slice (some ⟨b, 1, none⟩) p 8) w := by
  obtain ⟨h1, h2, h3⟩ := arr_len
  obtain ⟨i0, hi, hz0, hz1, hz2⟩ := info_parts byteInfo
  rw [run_sliceAt_array_h (P := Try.prog) w 51 ⟨b, 1, none⟩ (by rw [h1, h2]; exact h3) .i64 p (by omega) (by rw [h1]; omega), h1, h2, run_sizeOf w hi]
  unfold Program.cellsOf
  rw [hi]
  simp [Result.andThen, slicedAt, Addr.add]
set_option maxRecDepth 100000 in
theorem arr_all (w : World) (b : Nat) : (Instr.sliceAt 51 (.pointer (some ⟨b, 1, none⟩)) none none none).run Try.prog w = .ok (.slice (some ⟨b, 1, none⟩) 8 8) w := by
  obtain ⟨h1, h2, h3⟩ := arr_len
  obtain ⟨i0, hi, hz0, hz1, hz2⟩ := info_parts byteInfo
  rw [run_sliceAt_array_all (P := Try.prog) w 51 ⟨b, 1, none⟩ (by rw [h1, h2]; exact h3), h1, h2, run_sizeOf w hi]
  unfold Program.cellsOf
  rw [hi]
  simp [Result.andThen, slicedAt, Addr.add]

set_option maxHeartbeats 4000000 in
set_option maxRecDepth 100000 in
theorem dpUsed_any {w : World} {b n : Nat} {l : List UInt8} (h : IsB w b n l) :
    Calls Try.prog 25 #[.pointer (some ⟨b, 0, none⟩)] w fun e w' => e = .returned (.slice (some ⟨b, 1, none⟩) ((n + 7) / 8) 8) ∧ ∃ q, w' = w.drewN q := by
  have c0 := h.c0
  have hn := h.few
  clear h
  have hw1 : IntKind.i64.wrap ((n : Int) + 7) = (n : Int) + 7 := IntWalk.i64_in _ (by omega)
  go_enter Try.func25, Try.ntmps25
  have hsl : ∀ w : World, (Instr.sliceAt 51 (.pointer (some ⟨b, 1, none⟩)) none (some (.int .i64 (((n : Int) + 7) / 8))) none).run Try.prog w = .ok (.slice (some ⟨b, 1, none⟩) ((n + 7) / 8) 8) w := fun w => by
    rw [show ((n : Int) + 7) / 8 = (((n + 7) / 8 : Nat) : Int) by omega]
    exact arr_upto w b _ (by omega)
  go_wp2_with fail
  go_region
  go_wp2
  go_ret
  exact ⟨rfl, _, rfl⟩
theorem popN_le : ∀ f x, popN f x ≤ f
  | 0, _ => Nat.le_refl _
  | f + 1, x => by
    rw [popN]
    have := popN_le f (x / 2)
    omega
theorem pop_of {B : ByteArray} (h : (List.range 256).all (fun k => B.data[k]?.map UInt8.toNat == some (popN 8 k)) = true) {n : Nat} (hn : n < 256) (hb : n < B.size) : wrap64 ((B[n]'hb).toNat : Int) = ((popN 8 n : Nat) : Int) := by
  have h1 := List.all_eq_true.1 h n (List.mem_range.2 hn)
  have h2 : B.data[n]? = some (B[n]'hb) := Array.getElem?_eq_getElem hb
  rw [h2] at h1
  have h3 : (B[n]'hb).toNat = popN 8 n := by simpa using h1
  rw [h3]
  have := popN_le 8 n
  unfold wrap64
  omega

set_option maxHeartbeats 4000000 in
set_option maxRecDepth 100000 in
theorem dpOnes_any (w : World) (x : UInt8) :
    Calls Try.prog 33 #[.int .u8 x.toNat] w fun e w' => e = .returned (.int .i64 (popN 8 x.toNat : Nat)) ∧ w' = w := by
  have hx := x.toNat_lt
  go_enter Try.func33, Try.ntmps33
  go_wp2_with fail
  go_ret
  exact ⟨congrArg (fun z => Ending.returned (.int .i64 z)) (pop_of (by decide +kernel) hx _), rfl⟩
end Go.Proofs.Ytdmhaaplgkilpaa
