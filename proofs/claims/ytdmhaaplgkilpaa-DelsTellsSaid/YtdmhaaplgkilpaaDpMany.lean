/- The landed dels: Many. -/
import Derived.Test.YtdmhaaplgkilpaaDpMem
namespace Go.Proofs.Ytdmhaaplgkilpaa
open Go.RowKit Go.Maps Go.WideMaps
set_option linter.unusedSimpArgs false

/-- The bits that are set in the first k bytes. -/
def popTo (l : List UInt8) : Nat → Nat
  | 0 => 0
  | k + 1 => popTo l k + popN 8 (l.getD k 0).toNat
theorem popTo_le (l : List UInt8) : ∀ k, popTo l k ≤ 8 * k
  | 0 => Nat.le_refl _
  | k + 1 => by
    rw [popTo]
    have h1 := popTo_le l k
    have h2 := popN_le 8 (l.getD k 0).toNat
    omega
theorem eight {l : List UInt8} (h : l.length = 8) : ∃ a b c d e f g i, l = [a, b, c, d, e, f, g, i] := by
  match l, h with
  | [a, b, c, d, e, f, g, i], _ => exact ⟨a, b, c, d, e, f, g, i, rfl⟩

set_option maxRecDepth 100000 in
theorem arr_index (w : World) {arr : Array Value} {j : Nat} {v : Value} (hj : j < 8) (hv : arr[j]? = some v) : (Instr.index 51 (.agg arr) (.int .i64 j)).run Try.prog w = .ok v w := by
  obtain ⟨h1, h2, h3⟩ := arr_len
  obtain ⟨i0, hi, hz0, hz1, hz2⟩ := info_parts byteInfo
  have hs : (sizeOf 5).run Try.prog w = .ok 1 w := by
    rw [run_sizeOf w hi]
    unfold Program.cellsOf
    rw [hi]
    simp [hz1]
  simp [Instr.index, asIntOf, run_underlying h3, hs, Result.andThen, show (0 : Int) ≤ (j : Int) by omega, show (j : Int) < 8 by omega, part, isAgg, run_underlying Try.underlying5, hv]
  omega

set_option maxHeartbeats 8000000 in
set_option maxRecDepth 100000 in
theorem dpMany_any {w : World} {b n : Nat} {l : List UInt8} (h : IsB w b n l) :
    Calls Try.prog 20 #[.pointer (some ⟨b, 0, none⟩)] w fun e w' => e = .returned (.int .i64 (popTo l 8)) ∧ w' = w := by
  have HH := Lib.hid h
  have k0 := h.cb 0 (by omega)
  have k1 := h.cb 1 (by omega)
  have k2 := h.cb 2 (by omega)
  have k3 := h.cb 3 (by omega)
  have k4 := h.cb 4 (by omega)
  have k5 := h.cb 5 (by omega)
  have k6 := h.cb 6 (by omega)
  have k7 := h.cb 7 (by omega)
  clear h
  simp only [Nat.reduceAdd] at k0 k1 k2 k3 k4 k5 k6 k7
  obtain ⟨x0, e0⟩ : ∃ x, x = (l.getD 0 0).toNat := ⟨_, rfl⟩
  obtain ⟨x1, e1⟩ : ∃ x, x = (l.getD 1 0).toNat := ⟨_, rfl⟩
  obtain ⟨x2, e2⟩ : ∃ x, x = (l.getD 2 0).toNat := ⟨_, rfl⟩
  obtain ⟨x3, e3⟩ : ∃ x, x = (l.getD 3 0).toNat := ⟨_, rfl⟩
  obtain ⟨x4, e4⟩ : ∃ x, x = (l.getD 4 0).toNat := ⟨_, rfl⟩
  obtain ⟨x5, e5⟩ : ∃ x, x = (l.getD 5 0).toNat := ⟨_, rfl⟩
  obtain ⟨x6, e6⟩ : ∃ x, x = (l.getD 6 0).toNat := ⟨_, rfl⟩
  obtain ⟨x7, e7⟩ : ∃ x, x = (l.getD 7 0).toNat := ⟨_, rfl⟩
  rw [← e0] at k0
  rw [← e1] at k1
  rw [← e2] at k2
  rw [← e3] at k3
  rw [← e4] at k4
  rw [← e5] at k5
  rw [← e6] at k6
  rw [← e7] at k7
  obtain ⟨arr, harr⟩ : ∃ arr : Array Value, arr = #[Value.int IntKind.u8 x0, Value.int IntKind.u8 x1, Value.int IntKind.u8 x2, Value.int IntKind.u8 x3, Value.int IntKind.u8 x4, Value.int IntKind.u8 x5, Value.int IntKind.u8 x6, Value.int IntKind.u8 x7] := ⟨_, rfl⟩
  have HAR : Hid (∀ j, j < 8 → arr[j]? = some (.int .u8 (l.getD j 0).toNat)) := Lib.hid (fun j hj => by
    rw [harr]
    match j, hj with
    | 0, _ => rw [← e0]; rfl
    | 1, _ => rw [← e1]; rfl
    | 2, _ => rw [← e2]; rfl
    | 3, _ => rw [← e3]; rfl
    | 4, _ => rw [← e4]; rfl
    | 5, _ => rw [← e5]; rfl
    | 6, _ => rw [← e6]; rfl
    | 7, _ => rw [← e7]; rfl)
  have HSZ : Hid (arr.size = 8) := Lib.hid (by rw [harr]; rfl)
  have HA := Lib.hid harr
  clear harr e0 e1 e2 e3 e4 e5 e6 e7
  go_enter Try.func20, Try.ntmps20
  go_wp2_with fail
  rw [← HA.out]
  clear HA k0 k1 k2 k3 k4 k5 k6 k7
  have hsz := HSZ.out
  go_loopw [3, 10] (fun v jv wr => ∃ (j s : Nat), j ≤ 8 ∧ v = .int .i64 s ∧ jv = .int .i64 j ∧ s = popTo l j ∧ wr = w) (fun _ jv _ => 8 - (intOf jv).toNat)
  case atStart => exact ⟨0, 0, by omega, rfl, rfl, rfl, rfl⟩
  case round =>
    obtain ⟨j, s, hj, rfl, rfl, hs, rfl⟩ := hrel
    have hs8 := popTo_le l j
    rw [← hs] at hs8
    have HS := Lib.hid hs
    clear hs
    rcases Nat.lt_or_ge j 8 with hlt | hge
    · have hlt' : (j : Int) < 8 := by omega
      have p0 : (0 : Int) ≤ (j : Int) := by omega
      obtain ⟨x, hx⟩ : ∃ x, x = l.getD j 0 := ⟨_, rfl⟩
      have ha := arr_index wr hlt (HAR.out j hlt)
      have hp8 := popN_le 8 x.toNat
      have HNX : Hid (s + popN 8 x.toNat = popTo l (j + 1)) := Lib.hid (by rw [popTo, HS.out, hx])
      rw [← hx] at ha
      have hcall := dpOnes_any wr x
      obtain ⟨c, hc⟩ : ∃ c, c = popN 8 x.toNat := ⟨_, rfl⟩
      rw [← hc] at hcall HNX hp8
      have HC := Lib.hid hcall
      have hw1 : IntKind.i64.wrap ((j : Int) + 1) = (j : Int) + 1 := IntWalk.i64_in _ (by omega)
      have hw2 : IntKind.i64.wrap ((s : Int) + (c : Int)) = (s : Int) + (c : Int) := IntWalk.i64_in _ (by omega)
      clear hcall hc hx
      go_wp2_with fail
      refine HC.out.mono ?_
      rintro e w1 ⟨rfl, rfl⟩
      go_wp2
      go_roundw
      case rel => exact ⟨j + 1, s + c, by omega, by go_num, by go_num, HNX.out, trivial⟩
      case measure => simp [intOf]; omega
    · have hlz : ¬ ((j : Int) < 8) := by omega
      have HJ : Hid (j = 8) := Lib.hid (by omega)
      go_wp2
      go_ret
      exact ⟨by rw [← HJ.out, ← HS.out]; rfl, rfl⟩
end Go.Proofs.Ytdmhaaplgkilpaa
