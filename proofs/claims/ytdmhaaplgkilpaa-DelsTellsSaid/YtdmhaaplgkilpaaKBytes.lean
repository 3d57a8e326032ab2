/- Bytes in slices, as lists: of one's own, and what came in; append onto a row of one's own from whatever comes. -/
import Derived.Test.YtdmhaaplgkilpaaKCore
import Derived.RegionTactic
import Derived.Deep.RegionHeld3
import Derived.Deep.RegionLaw
import Derived.ProofKit
import Derived.OpenShut
import Derived.ChangeOld
import Derived.SizedLaws
import Derived.Deep.Slices
import Derived.Deep.Fields
import Derived.Lib.SmallJoins
namespace Go.Proofs.Ytdmhaaplgkilpaa
open Go.RowKit Go.Maps Go.WideMaps Go.ChangeShapes Go.WideShapes Go.ChangeAt Go.Deep

theorem byteInfo : (Try.prog.info? 5).map (fun i => (i.zero, i.size, i.bytes)) = some (some (.int .u8 0), 1, 1) := by kernel_rfl
set_option maxRecDepth 100000 in
theorem slice_to (w : World) (A : Option Addr) (n c p : Nat) (h : p ≤ c) : (Instr.slice 23 (.slice A n c) none (some (.int .i64 p)) none).run Try.prog w = .ok (.slice A p c) w := by
  obtain ⟨i0, hi, hz0, hz1, hz2⟩ := info_parts byteInfo
  rw [run_slice_h (P := Try.prog) (w := w) 23 A n c Try.underlying23 .i64 p (by omega) (by omega)]
  have he : Try.prog.elem 23 = 5 := by kernel_rfl
  rw [he]
  have hs : (sizeOf 5).run Try.prog w = Result.ok i0.size w := by
    rw [run_sizeOf w hi]
    unfold Program.cellsOf
    rw [hi]
    rfl
  rw [hs]
  simp [Result.andThen, sliced, Addr.add]

section
variable {H : Type} {enc : TypeId × Value → H} {w : World}
theorem bytes_in {A : Option Addr} {n c : Nat} {x : DataW H × List MemPlace} {fuel : Nat} {base : Nat} {spare : Nat → Bool} {held : Bool} (h : DataW.trod enc Try.prog w base spare held fuel 23 [.slice A n c] = some x) : ∃ bs, BytesIn w A n bs := by
  rcases open_ints Try.underlying23 Try.underlying5 (by kernel_rfl) h with ⟨hcs, _⟩ | ⟨a, l, cp, zs, hcs, _, hl, hm, hz, _, hcell, hwz⟩
  · simp only [List.cons.injEq, Value.slice.injEq, and_true] at hcs
    obtain ⟨rfl, rfl, rfl⟩ := hcs
    exact ⟨[], by unfold maxLen; omega, ⟨rfl, (fun ad e => by cases e), fun _ => rfl⟩, fun ad e => by cases e⟩
  · simp only [List.cons.injEq, Value.slice.injEq, and_true] at hcs
    obtain ⟨rfl, rfl, rfl⟩ := hcs
    have hzl : n ≤ zs.length := by rw [hz]; split <;> omega
    have hc : ∀ j u, ((zs.take n).map fun z => byteV (UInt8.ofNat z.toNat))[j]? = some u → w.cell? (a.add j) = some u := by
      intro j u hu
      rw [List.getElem?_map, List.getElem?_take] at hu
      split at hu
      · rename_i hj
        have hjz : j < zs.length := by omega
        rw [List.getElem?_eq_getElem hjz] at hu
        simp only [Option.map_some, Option.some.injEq] at hu
        rw [hcell j hjz, ← hu]
        have hw := hwz zs[j] (List.getElem_mem hjz)
        have hb : 0 ≤ zs[j] ∧ zs[j] ≤ 255 := by
          have := hw
          simp [Lit.wf, IntKind.min, IntKind.max, IntKind.signed, IntKind.bits] at this
          exact this
        simp only [byteV, List.getD_eq_getElem?_getD, List.getElem?_eq_getElem hjz, Option.getD_some, Option.some.injEq, Value.int.injEq, true_and]
        have : (UInt8.ofNat zs[j].toNat).toNat = zs[j].toNat := by
          exact UInt8.toNat_ofNat_of_lt' (by show _ < 256; omega)
        rw [this]
        omega
      · cases hu
    refine ⟨(zs.take n).map fun z => UInt8.ofNat z.toNat, by omega, ⟨by simp; omega, fun ad e j u hu => ?_, (fun e => by cases e)⟩, fun ad e hn => ?_⟩
    · injection e with e
      subst e
      exact hc j u (by rw [← hu, List.map_map]; rfl)
    · injection e with e
      subst e
      have h0 := hcell 0 (by omega)
      have h1 : a.add 0 = a := by simp [Addr.add]
      rw [h1] at h0
      exact World.block_lt_of_cell? w a h0
theorem bytes_shape {A : Value} {x : DataW H × List MemPlace} {fuel : Nat} {base : Nat} {spare : Nat → Bool} {held : Bool} (h : DataW.trod enc Try.prog w base spare held fuel 23 [A] = some x) : ∃ C k cc, A = .slice C k cc ∧ k ≤ cc := by
  rcases open_ints Try.underlying23 Try.underlying5 (by kernel_rfl) h with ⟨hcs, _⟩ | ⟨a, l, cp, zs, hcs, _, hl, _⟩
  · simp only [List.cons.injEq, and_true] at hcs
    exact ⟨_, _, _, hcs, Nat.le_refl _⟩
  · simp only [List.cons.injEq, and_true] at hcs
    exact ⟨_, _, _, hcs, hl⟩
theorem bytesIn {A : Option Addr} {n c : Nat} {x : DataW H × List MemPlace} {fuel : Nat} {base : Nat} {spare : Nat → Bool} {held : Bool} (h : DataW.trod enc Try.prog w base spare held fuel 23 [.slice A n c] = some x) (_ : Sized 23 x.1) : ∃ l, BytesIn w A n l := bytes_in h
end
end Go.Proofs.Ytdmhaaplgkilpaa
