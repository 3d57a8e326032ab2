/- The contracts of crc's More and Sum, and of the document's: a fold of steps. -/
import Derived.Test.YtdmhaaplgkilpaaCTable
import Derived.Test.YtdmhaaplgkilpaaCRef
import Derived.Test.YtdmhaaplgkilpaaKHead
namespace Go.Proofs.Ytdmhaaplgkilpaa
open Go.RowKit Go.Maps Go.WideMaps

theorem tab_size : tabCells.size = 256 := by simp [tabCells]
theorem tab_one : tabCells.all (·.oneCell') = true := by
  rw [Array.all_eq_true_iff_forall_mem]
  intro v hv
  simp only [tabCells, Array.mem_map] at hv
  obtain ⟨j, _, rfl⟩ := hv
  rfl
theorem tab_at (j : Nat) (hj : j < 256) : tabCells[j]? = some (.int .u32 (s8 j)) := by simp [tabCells, hj, u32v]
set_option maxHeartbeats 4000000 in
set_option maxRecDepth 100000 in
theorem more_any (w : World) (s : Nat) (hs : s < 4294967296) (A : Option Addr) (n c : Nat) (l : Nm) (hl : BytesIn w A n l) :
    Calls Try.prog 47 #[.int .u32 s, .slice A n c] w fun e w' => e = .returned (.int .u32 (moreN s l)) ∧ Below w.heap.size w w' := by
  obtain ⟨hz, hi⟩ := zero_of_info tabInfo
  have hsc : ∀ w : World, (storeCells ⟨w.heap.size, 0, none⟩ tabCells.toList 0).run Try.prog (w.alloc (.cells zeros 72)) = .ok () (w.alloc (.cells tabCells 72)) := fun w =>
    run_storeCells_new w 72 zeros tabCells (by rw [tab_size]; exact hi) (by rw [tab_size]; simp [zeros]) tab_one
  have hsz := tab_size
  have hinv := inv_u32 s hs
  have hsg : IntKind.u32.signed = false := rfl
  clear hi
  have HL := Lib.hid hl
  clear hl
  go_enter Try.func47, Try.ntmps47
  go_wp2_with fail
  refine (table_any w).mono ?_
  rintro e w1 ⟨rfl, hb⟩
  have HB := Lib.hid hb
  clear hb
  go_wp2
  have HZ := Lib.hid hz
  clear hz hsc hinv
  have HT : Hid (∀ j, j < 256 → (w1.alloc (.cells tabCells 72)).cell? ⟨w1.heap.size, j, none⟩ = some (.int .u32 (s8 j))) := Lib.hid fun j hj => ((Blk.new w1 72 tabCells).cell j).trans (tab_at j hj)
  have HS : Hid (Src (w1.alloc (.cells tabCells 72)) A n (l.map byteV)) := Lib.hid (HL.out.2.1.keep fun ad e hn => by
    have h0 := HL.out.2.2 ad e hn
    have h1 := HB.out.size
    rw [Below.heap_alloc _ _ _ (by omega)]
    exact HB.out.block _ h0)
  have hr0 : all1 ^^^ s < 4294967296 := inv_lt hs
  have hln : l.length = n := by have := HL.out.2.1.len; simpa using this
  have HLN := Lib.hid hln
  clear hln
  go_loop [6, 14] (fun r i => ∃ k : Nat, k ≤ n ∧ i = .int .i64 k ∧ r = .int .u32 (reg (all1 ^^^ s) (l.take k))) (fun _ i => n - (intOf i).toNat)
  case atStart => exact ⟨0, by omega, rfl, by simp [reg]⟩
  case round =>
    obtain ⟨k, hk, rfl, rfl⟩ := hrel
    rcases Nat.lt_or_ge k n with hlt | hge
    · have hlt' : (k : Int) < (n : Int) := by omega
      have hn63 : n ≤ 9223372036854775807 := HL.out.1
      obtain ⟨ad, hA⟩ : ∃ ad, A = some ad := by
        cases hA : A with
        | none => have := HS.out.nil hA; omega
        | some ad => exact ⟨ad, rfl⟩
      subst hA
      obtain ⟨x, hx⟩ : ∃ x, l[k]? = some x := ⟨l[k]'(by rw [HLN.out]; exact hlt), List.getElem?_eq_getElem _⟩
      have hcx := HS.out.cells ad rfl k (byteV x) (by rw [List.getElem?_map, hx]; rfl)
      unfold byteV at hcx
      obtain ⟨R, hR⟩ : ∃ R, R = reg (all1 ^^^ s) (l.take k) := ⟨_, rfl⟩
      have hR32 : R < 4294967296 := by rw [hR]; exact reg_lt hr0 _
      rw [← hR]
      have hx8 := x.toNat_lt
      obtain ⟨J, hJ⟩ : ∃ J : Nat, J = (R % 256) ^^^ x.toNat := ⟨_, rfl⟩
      have hj : J < 256 := by rw [hJ]; exact xor_lt8 (by omega) (by omega)
      have hjz : (J : Int) < 256 := by omega
      have hxi : bits .xor .u8 ((R : Int) % 256) (x.toNat : Int) = (J : Int) := by
        rw [show (R : Int) % 256 = ((R % 256 : Nat) : Int) by omega, u8_xor_nat _ _ (by omega) (by omega), ← hJ]
      have ht := HT.out _ hj
      have hxo : bits .xor .u32 ((R : Int) / 256) ((s8 J : Nat) : Int) = ((step R x : Nat) : Int) := by
        rw [show (R : Int) / 256 = ((R / 256 : Nat) : Int) by omega, u32_xor_nat _ _ (by omega) (s8_lt (by omega)), step_tab, hJ]
      have HJ := Lib.hid hJ
      clear hJ
      have HR := Lib.hid hR
      have HX := Lib.hid hx
      clear hR hx
      obtain ⟨blk, off, sp⟩ := ad
      go_wp2
      go_round
      case rel =>
        refine ⟨k + 1, by omega, by go_num, ?_⟩
        rw [reg_snoc _ HX.out, ← HR.out]
      case measure => simp [intOf]; omega
    · obtain rfl : k = n := by omega
      have hlz : ¬ ((k : Int) < (k : Int)) := by omega
      have hrl : l.take k = l := List.take_of_length_le (by rw [HLN.out]; exact Nat.le_refl _)
      rw [hrl]
      have hinv2 := inv_u32 (reg (all1 ^^^ s) l) (reg_lt hr0 l)
      clear hrl
      go_wp2
      go_ret
      exact ⟨rfl, HB.out.alloc HB.out.size _⟩

set_option maxRecDepth 100000 in
theorem sum_any (w : World) (A : Option Addr) (n c : Nat) (l : Nm) (hl : BytesIn w A n l) :
    Calls Try.prog 45 #[.slice A n c] w fun e w' => e = .returned (.int .u32 (sumN l)) ∧ Below w.heap.size w w' := by
  have HL := Lib.hid hl
  clear hl
  go_enter Try.func45, Try.ntmps45
  go_wp2_with fail
  refine (more_any w 0 (by decide) A n c l HL.out).mono ?_
  rintro e w' ⟨rfl, hb⟩
  have HB := Lib.hid hb
  clear hb
  go_wp2
  go_ret
  exact ⟨rfl, HB.out⟩

end Go.Proofs.Ytdmhaaplgkilpaa
