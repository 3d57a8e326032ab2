/- The contract of the document's New, for a seat that has no Bytes. -/
import Derived.Test.YtmhiekbpmoikfaaGreatDoorZp2
namespace Go.Proofs.YtmhiekbpmoikfaaGreatDoor
open Go.RowKit Go.Maps Go.WideMaps

theorem own_le {w : World} {base : Nat} {e : TypeId} {A : Option Addr} {n c : Nat} {xs : List Value} (h : w.ownsRow base e 1 (.slice A n c) n xs) : n ≤ c := by
  obtain ⟨A', c', h1, h2⟩ := own_cap h
  injection h1 with _ _ h3
  omega
theorem reader3Info : (Tryz.prog.info? 105).map (fun i => (i.zero, i.size)) = some (some (.agg #[.slice none 0 0, .int .i64 0, .int .i64 0]), 3) := by kernel_rfl

set_option maxHeartbeats 4000000 in
set_option maxRecDepth 100000 in
theorem r3New_any (w : World) (A : Option Addr) (n c : Nat) (l : Nm) (hl : BytesIn w A n l) (hn : n ≤ 1099511627776) :
    Calls Tryz.prog 61 #[.slice A n c] w fun e w' => ∃ b A' c', e = .returned (at0 b) ∧ w.heap.size ≤ b ∧ IsR3 w' b ⟨l, 0, 0⟩ A' c' ∧ Below w.heap.size w w' ∧ (∀ ad, A' = some ad → 0 < n → w.heap.size ≤ ad.block) := by
  have HL := Lib.hid (BytesIn.below hl ((Below.refl _ w).alloc (Nat.le_refl _) (.cells #[] 5)))
  have hln : l.length = n := by have := hl.2.1.len; simpa using this
  have HLN := Lib.hid hln
  clear hl hln
  obtain ⟨i0, hi, hz0, hz1, hz2⟩ := info_parts byteInfo
  go_enter Tryz.func61, Tryz.ntmps61
  go_wp2_with (at_builtin; refine wpList_append_src _ rfl (.tmp 3) (.tmp 4) 25 rfl w.heap.size 5 i0 (.int .u8 0) 1 Tryz.underlying25 hi hz0 hz1 hz2 rfl _ 0 [] rfl (World.ownsRow_made w #[] 0 (Nat.le_refl _) (Nat.zero_le _) rfl) A n c (l.map byteV) rfl HL.out.2.1 (u8_one l) (by unfold maxLen; omega) (by omega) (by simp) ?_; intro v w2 hown hgrow hloc; obtain ⟨A2, c2, hv⟩ := own_slice hown; subst hv; rw [Nat.zero_add, List.nil_append] at hown; have HO := Lib.hid hown; have HB : Hid (Below w.heap.size w w2) := Lib.hid ((((Below.refl _ w).alloc (Nat.le_refl _) (.cells #[] 5)).grown hgrow (by simp) (fun k e => by cases e; exact Nat.le_refl _))); clear hown hgrow hloc)
  go_ret
  have hs := HB.out.size
  have h2 : BytesIn w2 A2 n l := BytesIn.own HO.out (by unfold maxLen; omega)
  have h3 := h2.below ((Below.refl _ w2).alloc (Nat.le_refl _) (.cells #[.slice A2 n c2, .int .i64 0, .int .i64 0] 105))
  refine ⟨w2.heap.size, A2, c2, rfl, hs, ⟨?_, ?_, ?_, ?_, ⟨Nat.zero_le _⟩, ?_⟩, HB.out.alloc hs _, fun ad e h0 => ?_⟩
  · rw [HLN.out]
    exact Blk.new w2 _ _
  · rw [HLN.out]; exact h3
  · rw [HLN.out]; exact own_le HO.out
  · rw [HLN.out]
    intro ad e h0
    have := h2.2.2 ad e h0
    omega
  · show l.length ≤ _
    rw [HLN.out]; exact hn
  · exact (HO.out.lt ad.block (by rw [e]; rfl)).1
end Go.Proofs.YtmhiekbpmoikfaaGreatDoor
