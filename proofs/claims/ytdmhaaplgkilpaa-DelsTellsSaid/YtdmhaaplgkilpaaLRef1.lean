/- The contracts of the document's Put and Get. -/
import Derived.Test.YtdmhaaplgkilpaaLWords
import Derived.Test.YtdmhaaplgkilpaaKHead
import Derived.Test.YtdmhaaplgkilpaaLMath
import Derived.Laws.BitsAllLaws
import Derived.Deep.QuietTactic
import Derived.BigQuiet
namespace Go.Proofs.Ytdmhaaplgkilpaa
open Go.RowKit Go.Maps Go.WideMaps

set_option maxHeartbeats 4000000 in
set_option maxRecDepth 100000 in
theorem r3Put_any (w : World) (n : Nat) (hn : n < 18446744073709551616) :
    Calls Try.prog 37 #[.int .u64 n] w fun e w' => ∃ v, e = .returned v ∧ w'.ownsRow w.heap.size 5 1 v (putL n).length ((putL n).map byteV) ∧ Below w.heap.size w w' := by
  obtain ⟨i0, hi, hz0, hz1, hz2⟩ := info_parts byteInfo
  go_enter Try.func37, Try.ntmps37
  go_wp2
  go_loopw [0, 3] (fun s v wr => ∃ (m : Nat) (xs : Nm), s = .int .u64 m ∧ m ≤ n ∧ xs ++ putL m = putL n ∧ Below w.heap.size w wr ∧ wr.ownsRow w.heap.size 5 1 v xs.length (xs.map byteV)) (fun s _ _ => (intOf s).toNat)
  case atStart => exact ⟨n, [], rfl, Nat.le_refl _, rfl, Below.refl _ _, ⟨rfl, .inl ⟨rfl, rfl⟩⟩⟩
  case round =>
    obtain ⟨m, xs, rfl, hm, hx, hB, hO⟩ := hrel
    have HX := Lib.hid hx
    have HB := Lib.hid hB
    have HO := Lib.hid hO
    clear hx hB hO
    have hlen : xs.length ≤ 10 := by
      have h1 := putL_len n (by omega)
      rw [← HX.out, List.length_append] at h1
      omega
    obtain ⟨Av, cv, hv⟩ := own_slice HO.out
    subst hv
    rcases Nat.lt_or_ge m 128 with hs | hb
    · have hsz : ¬ (m : Int) ≥ 128 := by omega
      obtain ⟨x, rfl⟩ : ∃ x : UInt8, m = x.toNat := ⟨UInt8.ofNat m, (ofNat_toNat (by omega)).symm⟩
      have hmz : (x.toNat : Int) % 256 = (x.toNat : Int) := by omega
      have hfin : putL n = xs ++ [x] := by rw [← HX.out, putL_small hs]; simp
      have HF := Lib.hid hfin
      clear hfin
      go_wp2_with (at_builtin; refine wpList_append_src _ rfl (.tmp 15) (.tmp 18) 23 rfl w.heap.size 5 i0 (.int .u8 0) 1 Try.underlying23 hi hz0 hz1 hz2 rfl _ xs.length _ rfl (own_alloc HO.out _) _ 1 1 _ rfl (one_src wr x) (u8_one [x]) (by unfold maxLen; omega) (by omega) (by have := HB.out.size; simp; omega) ?_; intro v w2 hown hgrow _; have HO2 := Lib.hid hown; have HB2 := Lib.hid ((HB.out.alloc HB.out.size _).grown hgrow (by have := HB.out.size; simp; omega) (fun g hg => (HO.out.lt g hg).1)); clear hown hgrow)
      go_ret
      refine ⟨_, rfl, ?_, HB2.out⟩
      rw [HF.out, List.length_append, List.map_append]
      exact HO2.out
    · have hbz : (m : Int) ≥ 128 := by omega
      have h1 := and127_64 m (by omega)
      obtain ⟨q, hq⟩ : ∃ q, q = m % 128 + 128 := ⟨_, rfl⟩
      obtain ⟨x, hxq⟩ : ∃ x, x = UInt8.ofNat q := ⟨_, rfl⟩
      have h2 : bits .or .u64 ((m : Int) % 128) 128 = (q : Int) := by
        rw [show (m : Int) % 128 = ((m % 128 : Nat) : Int) by omega, or128_64 (m % 128) (by omega), hq]
      have h3 : (q : Int) % 256 = (x.toNat : Int) := by rw [hxq, ofNat_toNat (by omega)]; omega
      have hnx : (xs ++ [x]) ++ putL (m / 128) = putL n := by
        rw [← HX.out, putL_big (n := m) (by omega), hxq, hq, List.append_assoc]
        rfl
      have HN := Lib.hid hnx
      clear hnx hxq hq
      go_wp2_with (at_builtin; refine wpList_append_src _ rfl (.tmp 6) (.tmp 11) 23 rfl w.heap.size 5 i0 (.int .u8 0) 1 Try.underlying23 hi hz0 hz1 hz2 rfl _ xs.length _ rfl (own_alloc HO.out _) _ 1 1 _ rfl (one_src wr x) (u8_one [x]) (by unfold maxLen; omega) (by omega) (by have := HB.out.size; simp; omega) ?_; intro v w2 hown hgrow _)
      have HO2 := Lib.hid hown
      have HB2 := Lib.hid ((HB.out.alloc HB.out.size _).grown hgrow (by have := HB.out.size; simp; omega) (fun g hg => (HO.out.lt g hg).1))
      clear hown hgrow
      refine ⟨⟨m / 128, xs ++ [x], by go_num, by omega, HN.out, HB2.out, ?_⟩, ?_⟩
      · rw [List.length_append, List.map_append]
        exact HO2.out
      · simp [intOf]
        omega
end Go.Proofs.Ytdmhaaplgkilpaa

