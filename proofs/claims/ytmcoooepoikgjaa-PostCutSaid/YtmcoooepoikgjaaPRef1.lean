/- The document's pos, at: what they answer of any spots. -/
import Derived.Test.YtmcoooepoikgjaaKPosts
import Derived.Test.YtmcoooepoikgjaaKInts
import Derived.Test.YtmcoooepoikgjaaPMath3
import Derived.Deep.QuietTactic
import Derived.BigQuiet
namespace Go.Proofs.Ytmcoooepoikgjaa
open Go.RowKit Go.Maps Go.WideMaps
set_option linter.unusedSimpArgs false

theorem int64Info : (Try.prog.info? 2).map (fun i => (i.zero, i.size, i.bytes)) = some (some (.int .i64 0), 1, 8) := by kernel_rfl

set_option maxHeartbeats 4000000 in
set_option maxRecDepth 100000 in
theorem r9pos_any (w : World) (A : Option Addr) (n c : Nat) (s : List (Int × Int)) (hs : PairsIn w A n s) (hn : n ≤ 1099511627776) :
    Calls Try.prog 46 #[.slice A n c] w fun e w' => ∃ v, e = .returned v ∧ w'.ownsRow w.heap.size 2 1 v n ((poss s).map i64V) ∧ Below w.heap.size w w' := by
  obtain ⟨i0, hi, hz0, hz1, hz2⟩ := info_parts int64Info
  have HS := Lib.hid hs
  have HLEN := Lib.hid hs.len
  obtain ⟨l, hl⟩ : ∃ l, l = poss s := ⟨_, rfl⟩
  rw [← hl]
  have HL := Lib.hid hl
  have hll : l.length = n := by rw [hl]; simp [poss, hs.len]
  have HLL := Lib.hid hll
  clear hs hl hll
  go_enter Try.func46, Try.ntmps46
  go_wp2
  go_loopw [3, 4] (fun v i wr => ∃ k : Nat, k ≤ n ∧ i = .int .i64 k ∧ wr.ownsRow w.heap.size 2 1 v k ((l.take k).map i64V) ∧ Below w.heap.size w wr) (fun _ i _ => n - (intOf i).toNat)
  case atStart => exact ⟨0, by omega, rfl, ⟨rfl, .inl ⟨rfl, rfl⟩⟩, Below.refl _ _⟩
  case round =>
    obtain ⟨k, hk, rfl, hO, hB⟩ := hrel
    have HO := Lib.hid hO
    have HB := Lib.hid hB
    clear hO hB
    obtain ⟨Av, cv, hv⟩ := own_slice HO.out
    subst hv
    rcases Nat.lt_or_ge k n with hlt | hge
    · have hlt' : (k : Int) < (n : Int) := by omega
      have p0 : (0 : Int) ≤ (k : Int) := by omega
      have hw5 : IntKind.i64.wrap ((k : Int) + 1) = (k : Int) + 1 := IntWalk.i64_in _ (by omega)
      obtain ⟨pa, x, rfl, hx, a0, a1, -, -⟩ := (HS.out.below HB.out).at k hlt
      obtain ⟨x1, x2⟩ := x
      simp only at a0 a1
      have a0' : ∀ q, (wr.drewN q).cell? (pa.add (k * 2)) = some (.int .i64 x1) := fun _ => a0
      have a1' : ∀ q, (wr.drewN q).cell? ⟨(pa.add (k * 2)).block, (pa.add (k * 2)).off + 1, none⟩ = some (.int .i64 x2) := fun _ => a1
      have htk : l.take (k + 1) = l.take k ++ [x1] := by
        rw [List.take_add_one, HL.out]
        simp [poss, hx]
      have HTK := Lib.hid htk
      clear hx htk
      go_wp2_with (at_builtin; refine wpList_append_src _ rfl (.tmp 11) (.tmp 17) 64 rfl w.heap.size 2 i0 (.int .i64 0) 8 Try.underlying64 hi hz0 hz1 hz2 rfl _ k _ rfl (World.ownsRow.alloc HO.out _) _ 1 1 _ rfl (one_int_src wr 2 x1) (i64V_one [x1]) (by unfold maxLen; omega) (by omega) (by have := HB.out.size; simp; omega) ?_; intro v3 w3 hown hgrow _; have HO3 := Lib.hid hown; have HB3 := Lib.hid ((HB.out.alloc HB.out.size _).grown hgrow (by have := HB.out.size; simp; omega) (fun g hg => (HO.out.lt g hg).1)); clear hown hgrow)
      go_roundw
      case rel =>
        refine ⟨k + 1, by omega, by go_num, ?_, HB3.out⟩
        rw [HTK.out, List.map_append]
        exact HO3.out
      case measure => simp [intOf]; omega
    · obtain rfl : k = n := by omega
      have hlz : ¬ ((k : Int) < (k : Int)) := by omega
      have hall : l.take k = l := List.take_of_length_le (by rw [HLL.out]; exact Nat.le_refl _)
      rw [hall] at HO
      go_wp2
      go_ret
      exact ⟨_, rfl, HO.out, HB.out⟩

set_option maxHeartbeats 4000000 in
set_option maxRecDepth 100000 in
theorem r9at_any (w : World) (A : Option Addr) (n c : Nat) (s : List (Int × Int)) (hs : PairsIn w A n s) (hn : n ≤ 1099511627776) :
    Calls Try.prog 47 #[.slice A n c] w fun e w' => ∃ v, e = .returned v ∧ w'.ownsRow w.heap.size 2 1 v n ((atss s).map i64V) ∧ Below w.heap.size w w' := by
  obtain ⟨i0, hi, hz0, hz1, hz2⟩ := info_parts int64Info
  have HS := Lib.hid hs
  have HLEN := Lib.hid hs.len
  obtain ⟨l, hl⟩ : ∃ l, l = atss s := ⟨_, rfl⟩
  rw [← hl]
  have HL := Lib.hid hl
  have hll : l.length = n := by rw [hl]; simp [atss, hs.len]
  have HLL := Lib.hid hll
  clear hs hl hll
  go_enter Try.func47, Try.ntmps47
  go_wp2
  go_loopw [3, 4] (fun v i wr => ∃ k : Nat, k ≤ n ∧ i = .int .i64 k ∧ wr.ownsRow w.heap.size 2 1 v k ((l.take k).map i64V) ∧ Below w.heap.size w wr) (fun _ i _ => n - (intOf i).toNat)
  case atStart => exact ⟨0, by omega, rfl, ⟨rfl, .inl ⟨rfl, rfl⟩⟩, Below.refl _ _⟩
  case round =>
    obtain ⟨k, hk, rfl, hO, hB⟩ := hrel
    have HO := Lib.hid hO
    have HB := Lib.hid hB
    clear hO hB
    obtain ⟨Av, cv, hv⟩ := own_slice HO.out
    subst hv
    rcases Nat.lt_or_ge k n with hlt | hge
    · have hlt' : (k : Int) < (n : Int) := by omega
      have p0 : (0 : Int) ≤ (k : Int) := by omega
      have hw5 : IntKind.i64.wrap ((k : Int) + 1) = (k : Int) + 1 := IntWalk.i64_in _ (by omega)
      obtain ⟨pa, x, rfl, hx, a0, a1, -, -⟩ := (HS.out.below HB.out).at k hlt
      obtain ⟨x1, x2⟩ := x
      simp only at a0 a1
      have a0' : ∀ q, (wr.drewN q).cell? (pa.add (k * 2)) = some (.int .i64 x1) := fun _ => a0
      have a1' : ∀ q, (wr.drewN q).cell? ⟨(pa.add (k * 2)).block, (pa.add (k * 2)).off + 1, none⟩ = some (.int .i64 x2) := fun _ => a1
      have htk : l.take (k + 1) = l.take k ++ [x2] := by
        rw [List.take_add_one, HL.out]
        simp [atss, hx]
      have HTK := Lib.hid htk
      clear hx htk
      go_wp2_with (at_builtin; refine wpList_append_src _ rfl (.tmp 11) (.tmp 17) 64 rfl w.heap.size 2 i0 (.int .i64 0) 8 Try.underlying64 hi hz0 hz1 hz2 rfl _ k _ rfl (World.ownsRow.alloc HO.out _) _ 1 1 _ rfl (one_int_src wr 2 x2) (i64V_one [x2]) (by unfold maxLen; omega) (by omega) (by have := HB.out.size; simp; omega) ?_; intro v3 w3 hown hgrow _; have HO3 := Lib.hid hown; have HB3 := Lib.hid ((HB.out.alloc HB.out.size _).grown hgrow (by have := HB.out.size; simp; omega) (fun g hg => (HO.out.lt g hg).1)); clear hown hgrow)
      go_roundw
      case rel =>
        refine ⟨k + 1, by omega, by go_num, ?_, HB3.out⟩
        rw [HTK.out, List.map_append]
        exact HO3.out
      case measure => simp [intOf]; omega
    · obtain rfl : k = n := by omega
      have hlz : ¬ ((k : Int) < (k : Int)) := by omega
      have hall : l.take k = l := List.take_of_length_le (by rw [HLL.out]; exact Nat.le_refl _)
      rw [hall] at HO
      go_wp2
      go_ret
      exact ⟨_, rfl, HO.out, HB.out⟩
end Go.Proofs.Ytmcoooepoikgjaa
