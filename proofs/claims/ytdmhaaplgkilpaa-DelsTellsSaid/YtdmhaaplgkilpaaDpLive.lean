/- The landed dels: New, Size, Live. -/
import Derived.Test.YtdmhaaplgkilpaaDpHas
import Derived.Test.YtdmhaaplgkilpaaKOwn
namespace Go.Proofs.Ytdmhaaplgkilpaa
open Go.RowKit Go.Maps Go.WideMaps
set_option linter.unusedSimpArgs false

def noB : List UInt8 := [0, 0, 0, 0, 0, 0, 0, 0]
theorem noB_bit (i : Nat) : bitOf noB i = false := by
  unfold bitOf
  have : noB.getD (i / 8) 0 = 0 := by
    rcases Nat.lt_or_ge (i / 8) 8 with h | h
    · have key : ∀ k, k < 8 → noB.getD k 0 = 0 := by decide
      exact key _ h
    · rw [List.getD_eq_getElem?_getD, List.getElem?_eq_none (by exact h), Option.getD_none]
  rw [this]
  simp
set_option maxHeartbeats 4000000 in
set_option maxRecDepth 100000 in
theorem dpNew_yes (w : World) (k : Nat) (h1 : k ≤ 64) :
    Calls Try.prog 14 #[.int .i64 k] w fun e w' => e = .returned (.pointer (some ⟨w.heap.size, 0, none⟩)) ∧ IsB w' w.heap.size k noB ∧ Below w.heap.size w w' := by
  have h2 : ¬ (k : Int) < 0 := by omega
  have h3 : ¬ (64 : Int) < (k : Int) := by omega
  go_enter Try.func14, Try.ntmps14
  go_wp2
  go_ret
  exact ⟨rfl, ⟨Blk.new _ _ _, rfl, h1⟩, (Below.refl _ w).alloc (Nat.le_refl _) _⟩
set_option maxHeartbeats 4000000 in
set_option maxRecDepth 100000 in
theorem dpNew_no (w : World) (n : Int) (h : ¬ (0 ≤ n ∧ n ≤ 64)) :
    Calls Try.prog 14 #[.int .i64 n] w fun e w' => e = .returned (.pointer none) ∧ w' = w := by
  by_cases h0 : 0 ≤ n
  · have h2 : ¬ n < 0 := by omega
    have h3 : (64 : Int) < n := by omega
    clear h h0
    go_enter Try.func14, Try.ntmps14
    go_wp2
    go_ret
    exact ⟨rfl, rfl⟩
  · have h2 : n < 0 := by omega
    clear h h0
    go_enter Try.func14, Try.ntmps14
    go_wp2
    go_ret
    exact ⟨rfl, rfl⟩

set_option maxHeartbeats 4000000 in
set_option maxRecDepth 100000 in
theorem dpSize_any {w : World} {b n : Nat} {l : List UInt8} (h : IsB w b n l) :
    Calls Try.prog 10 #[.pointer (some ⟨b, 0, none⟩)] w fun e w' => e = .returned (.int .i64 n) ∧ w' = w := by
  have c0 := h.c0
  clear h
  go_enter Try.func10, Try.ntmps10
  go_wp2
  go_ret
  exact ⟨rfl, rfl⟩

/-- Those that are left among the first k. -/
def liveTo (f : Nat → Bool) (k : Nat) : List Int := ((List.range k).filter fun i => !f i).map Int.ofNat
theorem liveTo_yes {f : Nat → Bool} {k : Nat} (h : f k = true) : liveTo f (k + 1) = liveTo f k := by
  unfold liveTo
  rw [List.range_succ, List.filter_append, List.map_append]
  simp [h]
theorem liveTo_no {f : Nat → Bool} {k : Nat} (h : f k = false) : liveTo f (k + 1) = liveTo f k ++ [(k : Int)] := by
  unfold liveTo
  rw [List.range_succ, List.filter_append, List.map_append]
  simp [h]
theorem liveTo_le (f : Nat → Bool) (k : Nat) : (liveTo f k).length ≤ k := by
  unfold liveTo
  rw [List.length_map]
  have := List.length_filter_le (fun i => !f i) (List.range k)
  rw [List.length_range] at this
  exact this
theorem liveTo_fits (f : Nat → Bool) {k : Nat} (hk : k ≤ 64) : ∀ x ∈ liveTo f k, -9223372036854775808 ≤ x ∧ x ≤ 9223372036854775807 := by
  intro x hx
  obtain ⟨i, hi, rfl⟩ := List.mem_map.1 hx
  have := List.mem_range.1 (List.mem_filter.1 hi).1
  show -9223372036854775808 ≤ (i : Int) ∧ (i : Int) ≤ 9223372036854775807
  omega
theorem own_alloc64 {w : World} {base n : Nat} {v : Value} {xs : List Value} (h : w.ownsRow base 2 1 v n xs) (o : Obj) : (w.alloc o).ownsRow base 2 1 v n xs := World.ownsRow.alloc h o
theorem intInfo64d : (Try.prog.info? 2).map (fun i => (i.zero, i.size, i.bytes)) = some (some (.int .i64 0), 1, 8) := by kernel_rfl
set_option maxHeartbeats 8000000 in
set_option maxRecDepth 100000 in
theorem dpLive_any {w : World} {b n : Nat} {l : List UInt8} (h : IsB w b n l) :
    Calls Try.prog 12 #[.pointer (some ⟨b, 0, none⟩)] w fun e w' => ∃ A c, e = .returned (.slice A (liveTo (bitOf l) n).length c) ∧ w'.ownsRow w.heap.size 2 1 (.slice A (liveTo (bitOf l) n).length c) (liveTo (bitOf l) n).length ((liveTo (bitOf l) n).map i64V) ∧ Below w.heap.size w w' := by
  have HH := Lib.hid h
  have c0 := h.c0
  have hn := h.few
  have hbl := h.blk.lt
  obtain ⟨i0, hi, hz0, hz1, hz2⟩ := info_parts intInfo64d
  obtain ⟨f, hf⟩ : ∃ f, f = bitOf l := ⟨_, rfl⟩
  rw [← hf]
  have HF := Lib.hid hf
  clear h hf
  go_enter Try.func12, Try.ntmps12
  go_wp2_with fail
  go_loopw [3, 9] (fun v jv wr => ∃ (j : Nat), j ≤ n ∧ jv = .int .i64 j ∧ wr.ownsRow w.heap.size 2 1 v (liveTo f j).length ((liveTo f j).map i64V) ∧ Below w.heap.size w wr) (fun _ jv _ => n - (intOf jv).toNat)
  case atStart => exact ⟨0, by omega, rfl, ⟨rfl, .inl ⟨rfl, rfl⟩⟩, Below.refl _ _⟩
  case round =>
    obtain ⟨j, hj, rfl, ho, hb⟩ := hrel
    have HB := Lib.hid hb
    have hs := hb.size
    have hrl := liveTo_le f j
    have HO := Lib.hid ho
    obtain ⟨A0, c0', hv0⟩ := own_slice ho
    subst hv0
    have HD : Hid (IsB wr b n l) := Lib.hid (HH.out.of_block (HB.out.block b hbl))
    clear ho hb
    rcases Nat.lt_or_ge j n with hlt | hge
    · have hlt' : (j : Int) < (n : Int) := by omega
      have hw1 : IntKind.i64.wrap ((j : Int) + 1) = (j : Int) + 1 := IntWalk.i64_in _ (by omega)
      have hh : dHas ⟨n, bitOf l⟩ j = f j := by unfold dHas; simp only; rw [decide_eq_true (⟨by omega, hlt'⟩ : 0 ≤ (j : Int) ∧ (j : Int) < (n : Int)), Bool.true_and, Int.toNat_natCast, HF.out]
      have HC : Hid (Calls Try.prog 18 #[.pointer (some ⟨b, 0, none⟩), .int .i64 j] wr fun e w' => e = .returned (.bool (f j)) ∧ ∃ q, w' = wr.drewN q) := Lib.hid (by rw [← hh]; exact dpHas_any HD.out j (by unfold fits64; omega))
      obtain ⟨t, ht⟩ : ∃ t, t = f j := ⟨_, rfl⟩
      rw [← ht] at HC
      have HT := Lib.hid ht
      clear hh ht
      go_wp2_with fail
      refine HC.out.mono ?_
      rintro e w1 ⟨rfl, q, hw1q⟩
      have HB1 : Hid (Below w.heap.size w w1) := Lib.hid (by rw [hw1q]; exact below_drewN HB.out q)
      have HO1 : Hid (w1.ownsRow w.heap.size 2 1 (.slice A0 (liveTo f j).length c0') (liveTo f j).length ((liveTo f j).map i64V)) := Lib.hid (by rw [hw1q]; exact ownsRow_block HO.out fun _ _ => rfl)
      have hs1 := HB1.out.size
      clear hw1q HC
      cases t with
      | true =>
        have HST := Lib.hid (liveTo_yes HT.out.symm)
        go_wp2
        go_roundw
        case rel => exact ⟨j + 1, by omega, by go_num, by rw [HST.out]; exact HO1.out, HB1.out⟩
        case measure => simp [intOf]; omega
      | false =>
        have HST := Lib.hid (liveTo_no HT.out.symm)
        have HO2 := Lib.hid (own_alloc64 HO1.out (.cells #[.int .i64 j] 2))
        have HB2 := Lib.hid (HB1.out.alloc hs1 (.cells #[.int .i64 j] 2))
        have HSRC := Lib.hid (one_int_src w1 2 j)
        clear HO HT HO1
        go_wp2_with (at_builtin; refine wpList_append_src _ rfl (.tmp 16) (.tmp 18) 22 rfl w.heap.size 2 i0 (.int .i64 0) 8 Try.underlying22 hi hz0 hz1 hz2 rfl _ (liveTo f j).length ((liveTo f j).map i64V) rfl HO2.out _ 1 1 ([(j : Int)].map i64V) rfl HSRC.out (i64V_one _) (by unfold maxLen; omega) (by omega) (by have := HB1.out.size; simp; omega) ?_; intro v w3 hown hgrow hloc; obtain ⟨A2, c2, hv⟩ := own_slice hown; subst hv; have HO3 := Lib.hid hown; have HB3 : Hid (Below w.heap.size w w3) := Lib.hid (HB2.out.grown hgrow HB2.out.size (fun g hg => (HO2.out.lt g hg).1)); clear hown hgrow hloc)
        go_roundw
        case rel => exact ⟨j + 1, by omega, by go_num, by rw [HST.out, List.map_append, List.length_append]; exact HO3.out, HB3.out⟩
        case measure => simp [intOf]; omega
    · have hlz : ¬ ((j : Int) < (n : Int)) := by omega
      obtain rfl : j = n := by omega
      go_wp2
      go_ret
      exact ⟨_, _, rfl, HO.out, HB.out⟩
end Go.Proofs.Ytdmhaaplgkilpaa
