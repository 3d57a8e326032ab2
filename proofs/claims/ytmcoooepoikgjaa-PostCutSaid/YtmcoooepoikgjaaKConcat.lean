/- slices.Concat of any rows of bytes. -/
import Derived.Test.YtmcoooepoikgjaaKRows
import Derived.Lib.AppendZerosOnto
namespace Go.Proofs.Ytmcoooepoikgjaa
open Go.RowKit Go.Maps Go.WideMaps

/-- How long all rows up to one are. -/
def lenUp (L : List Nm) (k : Nat) : Nat := (L.take k).flatten.length
theorem lenUp_le (L : List Nm) (k : Nat) : lenUp L k ≤ L.flatten.length := by
  unfold lenUp
  conv => rhs; rw [← List.take_append_drop k L, List.flatten_append, List.length_append]
  omega
theorem flat_snoc {L : List Nm} {k : Nat} {x : Nm} (h : L[k]? = some x) : (L.take (k + 1)).flatten = (L.take k).flatten ++ x := by
  rw [List.take_add_one, h, Option.toList_some, List.flatten_append]
  simp
theorem lenUp_snoc {L : List Nm} {k : Nat} {x : Nm} (h : L[k]? = some x) : lenUp L (k + 1) = lenUp L k + x.length := by
  unfold lenUp
  rw [flat_snoc h, List.length_append]

set_option maxHeartbeats 4000000 in
set_option maxRecDepth 100000 in
theorem kGrow_any (w : World) (n : Nat) (h0 : 0 < n) (hn : n ≤ 1099511627776) :
    Calls Try.prog 40 #[.slice none 0 0, .int .i64 n] w fun e w' => ∃ c, e = .returned (.slice (some ⟨w.heap.size, 0, none⟩) 0 c) ∧ w'.ownsRow w.heap.size 5 1 (.slice (some ⟨w.heap.size, 0, none⟩) 0 c) 0 [] ∧ Below w.heap.size w w' := by
  obtain ⟨i0, hi, hz0, hz1, hz2⟩ := info_parts byteInfo
  have hG := grownCap_le_maxLen w n 0 5 (by unfold maxLen; omega)
  have hGn : n ≤ grownCap w n 0 5 := grownCap_ge w _ _ _
  have hfit : Builtin.nextslicecap n 0 * i0.bytes ≤ 281474976710656 := growslice_fits (by omega) (by rw [hz2]; omega)
  have hrz : ∀ ty, (Builtin.append_ #[23, 3] ty #[.slice none 0 0, .int .i64 (n : Int)]).run Try.prog w =
      .ok (.slice (some ⟨w.heap.size, 0, none⟩) n (grownCap w n 0 5)) (w.drew.alloc (.cells (#[] ++ Builtin.zeroCells (Value.int .u8 0).cells n ++ Builtin.zeroCells (Value.int .u8 0).cells (grownCap w n 0 5 - n)) 5)) := fun ty => by
    have h := Lib.run_append_grow_zeros w 23 3 ty 5 i0 (.int .u8 0) .i64 .i64 Try.underlying23 Try.underlying3 hi hz0 none 0 0 [] (run_firstCells_none w.drew i0.size 0 0 0) n h0 (by rw [hz1]; omega) (by omega) (by omega) (by rw [hz2]; omega) (by simpa using hfit)
    simpa using h
  obtain ⟨G, hGe⟩ : ∃ G, G = grownCap w n 0 5 := ⟨_, rfl⟩
  rw [← hGe] at hG hGn hrz
  have hown := World.ownsRow_made (base := w.heap.size) (e := 5) (size := 1) w.drew (#[] ++ Builtin.zeroCells (Value.int .u8 0).cells n ++ Builtin.zeroCells (Value.int .u8 0).cells (G - n)) G (Nat.le_refl _) hG (by
    simp only [Array.size_append, size_zeroCells]
    have : (Value.int .u8 0).cells.size = 1 := rfl
    rw [this]
    simp
    omega)
  have hbel : Below w.heap.size w (w.drew.alloc (.cells (#[] ++ Builtin.zeroCells (Value.int .u8 0).cells n ++ Builtin.zeroCells (Value.int .u8 0).cells (G - n)) 5)) := (Below.refl _ w).drew.alloc (Nat.le_refl _) _
  obtain ⟨W2, hW2⟩ : ∃ W2, W2 = w.drew.alloc (.cells (#[] ++ Builtin.zeroCells (Value.int .u8 0).cells n ++ Builtin.zeroCells (Value.int .u8 0).cells (G - n)) 5) := ⟨_, rfl⟩
  rw [← hW2] at hrz hown hbel
  have HO := Lib.hid hown
  have HB := Lib.hid hbel
  have hs0 : ∀ w : World, (Instr.slice 23 (.slice none 0 0) none (some (.int .i64 0)) none).run Try.prog w = .ok (.slice none 0 0) w := fun w => by
    have := slice_to w none 0 0 0 (Nat.le_refl _)
    simpa using this
  have hs1 : ∀ w1 : World, (Instr.slice 23 (.slice (some ⟨w.heap.size, 0, none⟩) n G) none (some (.int .i64 0)) none).run Try.prog w1 = .ok (.slice (some ⟨w.heap.size, 0, none⟩) 0 G) w1 := fun w1 => by
    have := slice_to w1 (some ⟨w.heap.size, 0, none⟩) n G 0 (Nat.zero_le _)
    simpa using this
  have p1 : (0 : Int) < (n : Int) := by omega
  have p2 : ¬ (n : Int) < 0 := by omega
  have p3 : (n : Int) ≤ 1099511627776 := by omega
  clear hG hGn hfit hGe hown hbel hW2 hi hz0 hz1 hz2
  go_enter Try.func40, Try.ntmps40
  go_wp2_with (at_builtin; refine Lib.wpList_append_run _ rfl _ _ _ _ rfl _ _ rfl rfl _ _ (hrz _) ?_)
  go_ret
  exact ⟨G, rfl, HO.out, HB.out⟩

set_option maxHeartbeats 4000000 in
set_option maxRecDepth 100000 in
/-- slices.Concat of some rows, not all of them empty. -/
theorem kConcat_any (w : World) (A : Option Addr) (k c : Nat) (L : List Nm) (h : RowsSee w A k L) (h0 : 0 < L.flatten.length) (hn : L.flatten.length ≤ 1099511627776) (hk : k ≤ 1099511627776) :
    Calls Try.prog 17 #[.slice A k c] w fun e w' => ∃ v, e = .returned v ∧ w'.ownsRow w.heap.size 5 1 v L.flatten.length (L.flatten.map byteV) ∧ Below w.heap.size w w' := by
  obtain ⟨i0, hi, hz0, hz1, hz2⟩ := info_parts byteInfo
  have HL := Lib.hid h
  have HLEN := Lib.hid h.len
  obtain ⟨Z, hZ⟩ : ∃ Z, Z = L.flatten := ⟨_, rfl⟩
  rw [← hZ] at h0 hn ⊢
  obtain ⟨N, hN⟩ : ∃ N, N = Z.length := ⟨_, rfl⟩
  rw [← hN] at h0 hn ⊢
  have HZ := Lib.hid hZ
  have HN := Lib.hid hN
  have HUP : Hid (∀ i, lenUp L i ≤ N) := Lib.hid fun i => by rw [hN, hZ]; exact lenUp_le L i
  clear h hZ hN
  go_enter Try.func17, Try.ntmps17
  go_wp2
  go_loopw [3, 11] (fun s i wr => ∃ j u : Nat, j ≤ k ∧ i = .int .i64 j ∧ s = .int .i64 u ∧ u ≤ N ∧ u = lenUp L j ∧ wr = w) (fun _ i _ => k - (intOf i).toNat)
  case atStart => exact ⟨0, 0, by omega, rfl, rfl, by omega, by simp [lenUp], rfl⟩
  case round =>
    obtain ⟨j, u, hj, rfl, rfl, hun, hu, hwr⟩ := hrel
    obtain rfl := hwr.symm
    have HU := Lib.hid hu
    clear hu
    rcases Nat.lt_or_ge j k with hlt | hge
    · have hlt' : (j : Int) < (k : Int) := by omega
      have hx : L[j]? = some (L[j]'(by rw [HLEN.out]; exact hlt)) := List.getElem?_eq_getElem _
      obtain ⟨ad, B, cb, rfl, g1, g2, g3⟩ := HL.out.at_ j _ hx
      obtain ⟨x, hxe⟩ : ∃ x, x = L[j]'(by rw [HLEN.out]; exact hlt) := ⟨_, rfl⟩
      rw [← hxe] at hx g1 g2 g3
      have hsn := lenUp_snoc hx
      have hle := HUP.out (j + 1)
      rw [hsn, ← HU.out] at hle
      have hw1 : IntKind.i64.wrap ((u : Int) + (x.length : Int)) = ((u + x.length : Nat) : Int) := by rw [IntWalk.i64_in _ (by omega)]; push_cast; rfl
      have hp2 : ¬ (((u + x.length : Nat) : Int) < 0) := by omega
      obtain ⟨t, ht⟩ : ∃ t, t = u + x.length := ⟨_, rfl⟩
      have HT : Hid (t = lenUp L (j + 1)) := Lib.hid (by rw [hsn, ← HU.out]; exact ht)
      rw [← ht] at hw1 hp2 hle
      clear ht hsn g3 hxe hx
      go_wp2
      go_roundw
      case rel => exact ⟨j + 1, t, by omega, by go_num, by first | rfl | trivial, hle, HT.out, by first | rfl | trivial⟩
      case measure => simp [intOf]; omega
    · obtain rfl : j = k := by omega
      have hz : ¬ ((j : Int) < (j : Int)) := by omega
      have huN : u = N := by
        rw [HU.out]
        unfold lenUp
        rw [List.take_of_length_le (by rw [HLEN.out]; exact Nat.le_refl _), ← HZ.out, ← HN.out]
      subst huN
      go_wp2_with fail
      refine (kGrow_any w u h0 hn).mono ?_
      rintro e w1 ⟨c1, rfl, hown, hb⟩
      have HB1 := Lib.hid hb
      have HO1 := Lib.hid hown
      clear hown hb
      go_wp2
      go_loopw [6, 27] (fun v i wi => ∃ (q : Nat) (y : Nm), q ≤ j ∧ i = .int .i64 q ∧ y = (L.take q).flatten ∧ wi.ownsRow w.heap.size 5 1 v y.length (y.map byteV) ∧ Below w.heap.size w wi) (fun _ i _ => j - (intOf i).toNat)
      case atStart => exact ⟨0, [], by omega, rfl, rfl, by simpa using HO1.out, HB1.out⟩
      case round =>
        clear HO1 HB1
        obtain ⟨q, y, hq, rfl, hy, hO, hB⟩ := hrel
        have HY := Lib.hid hy
        clear hy
        have HO := Lib.hid hO
        have HB := Lib.hid hB
        clear hO hB
        obtain ⟨Av, cv, hv⟩ := own_slice HO.out
        subst hv
        rcases Nat.lt_or_ge q j with hlt | hge2
        · have hlt' : (q : Int) < (j : Int) := by omega
          have hx : L[q]? = some (L[q]'(by rw [HLEN.out]; exact hlt)) := List.getElem?_eq_getElem _
          obtain ⟨ad, B, cb, rfl, g1, g2, g3⟩ := (HL.out.below HB.out).at_ q _ hx
          obtain ⟨x, hxe⟩ : ∃ x, x = L[q]'(by rw [HLEN.out]; exact hlt) := ⟨_, rfl⟩
          rw [← hxe] at hx g1 g2 g3
          have hsn := flat_snoc hx
          have hle := HUP.out (q + 1)
          unfold lenUp at hle
          rw [hsn, List.length_append, ← HY.out] at hle
          rw [← HY.out] at hsn
          have HG3 := Lib.hid g3
          have HSN := Lib.hid hsn
          have hsz := HB.out.size
          clear hsn hxe hx g3
          go_wp2_with (at_builtin; refine wpList_append_src _ rfl _ _ 23 rfl w.heap.size 5 i0 (.int .u8 0) 1 Try.underlying23 hi hz0 hz1 hz2 rfl _ y.length (y.map byteV) rfl HO.out B x.length cb (x.map byteV) rfl HG3.out.2.1 (u8_one x) (by unfold maxLen; omega) (by omega) hsz ?_; intro v2 w2 hown2 hgrow2 hloc2; have HO2 := Lib.hid hown2; have HB2 := Lib.hid (HB.out.grown hgrow2 hsz (fun k e => (HO.out.lt k e).1)); clear hown2 hgrow2 hloc2)
          go_roundw
          case rel => exact ⟨q + 1, y ++ x, by omega, by go_num, HSN.out.symm, by rw [List.length_append, List.map_append]; exact HO2.out, HB2.out⟩
          case measure => simp [intOf]; omega
        · obtain rfl : q = j := by omega
          have hz : ¬ ((q : Int) < (q : Int)) := by omega
          have hfin : y = Z := by rw [HY.out, List.take_of_length_le (by rw [HLEN.out]; exact Nat.le_refl _), HZ.out]
          subst hfin
          go_wp2
          go_ret
          exact ⟨_, rfl, by rw [HN.out]; exact HO.out, HB.out⟩
/-- Two rows, or three, in a new block. -/
theorem rows2 (w : World) (A B : Option Addr) (c d : Nat) (x y : Nm) (hx : BytesIn w A x.length x) (hy : BytesIn w B y.length y) (hc : x.length ≤ c) (hd : y.length ≤ d) :
    RowsSee (w.alloc (.cells #[.slice A x.length c, .slice B y.length d] 23)) (some ⟨w.heap.size, 0, none⟩) 2 [x, y] := by
  have hb : Below w.heap.size w (w.alloc (.cells #[.slice A x.length c, .slice B y.length d] 23)) := (Below.refl _ w).alloc (Nat.le_refl _) _
  have hB := Blk.new w 23 #[.slice A x.length c, .slice B y.length d]
  refine ⟨rfl, by unfold maxLen; omega, fun i z hz => ?_⟩
  match i with
  | 0 => simp at hz; subst hz; exact ⟨_, A, c, rfl, hB.cell 0, hc, hx.below hb⟩
  | 1 => simp at hz; subst hz; exact ⟨_, B, d, rfl, hB.cell 1, hd, hy.below hb⟩
  | i + 2 => simp at hz
theorem rows3 (w : World) (A B D : Option Addr) (c d f : Nat) (x y z : Nm) (hx : BytesIn w A x.length x) (hy : BytesIn w B y.length y) (hz : BytesIn w D z.length z) (hc : x.length ≤ c) (hd : y.length ≤ d) (hf : z.length ≤ f) :
    RowsSee (w.alloc (.cells #[.slice A x.length c, .slice B y.length d, .slice D z.length f] 23)) (some ⟨w.heap.size, 0, none⟩) 3 [x, y, z] := by
  have hb : Below w.heap.size w (w.alloc (.cells #[.slice A x.length c, .slice B y.length d, .slice D z.length f] 23)) := (Below.refl _ w).alloc (Nat.le_refl _) _
  have hB := Blk.new w 23 #[.slice A x.length c, .slice B y.length d, .slice D z.length f]
  refine ⟨rfl, by unfold maxLen; omega, fun i u hu => ?_⟩
  match i with
  | 0 => simp at hu; subst hu; exact ⟨_, A, c, rfl, hB.cell 0, hc, hx.below hb⟩
  | 1 => simp at hu; subst hu; exact ⟨_, B, d, rfl, hB.cell 1, hd, hy.below hb⟩
  | 2 => simp at hu; subst hu; exact ⟨_, D, f, rfl, hB.cell 2, hf, hz.below hb⟩
  | i + 3 => simp at hu
end Go.Proofs.Ytmcoooepoikgjaa
