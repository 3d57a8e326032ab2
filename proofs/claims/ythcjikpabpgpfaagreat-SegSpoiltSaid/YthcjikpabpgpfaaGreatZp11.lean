import Derived.Test.YthcjikpabpgpfaaGreatZp0
import Derived.Test.YthcjikpabpgpfaaGreatZp5
import Derived.Deep.RegionHeld3
import Derived.Deep.RegionLaw
import Derived.Shelf.Abstract
set_option linter.unusedSimpArgs false
set_option maxHeartbeats 16000000
set_option maxRecDepth 100000
namespace Go.Proofs.YthcjikpabpgpfaaGreat
open Go.RowKit Go.Maps Go.WideMaps
def vocV (A B : Option Addr) (n m ca cb : Nat) : Value := .agg #[.slice A n ca, .slice B m cb]
structure VocSee (w : World) (A B : Option Addr) (n m ca cb : Nat) (V : Voc) : Prop where
 tok : RowsSee w A n V.tok
 mer : MgSee w B m V.mer
 capT : n ≤ ca
 capM : m ≤ cb
theorem VocSee.below {w w' : World} {A B : Option Addr} {n m ca cb : Nat} {V : Voc} (h : VocSee w A B n m ca cb V) (hb : Below w.heap.size w w') : VocSee w' A B n m ca cb V := ⟨h.tok.below hb, h.mer.below hb, h.capT, h.capM⟩
theorem all_range_false {f : Nat → Bool} {n k : Nat} (hk : k < n) (h : f k = false) : (List.range n).all f = false := by
 rw [List.all_eq_false]
 exact ⟨k, List.mem_range.2 hk, by simp [h]⟩
theorem all_range_true {f : Nat → Bool} {n : Nat} (h : ∀ k, k < n → f k = true) : (List.range n).all f = true := by
 rw [List.all_eq_true]
 intro k hk
 exact h k (List.mem_range.1 hk)
theorem fSumBytes_any (w : World) (A : Option Addr) (n c : Nat) (l : Nm) (hl : BytesIn w A n l) :
  Calls Tryz.prog 78 #[.slice A n c] w fun e w' => ∃ B, e = .returned (.slice (some B) 4 4) ∧ w.heap.size ≤ B.block ∧ BytesIn w' (some B) 4 (le4 (sumN l)) ∧ Below w.heap.size w w' := by
 have HL := Lib.hid hl
 clear hl
 obtain ⟨s, hs⟩ : ∃ s, s = sumN l := ⟨_, rfl⟩
 have hs32 : s < 4294967296 := by rw [hs]; exact sumN_lt l
 obtain ⟨x0, h0⟩ : ∃ x, x = UInt8.ofNat (s % 256) := ⟨_, rfl⟩
 obtain ⟨x1, h1⟩ : ∃ x, x = UInt8.ofNat (s / 256 % 256) := ⟨_, rfl⟩
 obtain ⟨x2, h2⟩ : ∃ x, x = UInt8.ofNat (s / 65536 % 256) := ⟨_, rfl⟩
 obtain ⟨x3, h3⟩ : ∃ x, x = UInt8.ofNat (s / 16777216 % 256) := ⟨_, rfl⟩
 have z0 : (s : Int) % 256 = (x0.toNat : Int) := by rw [h0, ofNat_toNat (by omega)]; omega
 have z1 : (s : Int) / 256 % 256 = (x1.toNat : Int) := by rw [h1, ofNat_toNat (by omega)]; omega
 have z2 : (s : Int) / 65536 % 256 = (x2.toNat : Int) := by rw [h2, ofNat_toNat (by omega)]; omega
 have z3 : (s : Int) / 16777216 = (x3.toNat : Int) := by rw [h3, ofNat_toNat (by omega)]; omega
 have HP : Hid (le4 (sumN l) = [x0, x1, x2, x3]) := Lib.hid (by unfold le4; rw [← hs, ← h0, ← h1, ← h2, ← h3])
 have HS := Lib.hid hs
 clear hs h0 h1 h2 h3
 go_enter Tryz.func78, Tryz.ntmps78
 go_wp2_with fail
 refine (sum_any w A n c l HL.out).mono ?_
 rintro e w1 ⟨rfl, hb⟩
 rw [← HS.out]
 have B1 := Lib.hid hb
 clear hb
 go_wp2
 go_ret
 refine ⟨_, rfl, B1.out.size, ?_, B1.out.alloc B1.out.size _⟩
 rw [HP.out]
 exact const_in w1 [x0, x1, x2, x3] (0, 0) (by unfold maxLen; simp)
theorem fPut_any (w : World) (A : Option Addr) (n c : Nat) (l : Nm) (hl : BytesIn w A n l) (hn : n ≤ 1099511627776) :
  Calls Tryz.prog 33 #[.slice A n c] w fun e w' => ∃ v, e = .returned v ∧ w'.ownsRow w.heap.size 5 1 v (putF l).length ((putF l).map byteV) ∧ Below w.heap.size w w' := by
 obtain ⟨i0, hi, hz0, hz1, hz2⟩ := info_parts byteInfo
 have HL := Lib.hid hl
 have hln : l.length = n := by have := hl.2.1.len; simpa using this
 have HLN := Lib.hid hln
 clear hl hln
 have hwn : IntKind.u64.wrap (n : Int) = (n : Int) := by rw [IntKind.wrap_u64]; omega
 have hpl := putL_len n (by omega)
 have h4 := le4_len (sumN l)
 obtain ⟨P, hP⟩ : ∃ P, P = putL n := ⟨_, rfl⟩
 obtain ⟨F, hF⟩ : ∃ F, F = le4 (sumN l) := ⟨_, rfl⟩
 have HP : Hid (putF l = P ++ (F ++ l)) := Lib.hid (by rw [hP, hF, putF, HLN.out])
 have HF := Lib.hid hF
 have HPE := Lib.hid hP
 rw [← hF] at h4
 rw [← hP] at hpl
 have H4 := Lib.hid h4
 clear hP hF h4
 go_enter Tryz.func33, Tryz.ntmps33
 go_wp2_with fail
 refine (lPut_any w n (by omega)).mono ?_
 rintro e w2 ⟨v2, rfl, hO, hb⟩
 rw [← HPE.out] at hO
 obtain ⟨A2, c2, hv2⟩ := own_slice hO
 subst hv2
 have O2 := Lib.hid hO
 have L2 := Lib.hid (HL.out.below hb)
 have B2 := Lib.hid hb
 clear hb hO
 go_wp2_with fail
 refine (fSumBytes_any w2 A n c l L2.out).mono ?_
 rintro e w3 ⟨S, rfl, hS, hSB, hb⟩
 rw [← HF.out] at hSB
 have O3 := Lib.hid (ownsRow_block O2.out fun g hg => hb.block g (O2.out.lt g hg).2)
 have L3 := Lib.hid (L2.out.below hb)
 have B3 := Lib.hid (below_then B2.out hb B2.out.size)
 have SB := Lib.hid hSB
 clear hS hSB hb
 go_wp2_with (first
  | (at_builtin; refine wpList_append_src _ rfl (.tmp 8) (.tmp 10) 24 rfl w.heap.size 5 i0 (.int .u8 0) 1 Tryz.underlying24 hi hz0 hz1 hz2 rfl _ _ _ rfl O3.out _ 4 4 _ rfl SB.out.2.1 (u8_one F) (by unfold maxLen; omega) (by omega) B3.out.size ?_; intro v4 w4 hown hgrow _; obtain ⟨A4, c4, hv4⟩ := own_slice hown; subst hv4; have HO4 := Lib.hid hown; have B4 : Hid (Below w.heap.size w w4) := Lib.hid (B3.out.grown hgrow B3.out.size (fun g hg => (O3.out.lt g hg).1)); have L4 : Hid (BytesIn w4 A n l) := Lib.hid (HL.out.below B4.out); clear hown hgrow)
  | (at_builtin; refine wpList_append_src _ rfl (.tmp 12) (.tmp 13) 24 rfl w.heap.size 5 i0 (.int .u8 0) 1 Tryz.underlying24 hi hz0 hz1 hz2 rfl _ _ _ rfl HO4.out A n c (l.map byteV) rfl L4.out.2.1 (u8_one l) (by unfold maxLen; omega) (by omega) B4.out.size ?_; intro v5 w5 hown hgrow _; have HO5 := Lib.hid hown; have B5 : Hid (Below w.heap.size w w5) := Lib.hid (B4.out.grown hgrow B4.out.size (fun g hg => (HO4.out.lt g hg).1)); clear hown hgrow))
 go_ret
 refine ⟨_, rfl, ?_, B5.out⟩
 rw [HP.out]
 have h5 := HO5.out
 simp only [List.length_append, List.map_append, List.append_assoc, H4.out] at h5 ⊢
 rw [HLN.out]
 simpa [Nat.add_assoc] using h5
theorem le4_iff {l : List UInt8} {s : Nat} (hl : 4 ≤ l.length) (hs : s < 4294967296) : l.take 4 = le4 s ↔ s = un4 l := by
 obtain ⟨a, b, c, d, r, rfl⟩ := four hl
 constructor
 ·intro h
  have h1 : a :: b :: c :: d :: r = le4 s ++ r := by
   rw [← h]
   rfl
  rw [h1, un4_le4 hs]
 ·rintro rfl
  rw [le4_un4]
  rfl
theorem heldMore {P : Program} {md : Region.Mode} {ops : Array Oper} {Q : Exit → Act → World → Prop} {S S' : World → Prop} (h : ∀ w, S' w → S w) : ∀ (fuel : Nat) (listed : Array Bool) (a : Act) (w : World), wpAnyH P md ops Q S' fuel listed a w → wpAnyH P md ops Q S fuel listed a w
 | 0, _, _, _, k => k
 | fuel + 1, _, _, _, k => ⟨k.1, fun i hi => wpOp_mono (fun a' w' h' => ⟨h w' h'.1, heldMore h fuel _ a' w' h'.2⟩) (k.2 i hi)⟩
set_option linter.unusedSimpArgs false in
theorem fGet_any (w : World) (A : Option Addr) (n c : Nat) (l : Nm) (hl : BytesIn w A n l) (hc : n ≤ c) (hn : n ≤ 1099511627776) :
  Calls Tryz.prog 144 #[.slice A n c] w (GetFOut w (getF l)) := by
 have HL := Lib.hid hl
 have hln : l.length = n := by have := hl.2.1.len; simpa using this
 have HLN := Lib.hid hln
 clear hl hln
 obtain ⟨N, k, e, hg⟩ : ∃ N k e, getL l = (N, k, e) := ⟨_, _, _, rfl⟩
 obtain ⟨G, hG⟩ : ∃ G, G = getF l := ⟨_, rfl⟩
 rw [← hG]
 unfold getF at hG
 rw [hg] at hG
 simp only at hG
 have HGG := Lib.hid hg
 by_cases he : e = 0
 ·subst he
  obtain ⟨g1, g2, g3, g4, g5⟩ := getL_inv hg
  rw [HLN.out] at g3
  rw [if_neg (by simp)] at hG
  clear hg g4
  by_cases hbig : 262144 < N
  ·have hbz : (262144 : Int) < (N : Int) := by omega
   rw [if_pos hbig] at hG
   have HG := Lib.hid hG
   clear hG
   go_enter Tryz.func144, Tryz.ntmps144
   go_wp2_with fail
   refine (lGet_is w A n c l HL.out HGG.out).mono ?_
   rintro e2 w2 ⟨rfl, hw⟩
   rw [hw]
   clear hw
   go_wp2
   go_ret3
   exact gferr HG.out (Below.refl _ _)
  have hbz : ¬ (262144 : Int) < (N : Int) := by omega
  rw [if_neg hbig] at hG
  obtain ⟨E, hE⟩ : ∃ E, E = k + 4 + N := ⟨_, rfl⟩
  have hK4 : IntKind.i64.wrap ((k : Int) + 4) = (k : Int) + 4 := IntWalk.i64_in _ (by omega)
  have hNz : IntKind.i64.wrap (N : Int) = (N : Int) := IntWalk.i64_in _ (by omega)
  have hEz : IntKind.i64.wrap ((k : Int) + 4 + (N : Int)) = (E : Int) := by rw [IntWalk.i64_in _ (by omega)]; omega
  rw [← hE, HLN.out] at hG
  obtain ⟨K4, hK4'⟩ : ∃ K, K = k + 4 := ⟨_, rfl⟩
  have e4 : (k : Int) + 4 = (K4 : Int) := by omega
  have e5 : (K4 : Int) + (N : Int) = (E : Int) := by omega
  by_cases hend : n < E
  ·have hendz : (n : Int) < (E : Int) := by omega
   rw [if_pos hend] at hG
   have HG := Lib.hid hG
   clear hG hE hK4'
   go_enter Tryz.func144, Tryz.ntmps144
   go_wp2_with fail
   refine (lGet_is w A n c l HL.out HGG.out).mono ?_
   rintro e2 w2 ⟨rfl, hw⟩
   rw [hw]
   clear hw
   go_wp2
   go_ret3
   exact gferr HG.out (Below.refl _ _)
  have hendz : ¬ (n : Int) < (E : Int) := by omega
  rw [if_neg hend] at hG
  obtain ⟨x, hx⟩ : ∃ x, x = (l.drop (k + 4)).take N := ⟨_, rfl⟩
  obtain ⟨y, hy⟩ : ∃ y, y = (l.drop k).take 4 := ⟨_, rfl⟩
  have s3 : ∀ w, (Instr.slice 24 (.slice A n c) (some (.int .i64 K4)) (some (.int .i64 E)) none).run Tryz.prog w = .ok (.slice (cutAddr A K4 c) N (c - K4)) w := fun w => by
   have h := slice_both w A n c K4 E (by omega) (by omega)
   rw [h, show E - K4 = N by omega]
  have s4 : ∀ w, (Instr.slice 24 (.slice A n c) (some (.int .i64 k)) (some (.int .i64 K4)) none).run Tryz.prog w = .ok (.slice (cutAddr A k c) 4 (c - k)) w := fun w => by
   have h := slice_both w A n c k K4 (by omega) (by omega)
   rw [h, show K4 - k = 4 by omega]
  have hsub := HL.out.sub hc K4 E (by omega) (by omega)
  rw [show E = K4 + N by omega, drop_take', Nat.add_sub_cancel_left, show K4 = k + 4 by omega, ← hx, show k + 4 = K4 by omega] at hsub
  have HSUB := Lib.hid hsub
  have hsub2 := HL.out.sub hc k K4 (by omega) (by omega)
  rw [show K4 = k + 4 by omega, drop_take', Nat.add_sub_cancel_left, ← hy] at hsub2
  have HSUB2 := Lib.hid hsub2
  rw [← hx] at hG
  have HIFF : Hid (y = le4 (sumN x) ↔ sumN x = un4 (l.drop k)) := Lib.hid (by rw [hy]; exact le4_iff (by rw [List.length_drop]; have := HLN.out; omega) (sumN_lt x))
  have HXN : Hid (x.length = N) := Lib.hid (by rw [hx]; simp; have := HLN.out; omega)
  have hNl : N ≤ 262144 := by omega
  have HG := Lib.hid hG
  clear hG hE hK4' hsub hsub2 hx hy
  go_enter Tryz.func144, Tryz.ntmps144
  go_wp2_with fail
  refine (lGet_is w A n c l HL.out HGG.out).mono ?_
  rintro e2 w2 ⟨rfl, hw⟩
  rw [hw]
  clear hw
  go_wp2_with fail
  refine wp_region_held_drew (S := fun w' => Below w.heap.size w w') (by kernel_rfl) ?_ (fun hHeld => ?_)
  ·exact (Below.refl _ _).drew
  refine wpAnyH_take (i := 0) (oi := ?oi0) (v := ?v0) ?hi0 (by kernel_rfl) (by kernel_rfl) (by kernel_rfl) ?hQ0 (Or.inl ⟨?hw0, ?hy0⟩) (by assumption) ?rest0
  case hi0 => (first | (simp only [lz0, lz1, lz2]; rfl) | rfl)
  case hQ0 => exact fun _ _ _ h => h
  case hw0 => rfl
  case hy0 => ((intro w hSw; go_simp); first | done | with_reducible rfl)
  try simp only [Act.put, lz3, lz4, lz5]
  refine wpAnyH_take (i := 1) (oi := ?oi1) (v := ?v1) ?hi1 (by kernel_rfl) (by kernel_rfl) (by kernel_rfl) ?hQ1 (Or.inl ⟨?hw1, ?hy1⟩) (by assumption) ?rest1
  case hi1 => (first | (simp only [lz0, lz1, lz2]; rfl) | rfl)
  case hQ1 => exact fun _ _ _ h => h
  case hw1 => rfl
  case hy1 => ((intro w hSw; go_simp); first | done | with_reducible rfl)
  try simp only [Act.put, lz3, lz4, lz5]
  refine wpAnyH_take (i := 2) (oi := ?oi2) (v := ?v2) ?hi2 (by kernel_rfl) (by kernel_rfl) (by kernel_rfl) ?hQ2 (Or.inl ⟨?hw2, ?hy2⟩) (by assumption) ?rest2
  case hi2 => (first | (simp only [lz0, lz1, lz2]; rfl) | rfl)
  case hQ2 => exact fun _ _ _ h => h
  case hw2 => rfl
  case hy2 => ((intro w hSw; go_simp); first | done | with_reducible rfl)
  try simp only [Act.put, lz3, lz4, lz5]
  refine wpAnyH_take (i := 3) (oi := ?oi3) (v := ?v3) ?hi3 (by kernel_rfl) (by kernel_rfl) (by kernel_rfl) ?hQ3 (Or.inl ⟨?hw3, ?hy3⟩) (by assumption) ?rest3
  case hi3 => (first | (simp only [lz0, lz1, lz2]; rfl) | rfl)
  case hQ3 => exact fun _ _ _ h => h
  case hw3 => rfl
  case hy3 => ((intro w hSw; go_simp); first | done | with_reducible rfl)
  try simp only [Act.put, lz3, lz4, lz5]
  refine wpAnyH_take (i := 4) (oi := ?oi4) (v := ?v4) ?hi4 (by kernel_rfl) (by kernel_rfl) (by kernel_rfl) ?hQ4 (Or.inl ⟨?hw4, ?hy4⟩) (by assumption) ?rest4
  case hi4 => (first | (simp only [lz0, lz1, lz2]; rfl) | rfl)
  case hQ4 => exact fun _ _ _ h => h
  case hw4 => rfl
  case hy4 => ((intro w hSw; go_simp); first | done | with_reducible rfl)
  try simp only [Act.put, lz3, lz4, lz5]
  refine wpAnyH_ready (rs := [5]) (by kernel_rfl) (by simp) ?_
  refine AllReadyH.cons (o := ?o1) ?hc1 ?st1 AllReadyH.nil
  case hc1 => (simp only [lz0, lz1, lz2]; rfl)
  intro K hK
  go_simp
  refine (fSumBytes_any _ _ _ _ x (HSUB.out.below hHeld)).mono ?_
  rintro e w5 ⟨S, rfl, hS, hSB, hb⟩
  have H5 := Lib.hid (below_then hHeld hb (Below.size hHeld))
  have SB := Lib.hid hSB
  clear hb hS hSB
  go_wp2_with fail
  refine hK.out _ _ H5.out (fun _ => ?_)
  clear hK K
  refine heldMore (S' := fun w' => w' = w5) (fun w h => h ▸ H5.out) _ _ _ _ ?_
  have hHeld2 : (fun w' => w' = w5) w5 := rfl
  try simp only [Act.put, lz3, lz4, lz5]
  refine wpAnyH_ready (rs := [6]) (by kernel_rfl) (by simp) ?_
  refine AllReadyH.cons (o := ?o2) ?hc2 ?st2 AllReadyH.nil
  case hc2 => (simp only [lz0, lz1, lz2]; rfl)
  intro K hK
  go_simp
  refine (equal_any _ _ _ _ _ _ _ y (le4 (sumN x)) (HSUB2.out.below H5.out) SB.out).mono ?_
  rintro e w6 ⟨rfl, hw⟩
  rw [hw]
  clear hw w6
  go_wp2_with fail
  refine hK.out _ _ rfl (fun _ => ?_)
  clear hK K
  obtain ⟨t, ht⟩ : ∃ t, t = decide (y = le4 (sumN x)) := ⟨_, rfl⟩
  rw [← ht]
  have HT := Lib.hid ht
  clear ht
  try simp only [Act.put, lz3, lz4, lz5]
  refine wpAnyH_take (i := 7) (oi := ?oib7) (v := ?vb7) ?hib7 (by kernel_rfl) (by kernel_rfl) (by kernel_rfl) ?hQb7 (Or.inl ⟨?hwb7, ?hyb7⟩) (by assumption) ?restb7
  case hib7 => (first | (simp only [lz0, lz1, lz2]; rfl) | rfl)
  case hQb7 => exact fun _ _ _ h => h
  case hwb7 => rfl
  case hyb7 => ((intro w hSw; go_simp); first | done | with_reducible rfl)
  try simp only [Act.put, lz3, lz4, lz5]
  refine wpAnyH_done (by kernel_rfl) ?_ _
  by_cases hsum : sumN x = un4 (l.drop k)
  ·have htt : t = true := by rw [HT.out]; exact decide_eq_true (HIFF.out.2 hsum)
   rw [htt]
   have hG := HG.out
   rw [if_neg (by simpa using hsum)] at hG
   have HG2 := Lib.hid hG
   clear hG htt hsum
   go_wp2_with fail
   refine (clone_any w5 _ _ _ x (HSUB.out.below H5.out) (by omega)).mono ?_
   rintro e w7 ⟨v, rfl, hO, hb⟩
   have B7 := Lib.hid (below_then H5.out hb H5.out.size)
   have O7 := Lib.hid (Go.Joins.ownsRow_le hO H5.out.size)
   clear hO hb
   go_wp2
   go_ret3
   exact gfok HG2.out B7.out (by rw [HXN.out]; exact O7.out)
  ·have htt : t = false := by rw [HT.out]; exact decide_eq_false (fun h => hsum (HIFF.out.1 h))
   rw [htt]
   have hG := HG.out
   rw [if_pos (by simpa using hsum)] at hG
   have HG2 := Lib.hid hG
   clear hG htt hsum
   go_wp2
   go_ret3
   exact gferr HG2.out H5.out
 ·rw [if_pos he] at hG
  have HG := Lib.hid hG
  clear hG hg
  have d1 : (e != 0) = true := by simpa using he
  go_enter Tryz.func144, Tryz.ntmps144
  go_wp2_with fail
  refine (lGet_is w A n c l HL.out HGG.out).mono ?_
  rintro e2 w2 ⟨rfl, hw⟩
  rw [hw]
  clear hw
  go_wp2
  go_ret3
  exact gferr HG.out (Below.refl _ _)
def AllOut (w : World) (g : List Nm × Int) (e : Ending) (w' : World) : Prop :=
 ∃ v, e = .returned (.tuple #[v, .int .i64 g.2]) ∧ RowsAt w' w.heap.size v g.1 ∧ Below w.heap.size w w'
theorem alok {w w' : World} {g : List Nm × Int} {L : List Nm} {e : Int} {v : Value} (h : g = (L, e)) (hr : RowsAt w' w.heap.size v L) (hb : Below w.heap.size w w') : AllOut w g (.returned (.tuple #[v, .int .i64 e])) w' := by
 subst h
 exact ⟨v, rfl, hr, hb⟩
theorem allAux_nil (f : Nat) (acc : List Nm) : allAux f [] acc = (acc, 0) := by cases f <;> simp [allAux]
theorem wholeAux_nil (f at_ : Nat) (acc : List Nm) : wholeAux f at_ [] acc = (acc, at_) := by cases f <;> simp [wholeAux]
end Go.Proofs.YthcjikpabpgpfaaGreat
namespace Go.Proofs.YthcjikpabpgpfaaGreat
open Go.RowKit Go.Maps Go.WideMaps Go.Shelf
def CellRows (w0 w : World) (b : Nat) (acc : List Nm) : Prop := Below w0.heap.size w0 w ∧ w0.heap.size ≤ b ∧ ∃ v, Blk w b 27 #[v] ∧ RowsG w (b + 1) v acc
theorem fAll_1_any (w0 wp w : World) (b : Nat) (acc : List Nm) (x : Nm) (v : Value) (hI : CellRows w0 wp b acc) (hb : Below wp.heap.size wp w) (ho : w.ownsRow wp.heap.size 5 1 v x.length (x.map byteV)) (hx : x.length ≤ 262144) (ha : acc.length ≤ 1099511627776) :
  Calls Tryz.prog 100 #[v, at0 b] w fun e w' => e = .returned (.tuple #[]) ∧ CellRows w0 w' b (acc ++ [x]) := by
 obtain ⟨i0, hi, hz0, hz1, hz2⟩ := info_parts rowInfo
 obtain ⟨hB0, hb0, u, hblk, svs, hO, h2⟩ := hI
 have hblt := hblk.lt
 have hblk' := hblk.below hb hblt
 obtain ⟨Au, cu, hu⟩ := own_slice hO
 subst hu
 obtain ⟨Ax, cx, hv⟩ := own_slice ho
 subst hv
 have c0 := hblk'.cell 0
 simp at c0
 have hbw : w0.heap.size ≤ w.heap.size := Nat.le_trans hB0.size hb.size
 have HW := Lib.hid hbw
 have HB := Lib.hid (below_then hB0 hb hB0.size)
 have HBLK := Lib.hid hblk'
 have hsl : svs.length = acc.length := by have := hO.1; simpa using this
 have HSL := Lib.hid hsl
 have HOL := Lib.hid (ownsRow_block hO (w' := w) fun g hg => hb.block g (hO.lt g hg).2)
 have HUL : Hid (∀ g, (Value.slice Au acc.length cu).ownBlock = some g → g < wp.heap.size) := Lib.hid fun g hg => (hO.lt g hg).2
 have HX := Lib.hid ho
 have hwp : wp.heap.size ≤ w.heap.size := hb.size
 have hb1 : b + 1 ≤ w.heap.size := by have := hblk'.lt; omega
 have HBLT := Lib.hid hblt
 have H2 : Hid (∀ (i : Nat) (sv : Value) (x : Nm), svs[i]? = some sv → acc[i]? = some x → ∃ A c, sv = .slice A x.length c ∧ x.length ≤ c ∧ BytesIn w A x.length x ∧ ∀ ad, A = some ad → 0 < x.length → b + 1 ≤ ad.block ∧ (Value.slice Au acc.length cu).ownBlock ≠ some ad.block) := Lib.hid fun i sv y e1 e2 => by
  obtain ⟨A, c, h3, h4, h5, h6⟩ := h2 i sv y e1 e2
  exact ⟨A, c, h3, h4, h5.below hb, h6⟩
 have hone : ∀ u ∈ [Value.slice Ax x.length cx], u.oneCell' = true := by simp [Value.oneCell']
 have HONE := Lib.hid hone
 clear hB0 hblk hO h2 hblk' hsl ho hb hbw hblt hone
 unfold at0
 go_enter Tryz.func100, Tryz.ntmps100
 go_wp2_with (at_builtin; refine wpList_append_src _ rfl (.tmp 3) (.tmp 5) 27 rfl (b + 1) 24 i0 (.slice none 0 0) 24 Tryz.underlying27 hi hz0 hz1 hz2 rfl _ acc.length svs rfl (HOL.out.alloc _) _ 1 1 _ rfl (one_row_src w (.slice Ax x.length cx) rfl) HONE.out (by unfold maxLen; omega) (by omega) (by simp; omega) ?_; intro v3 w3 hown hgrow hloc; obtain ⟨A3, c3, hv3⟩ := own_slice hown; subst hv3; have HO3 := Lib.hid hown; have HG3 := Lib.hid hgrow; have HLOC : Hid ((Value.slice A3 (acc.length + 1) c3).ownBlock = (Value.slice Au acc.length cu).ownBlock ∨ (Value.slice A3 (acc.length + 1) c3).ownBlock = some (w.alloc (.cells #[.slice Ax x.length cx] 24)).heap.size) := Lib.hid hloc; have HBK3 := Lib.hid ((HBLK.out.alloc (.cells #[.slice Ax x.length cx] 24)).grown hgrow (fun e => by have := (HOL.out.lt b e.symm).1; omega)); have k0 := HBK3.out.cell 0; simp at k0; have z3 := HBK3.out.frozen 0; clear hown hgrow hloc)
 go_end0
 refine ⟨rfl, ?_, hb0, _, HBK3.out.set_ 0 _, ?_⟩
 ·have h1 := (HB.out.alloc HB.out.size (.cells #[.slice Ax x.length cx] 24)).grown HG3.out (by have := HB.out.size; simp; omega) (fun g hg => by have := (HOL.out.lt g hg).1; omega)
  exact ⟨h1.os, h1.tape, h1.output, by rw [size_setCell']; exact h1.size, fun k hk => (Below.heap_setCell _ _ _ k (by simp; omega)).trans (h1.block k hk)⟩
 ·have hkeep : Below w.heap.size w (w.alloc (.cells #[.slice Ax x.length cx] 24)) := (Below.refl _ w).alloc (Nat.le_refl _) _
  have hnew : RowsG w3 (b + 1) (.slice A3 (acc.length + 1) c3) (acc ++ [x]) := by
   refine RowsG.push (w := w.alloc (.cells #[.slice Ax x.length cx] 24)) (v := .slice Au acc.length cu) (svs := svs) (fun i sv y e1 e2 => ?_) HSL.out (Holds1.below (Holds1.own HX.out (by unfold maxLen; omega)) hkeep) ?_ HO3.out HG3.out ?_
   ·obtain ⟨A4, c4, h3, h4, h5, h6⟩ := H2.out i sv y e1 e2
    exact ⟨A4, c4, h3, h4, h5.below hkeep, h6⟩
   ·intro A4 c4 ad e1 e2 _
    injection e1 with e1
    subst e1
    have h4 := (HX.out.lt ad.block (by rw [e2]; rfl)).1
    refine ⟨by have := HBLT.out; omega, fun e3 => ?_⟩
    have h3 := HUL.out _ e3
    omega
   ·rcases HLOC.out with h | h
    ·exact .inl h
    ·exact .inr ⟨_, h, Nat.le_refl _⟩
  exact hnew.keep (fun i h0 _ => Below.heap_setCell _ _ _ i (by simp; omega)) (by rw [size_setCell']; exact Nat.le_refl _)
def FWalkOut (l : Nm) (I : World → List Nm → Prop) (e : Ending) (w' : World) : Prop :=
 ∃ (acc : List Nm) (k : Nat) (er : Int), e = .returned (.tuple #[.int .i64 k, .int .i64 er]) ∧ I w' acc ∧ wholeF l = (acc, k) ∧ allF l = (if er ≠ 0 then [] else acc, er)
theorem fWalk_any (f : Nat) (cap : Array Value) (eg : ∀ args w, (callFunc f args).run Tryz.prog w = .ok (.enter f args) w) (w0 w : World) (A : Option Addr) (n c : Nat) (l : Nm) (hl : BytesIn w0 A n l) (hc : n ≤ c) (hn : n ≤ 1099511627776)
  (I : World → List Nm → Prop) (hI0 : I w []) (hIB : ∀ w' acc, I w' acc → Below w0.heap.size w0 w')  (hIb : ∀ w' w'' acc, I w' acc → Below w'.heap.size w' w'' → I w'' acc)
  (hcl : ∀ wp w' acc x v, I wp acc → Below wp.heap.size wp w' → w'.ownsRow wp.heap.size 5 1 v x.length (x.map byteV) → x.length ≤ 262144 → acc.length ≤ 1099511627776 → Calls Tryz.prog f (#[v] ++ cap) w' fun e w'' => e = .returned (.tuple #[]) ∧ I w'' (acc ++ [x])) :
  Calls Tryz.prog 99 #[.slice A n c, .func (.func f) #[] cap] w (FWalkOut l I) := by
 have hln : l.length = n := by have := hl.2.1.len; simpa using this
 obtain ⟨G, hG⟩ : ∃ G, G = allF l := ⟨_, rfl⟩
 obtain ⟨H, hH⟩ : ∃ H, H = wholeF l := ⟨_, rfl⟩
 have HOUT : Hid (∀ acc k er e w', e = .returned (.tuple #[.int .i64 (k : Nat), .int .i64 er]) → I w' acc → H = (acc, k) → G = (if er ≠ 0 then [] else acc, er) → FWalkOut l I e w') := Lib.hid fun acc k er e w' h1 h2 h3 h4 => ⟨acc, k, er, h1, h2, hH ▸ h3, hG ▸ h4⟩
 have HG0 : Hid (allAux n l [] = G) := Lib.hid (by rw [hG]; unfold allF; rw [hln])
 have HH0 : Hid (wholeAux n 0 l [] = H) := Lib.hid (by rw [hH]; unfold wholeF; rw [hln])
 have HL := Lib.hid hl
 have HLN := Lib.hid hln
 have HI0 := Lib.hid hI0
 have HIB := Lib.hid hIB
 have HIb := Lib.hid hIb
 have HCL := Lib.hid hcl
 clear hl hln hG hH hI0 hIB hIb hcl
 go_enter Tryz.func99, Tryz.ntmps99
 go_wp2
 go_loopw [6] (fun s wr => ∃ (at_ q : Nat) (acc : List Nm), s = .int .i64 at_ ∧ at_ ≤ n ∧ n - at_ ≤ q ∧ allAux q (l.drop at_) acc = G ∧ wholeAux q at_ (l.drop at_) acc = H ∧ acc.length ≤ at_ ∧ I wr acc) (fun s _ => n - (intOf s).toNat)
 case atStart => exact ⟨0, n, [], rfl, by omega, by omega, HG0.out, HH0.out, by simp, HI0.out⟩
 case round =>
  obtain ⟨at_, q, acc, rfl, hat, hmf, hg, hh, hacc, hi⟩ := hrel
  obtain ⟨r, hr0⟩ : ∃ r, r = l.drop at_ := ⟨_, rfl⟩
  obtain ⟨m, hm0⟩ : ∃ m, m = n - at_ := ⟨_, rfl⟩
  have hsub := HL.out.sub hc at_ n hat (Nat.le_refl _)
  rw [show (l.take n).drop at_ = r by rw [hr0, List.take_of_length_le (by rw [HLN.out]; exact Nat.le_refl _)], ← hm0] at hsub
  have HR := Lib.hid hsub
  rw [← hr0] at hg hh
  rw [← hm0] at hmf
  have HGG := Lib.hid hg
  have HHH := Lib.hid hh
  have HII := Lib.hid hi
  have HB := Lib.hid (HIB.out _ _ hi)
  have hrl : r.length = m := by have := hsub.2.1.len; simpa using this
  have HRL := Lib.hid hrl
  have HRD := Lib.hid hr0
  have sA : ∀ w, (Instr.slice 24 (.slice A n c) (some (.int .i64 at_)) none none).run Tryz.prog w = .ok (.slice (cutAddr A at_ c) m (c - at_)) w := fun w => by rw [hm0]; exact slice_from w A n c at_ hat
  have hmc : m ≤ c - at_ := by omega
  have hmn : at_ + m = n := by omega
  clear hr0 hm0 hsub hg hh hi hrl HG0 HH0 HL HLN
  rcases Nat.eq_zero_or_pos m with h0 | hpos
  ·obtain rfl : at_ = n := by omega
   have hz : ¬ ((at_ : Int) < (at_ : Int)) := by omega
   have hr : r = [] := List.eq_nil_of_length_eq_zero (HRL.out.trans h0)
   have hfin : G = (if (0 : Int) ≠ 0 then [] else acc, 0) := by rw [← HGG.out, hr, allAux_nil]; simp
   have hfin2 : H = (acc, at_) := by rw [← HHH.out, hr, wholeAux_nil]
   have HF := Lib.hid hfin
   have HF2 := Lib.hid hfin2
   clear hfin hfin2 hr
   go_wp2
   go_ret2
   exact HOUT.out acc at_ 0 _ _ rfl HII.out HF2.out HF.out
  ·have hposz : (at_ : Int) < (n : Int) := by omega
   obtain ⟨q', rfl⟩ : ∃ f', q = f' + 1 := ⟨q - 1, by omega⟩
   have hstep := HGG.out
   have hstep2 := HHH.out
   simp only [allAux] at hstep
   simp only [wholeAux] at hstep2
   rw [if_neg (by rw [HRL.out]; omega)] at hstep hstep2
   obtain ⟨x, k, e, hgf⟩ : ∃ x k e, getF r = (x, k, e) := ⟨_, _, _, rfl⟩
   rw [hgf] at hstep hstep2
   simp only at hstep hstep2
   have HST := Lib.hid hstep
   have HST2 := Lib.hid hstep2
   have HGF := Lib.hid hgf
   clear hstep hstep2 hgf
   go_wp2_with fail
   refine (fGet_any wr (cutAddr A at_ c) m (c - at_) r (HR.out.below HB.out) hmc (by omega)).mono ?_
   rintro e2 w2 ⟨v2, rfl, ho2, hb2⟩
   rw [HGF.out] at ho2 ⊢
   simp only at ho2
   have HO2 := Lib.hid ho2
   have HB2 := Lib.hid hb2
   clear ho2 hb2
   by_cases he : e = 0
   ·subst he
    have hst := HST.out
    rw [if_neg (by simp)] at hst
    have HS := Lib.hid hst
    have hst2 := HST2.out
    rw [if_neg (by simp)] at hst2
    have HS2 := Lib.hid hst2
    have hinv := getF_inv HGF.out
    obtain ⟨q1, q2, q3, q4⟩ := hinv
    rw [HRL.out] at q2
    clear hst hst2 q3
    obtain ⟨A2, c2, hv2⟩ := own_slice HO2.out
    subst hv2
    have hat2 : IntKind.i64.wrap ((at_ : Int) + (k : Int)) = ((at_ + k : Nat) : Int) := by rw [IntWalk.i64_in _ (by omega)]; simp
    obtain ⟨at2, hA2⟩ : ∃ a, a = at_ + k := ⟨_, rfl⟩
    rw [← hA2] at hat2
    go_wp2_with fail
    refine (HCL.out wr w2 acc x _ HII.out HB2.out HO2.out q4 (by omega)).mono ?_
    rintro e3 w3 ⟨rfl, hI3⟩
    have HI3 := Lib.hid hI3
    clear hI3
    go_wp2
    go_roundw
    case rel =>
     have hd : l.drop at2 = r.drop k := by rw [HRD.out, List.drop_drop, ← hA2]
     exact ⟨at2, q', acc ++ [x], by rw [hA2]; go_num, by omega, by omega, by rw [hd]; exact HS.out, by rw [hd, hA2]; exact HS2.out, by rw [List.length_append, List.length_singleton]; omega, HI3.out⟩
    case measure => simp [intOf]; omega
   ·have hst := HST.out
    rw [if_pos he] at hst
    have HS := Lib.hid hst
    have hst2 := HST2.out
    rw [if_pos he] at hst2
    have HS2 := Lib.hid hst2
    have d1 : (e != 0) = true := by simpa using he
    have HE := Lib.hid he
    clear hst hst2 he
    go_wp2
    go_ret2
    exact HOUT.out acc at_ e _ _ rfl (HIb.out _ _ _ HII.out HB2.out) HS2.out.symm (by rw [if_pos HE.out]; exact HS.out.symm)
theorem CellRows.start (w : World) : CellRows w (w.alloc (.cells #[.slice none 0 0] 27)) w.heap.size [] :=
 ⟨(Below.refl _ w).alloc (Nat.le_refl _) _, Nat.le_refl _, _, Blk.new _ _ _, RowsG.nil _ _⟩
theorem CellRows.below {w0 w w' : World} {b : Nat} {acc : List Nm} (h : CellRows w0 w b acc) (hb : Below w.heap.size w w') : CellRows w0 w' b acc := by
 obtain ⟨h1, h2, v, h3, h4⟩ := h
 exact ⟨below_then h1 hb h1.size, h2, v, h3.below hb h3.lt, h4.below hb⟩
theorem fAll_any (w : World) (A : Option Addr) (n c : Nat) (l : Nm) (hl : BytesIn w A n l) (hc : n ≤ c) (hn : n ≤ 1099511627776) :
  Calls Tryz.prog 49 #[.slice A n c] w (AllOut w (allF l)) := by
 have HL := Lib.hid hl
 clear hl
 go_enter Tryz.func49, Tryz.ntmps49
 go_wp2_with fail
 refine (fWalk_any 100 #[at0 w.heap.size] (enters_of Tryz.func100 (by kernel_rfl) rfl) w _ A n c l HL.out hc hn (fun w' acc => CellRows w w' w.heap.size acc) (CellRows.start w) (fun _ _ h => h.1) (fun _ _ _ h k => h.below k) (fun wp w' acc x v h1 h2 h3 h4 h5 => fAll_1_any w wp w' _ acc x v h1 h2 h3 h4 h5)).mono ?_
 rintro e w2 ⟨acc, k, er, rfl, hI, _, hA⟩
 obtain ⟨hB, _, v, hblk, hrow⟩ := hI
 have c0 := hblk.cell 0
 simp at c0
 have HB := Lib.hid hB
 have HR := Lib.hid (hrow.rows (b := w.heap.size) (by omega))
 obtain ⟨_, hO, _⟩ := hrow
 obtain ⟨Av, cv, hv⟩ := own_slice hO
 subst hv
 clear hblk hB hO
 by_cases he : er = 0
 ·subst he
  rw [if_neg (by simp)] at hA
  have HA := Lib.hid hA
  clear hA
  go_wp2
  go_ret2
  exact alok HA.out HR.out HB.out
 ·have d1 : (er != 0) = true := by simpa using he
  rw [if_pos he] at hA
  have HA := Lib.hid hA
  clear he hA
  go_wp2
  go_ret2
  exact alok HA.out (RowsAt.nil _ _) HB.out
end Go.Proofs.YthcjikpabpgpfaaGreat
