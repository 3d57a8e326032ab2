import Derived.Test.YthcjikpabpgpfaaGreatZp0
import Derived.Test.YthcjikpabpgpfaaGreatZp23
import Derived.Test.YthcjikpabpgpfaaGreatZp5
import Derived.Test.YthcjikpabpgpfaaGreatZp16
import Derived.Test.YthcjikpabpgpfaaGreatZp9
import Derived.Test.YthcjikpabpgpfaaGreatZp3
import Derived.Deep.RegionHeld3
set_option linter.unusedSimpArgs false
set_option maxHeartbeats 16000000
set_option maxRecDepth 100000
namespace Go.Proofs.YthcjikpabpgpfaaGreat
open Go.RowKit Go.Maps Go.WideMaps
theorem ior_nat (a b : Nat) (ha : a < 9223372036854775808) (hb : b < 9223372036854775808) : bits .or .i64 (a : Int) (b : Int) = ((a ||| b : Nat) : Int) := by
 have hx : a ||| b < 2 ^ 63 := Nat.or_lt_two_pow (by omega) (by omega)
 show IntKind.i64.wrap ((BitVec.ofInt 64 (a : Int) ||| BitVec.ofInt 64 (b : Int)).toNat : Int) = _
 rw [BitVec.toNat_or, ofInt_u64 a (by omega), ofInt_u64 b (by omega), IntWalk.i64_in _ (by omega)]
theorem ior_add (acc k c : Nat) (hacc : acc < 2 ^ (7 * k)) (hk : k ≤ 2) :
  bits .or .i64 (acc : Int) (wrap64 ((c : Int) % 128 * 2 ^ (7 * k))) = ((acc + c % 128 * 2 ^ (7 * k) : Nat) : Int) := by
 have hp : 2 ^ (7 * k) ≤ 2 ^ 14 := Nat.pow_le_pow_right (by omega) (by omega)
 have hV : c % 128 * 2 ^ (7 * k) < 9223372036854775808 := by
  have h2 := Nat.mul_le_mul (show c % 128 ≤ 127 by omega) hp
  omega
 have e1 : (c : Int) % 128 * 2 ^ (7 * k) = ((c % 128 * 2 ^ (7 * k) : Nat) : Int) := by simp
 rw [← IntWalk.i64_left, e1]
 generalize hV' : c % 128 * 2 ^ (7 * k) = V at hV
 rw [IntWalk.i64_in _ (by omega), ior_nat acc V (by omega) hV, Nat.or_comm, ← hV', nat_join (7 * k) _ acc (Nat.mul_mod_left _ _) hacc, Nat.add_comm]
def leftL (n : Nat) : Nat → Nat
 | 0 => n
 | j + 1 => leftL n j / 128
theorem leftL_put {n : Nat} : ∀ {j : Nat}, (∀ i, i < j → 128 ≤ leftL n i) → (putL n).drop j = putL (leftL n j) ∧ (putL n).length = j + (putL (leftL n j)).length
 | 0, _ => ⟨rfl, by simp [leftL]⟩
 | j + 1, h => by
  obtain ⟨h1, h2⟩ := leftL_put (j := j) fun i hi => h i (by omega)
  have h3 := h j (by omega)
  have h4 : putL (leftL n j) = UInt8.ofNat (leftL n j % 128 + 128) :: putL (leftL n j / 128) := putL_big (by omega)
  refine ⟨?_, ?_⟩
  ·rw [← List.drop_drop, h1, h4]
   rfl
  ·rw [h2, h4, leftL]
   simp
   omega
def madeL (n : Nat) : Nat → Nat
 | 0 => 0
 | j + 1 => madeL n j + leftL n j % 128 * 2 ^ (7 * j)
theorem madeL_is (n : Nat) : ∀ j, madeL n j + leftL n j * 2 ^ (7 * j) = n ∧ madeL n j < 2 ^ (7 * j)
 | 0 => by simp [madeL, leftL]
 | j + 1 => by
  obtain ⟨h1, h2⟩ := madeL_is n j
  have h3 := split7 (leftL n j) (2 ^ (7 * j))
  rw [madeL, leftL, pow7]
  refine ⟨by omega, ?_⟩
  have h4 : leftL n j % 128 + 1 ≤ 128 := by omega
  have h5 := Nat.mul_le_mul_right (2 ^ (7 * j)) h4
  rw [Nat.add_mul] at h5
  omega
theorem leftL_le (n : Nat) : ∀ j, leftL n j ≤ n
 | 0 => Nat.le_refl _
 | j + 1 => by
  have := leftL_le n j
  rw [leftL]
  exact Nat.le_trans (Nat.div_le_self _ _) this
theorem leftL_two {n : Nat} (h : n ≤ 262144) (j : Nat) (hj : 128 ≤ leftL n j) : j ≤ 1 := by
 rcases Nat.lt_or_ge j 2 with h1 | h1
 ·omega
 ·have h2 : ∀ j, 2 ≤ j → leftL n j ≤ 16 := by
   intro j hj
   induction j with
   | zero => omega
   | succ j ih =>
    rw [leftL]
    rcases Nat.lt_or_ge j 2 with h3 | h3
    ·obtain rfl : j = 1 := by omega
     show n / 128 / 128 ≤ 16
     omega
    ·have := ih h3
     omega
  have := h2 j h1
  omega
theorem flat_next (F : List Nm) {i : Nat} {y : Nm} (h : F[i]? = some y) : (F.take (i + 1)).flatMap putF = (F.take i).flatMap putF ++ putF y := by
 rw [List.take_add_one, h, List.flatMap_append]
 simp
theorem flat_len_le (F : List Nm) (i : Nat) : ((F.take i).flatMap putF).length ≤ (F.flatMap putF).length := by
 conv => rhs; rw [← List.take_append_drop i F, List.flatMap_append, List.length_append]
 omega
theorem sgBehind_any (w : World) (A : Option Addr) (n c : Nat) (F : List Nm) (hF : Short F) (hA : BytesIn w A n (F.flatMap putF)) (hn : n ≤ 1099511627776) {m : Nat} (hm : m < F.length) (hm2 : m ≤ 1000000) :
  Calls Tryz.prog 26 #[.slice A n c, .int .i64 (m : Int)] w fun e w' => e = .returned (.int .i64 (((F.take (m + 1)).flatMap putF).length : Int)) ∧ ∃ q, w' = w.drewN q := by
 have HL := Lib.hid hA
 have hln : (F.flatMap putF).length = n := by have := hA.2.1.len; simpa using this
 have HLN := Lib.hid hln
 have HS := Lib.hid hF
 have HMF := Lib.hid hm
 clear hA hln hF hm
 go_enter Tryz.func26, Tryz.ntmps26
 go_wp2
 go_loopw [5, 6] (fun nv iv wr => ∃ i p q : Nat, i ≤ m + 1 ∧ iv = .int .i64 i ∧ nv = .int .i64 p ∧ wr = w.drewN q ∧ p = ((F.take i).flatMap putF).length) (fun _ iv _ => m + 2 - (intOf iv).toNat)
 case atStart => exact ⟨0, 0, 0, by omega, rfl, rfl, rfl, by simp⟩
 case round =>
  obtain ⟨i, p, q, hi, rfl, rfl, hwr, hp⟩ := hrel
  have HWR := Lib.hid hwr
  have HP := Lib.hid hp
  have hpn : p ≤ n := by rw [hp, ← HLN.out]; exact flat_len_le F i
  clear hwr hp
  rcases Nat.lt_or_ge m i with hmi | hmi
  ·have d1 : decide ((i : Int) ≤ (m : Int)) = false := by simp; omega
   have him : i = m + 1 := by omega
   have HE : Hid (p = ((F.take (m + 1)).flatMap putF).length) := Lib.hid (by rw [← him]; exact HP.out)
   clear him
   go_wp2
   go_ret
   exact ⟨by rw [← HE.out]; rfl, q, HWR.out⟩
  ·have d1 : decide ((i : Int) ≤ (m : Int)) = true := by simp; omega
   have hy : F[i]? = some (F[i]'(by have := HMF.out; omega)) := List.getElem?_eq_getElem _
   obtain ⟨y, hyy⟩ : ∃ y, y = F[i]'(by have := HMF.out; omega) := ⟨_, rfl⟩
   rw [← hyy] at hy
   have hysh : y.length ≤ 262144 := HS.out y (List.mem_of_getElem? hy)
   obtain ⟨M, hM⟩ : ∃ M, M = y.length := ⟨_, rfl⟩
   have hfl : ((F.take (i + 1)).flatMap putF).length = p + ((putL M).length + 4 + M) := by
    rw [flat_next F hy, List.length_append, ← HP.out, putF_len, hM]
   have hfn : ((F.take (i + 1)).flatMap putF).length ≤ n := by rw [← HLN.out]; exact flat_len_le F (i + 1)
   have hpos := putL_pos M
   have hpl : p < n := by omega
   have d2 : decide ((p : Int) < (n : Int)) = true := by simp; omega
   have HSH : Hid (M ≤ 262144) := Lib.hid (by rw [hM]; exact hysh)
   have HFL := Lib.hid hfl
   have HFN : Hid (p + ((putL M).length + 4 + M) ≤ n) := Lib.hid (by rw [← hfl]; exact hfn)
   -- the bytes of the frame's number
   have HB : Hid (∀ j, j < (putL M).length → (F.flatMap putF)[p + j]? = (putL M)[j]?) := Lib.hid (fun j hj => by
    have e2 : F.flatMap putF = (F.take i).flatMap putF ++ (putF y ++ (F.drop (i + 1)).flatMap putF) := by
     conv => lhs; rw [← List.take_append_drop (i + 1) F, List.flatMap_append, flat_next F hy]
     rw [List.append_assoc]
    rw [e2, List.getElem?_append_right (by rw [← HP.out]; omega), ← HP.out, Nat.add_sub_cancel_left, List.getElem?_append_left (by rw [putF_len, ← hM]; omega)]
    unfold putF
    rw [← hM, List.getElem?_append_left hj])
   clear hy hyy hysh hM hfl hfn hpos
   go_wp2
   go_loopw [5, 7, 8] (fun nv lv sv wi => ∃ j q2 : Nat, j ≤ 2 ∧ nv = .int .i64 ((p + j : Nat) : Int) ∧ lv = .int .i64 (madeL M j : Int) ∧ sv = .int .i64 ((7 * j : Nat) : Int) ∧ wi = w.drewN q2 ∧ (∀ a, a < j → 128 ≤ leftL M a)) (fun nv _ _ _ => p + 3 - (intOf nv).toNat)
   case atStart => exact ⟨0, q, by omega, by simp, rfl, rfl, HWR.out, fun a h => by omega⟩
   case round =>
    obtain ⟨j, q2, hj, rfl, rfl, rfl, hwi, hbig⟩ := hrel
    have HWI := Lib.hid hwi
    have HBIG := Lib.hid hbig
    obtain ⟨hdrop, hlen⟩ := leftL_put hbig
    have hlp := putL_pos (leftL M j)
    obtain ⟨hmi1, hmi2⟩ := madeL_is M j
    have hleft := leftL_le M j
    have hsm := HSH.out
    obtain ⟨P, hP⟩ : ∃ P, P = p + j := ⟨_, rfl⟩
    have hPn : P < n := by have := HFN.out; omega
    obtain ⟨pa, x, rfl, hx, hcx⟩ := HL.out.at P hPn
    have hx8 := x.toNat_lt
    have hxv : (putL M)[j]? = some x := by rw [← HB.out j (by omega), ← hP]; exact hx
    have hx0 : (putL (leftL M j))[0]? = some x := by rw [← hdrop, List.getElem?_drop]; exact hxv
    obtain ⟨g, hg⟩ : ∃ g, g = leftL M j := ⟨_, rfl⟩
    obtain ⟨acc, hacc⟩ : ∃ a, a = madeL M j := ⟨_, rfl⟩
    rw [← hg] at hx0 hlen
    have hcw : wr.cell? (pa.add P) = some (.int .u8 (x.toNat : Int)) := by rw [hwi]; exact hcx
    have hP0 : (0 : Int) ≤ (P : Int) := by omega
    have hP1 : (P : Int) < (n : Int) := by omega
    have dP : decide ((P : Int) < (n : Int)) = true := by simp; omega
    have a1 := and127_8 x.toNat (by omega)
    have hsh := ior_add acc j x.toNat (by rw [hacc]; exact hmi2) hj
    obtain ⟨s, hs⟩ : ∃ s, s = 7 * j := ⟨_, rfl⟩
    rw [← hs] at hsh ⊢
    have hs20 : s ≤ 14 := by omega
    have HSV := Lib.hid hs
    have HG := Lib.hid hg
    have HACC := Lib.hid hacc
    have HPP := Lib.hid hP
    have HMI := Lib.hid hmi1
    rw [← hP, ← hacc]
    clear hwi hbig hdrop hlp hmi1 hmi2 hx hcx hxv hg hacc hP hs
    rcases Nat.lt_or_ge g 128 with hgs | hgs
    ·have hxg : x.toNat = g := by
      rw [putL_small (by omega)] at hx0
      simp only [lz1, Option.some.injEq] at hx0
      rw [← hx0, UInt8.toNat_ofNat_of_lt' (by show _ < 256; omega)]
     have hlen1 : (putL M).length = j + 1 := by rw [hlen, putL_small (by omega)]; rfl
     have d3 : decide ((128 : Int) ≤ (x.toNat : Int)) = false := by simp; omega
     have HLEN := Lib.hid hlen1
     have htot : acc + x.toNat % 128 * 2 ^ s = M := by
      rw [HSV.out, hxg, Nat.mod_eq_of_lt hgs, HACC.out, HG.out]
      exact HMI.out
     have hsh2 : bits .or .i64 (acc : Int) (wrap64 ((x.toNat : Int) * 2 ^ s)) = (M : Int) := by
      have e : (x.toNat : Int) % 128 = (x.toNat : Int) := by omega
      rw [e] at hsh
      rw [hsh, htot]
     have hw1 : IntKind.i64.wrap ((P : Int) + 5) = ((P + 5 : Nat) : Int) := by rw [IntWalk.i64_in _ (by omega)]; push_cast; rfl
     have hw2 : IntKind.i64.wrap (((P + 5 : Nat) : Int) + (M : Int)) = ((P + 5 + M : Nat) : Int) := by rw [IntWalk.i64_in _ (by omega)]; push_cast; rfl
     have hw3 : IntKind.i64.wrap ((i : Int) + 1) = (i : Int) + 1 := IntWalk.i64_in _ (by omega)
     have HFIN : Hid (P + 5 + M = ((F.take (i + 1)).flatMap putF).length) := Lib.hid (by rw [HFL.out, HPP.out, hlen1]; omega)
     clear hsh hx0 hlen hlen1 hxg htot
     go_wp2
     go_roundw
     case rel => exact ⟨i + 1, P + 5 + M, q2, by omega, by go_num, by go_num, HWI.out, HFIN.out⟩
     case measure => simp [intOf]; omega
    ·have hxg : x.toNat = g % 128 + 128 := by
      rw [putL_big (by omega)] at hx0
      simp only [lz1, Option.some.injEq] at hx0
      rw [← hx0, UInt8.toNat_ofNat_of_lt' (by show _ < 256; omega)]
     have hj1 : j ≤ 1 := leftL_two HSH.out j (by rw [← HG.out]; exact hgs)
     have d3 : decide ((128 : Int) ≤ (x.toNat : Int)) = true := by simp; omega
     have hmk : acc + x.toNat % 128 * 2 ^ s = madeL M (j + 1) := by
      rw [HSV.out, madeL, ← HACC.out, ← HG.out, hxg]
      congr 2
      omega
     rw [hmk] at hsh
     have HBIG2 : Hid (∀ a, a < j + 1 → 128 ≤ leftL M a) := Lib.hid (fun a ha => by
      rcases Nat.lt_or_ge a j with h | h
      ·exact HBIG.out a h
      ·obtain rfl : a = j := by omega
       rw [← HG.out]; exact hgs)
     have hw1 : IntKind.i64.wrap ((s : Int) + 7) = ((7 * (j + 1) : Nat) : Int) := by rw [IntWalk.i64_in _ (by omega)]; have := HSV.out; omega
     have hw2 : IntKind.i64.wrap ((P : Int) + 1) = ((p + (j + 1) : Nat) : Int) := by rw [IntWalk.i64_in _ (by omega)]; have := HPP.out; omega
     clear hx0 hlen hxg hmk
     go_wp2
     go_roundw
     case rel => exact ⟨j + 1, q2, by omega, by go_num, by go_num, by go_num, HWI.out, HBIG2.out⟩
     case measure => simp [intOf]; have := HPP.out; omega
structure IsQ (w : World) (q b : Nat) (g : Nat → Prop) (s : Rd) (bad : Bool) : Prop where
 blk : Blk w q 189 #[.pointer (some ⟨b, 0, none⟩), .bool bad]
 rd : IsR w b g s
 ne : q ≠ b
 far : ¬ g q
theorem IsQ.read {w w' : World} {q b : Nat} {g : Nat → Prop} {s s' : Rd} {bad : Bool} (h : IsQ w q b g s bad) (hk : Kept (fun i => i = b) w w') (hr : IsR w' b g s') : IsQ w' q b g s' bad :=
 ⟨h.blk.kept hk h.ne, hr, h.ne, h.far⟩
theorem IsQ.later {w w' : World} {q b : Nat} {g : Nat → Prop} {s : Rd} {bad : Bool} (h : IsQ w q b g s bad) (hb : Below w.heap.size w w') : IsQ w' q b g s bad :=
 have hl : b < w.heap.size := by obtain ⟨A, c, h1, _⟩ := h.rd.at_; exact h1.lt
 have hk : Kept (fun i => w.heap.size ≤ i) w w' := Kept.below hb
 ⟨h.blk.below hb h.blk.lt, h.rd.kept hk (by omega) (fun i hi => by have := h.rd.lt i hi; omega), h.ne, h.far⟩
theorem spNew_any (w : World) (A : Option Addr) (n c : Nat) (l : Nm) (hl : BytesIn w A n l) (hn : n ≤ 1099511627776) :
  Calls Tryz.prog 101 #[.slice A n c] w fun e w' => ∃ q b g, e = .returned (.pointer (some ⟨q, 0, none⟩)) ∧ IsQ w' q b g ⟨l, 0, 0⟩ false ∧ w.heap.size ≤ q ∧ w.heap.size ≤ b ∧ Below w.heap.size w w' := by
 have HL := Lib.hid hl
 clear hl
 go_enter Tryz.func101, Tryz.ntmps101
 go_wp2_with fail
 refine (lNew_any w A n c l HL.out hn).mono ?_
 rintro e w1 ⟨b, g, rfl, hb, hg, hr, hB⟩
 have HR := Lib.hid hr
 have HB := Lib.hid hB
 have hbl : b < w1.heap.size := by obtain ⟨A, c, h1, _⟩ := hr.at_; exact h1.lt
 have HGL := Lib.hid hr.lt
 unfold at0
 clear hr hB
 go_wp2
 go_ret
 obtain ⟨W, hW⟩ : ∃ z, z = w1.alloc (.cells #[.pointer (some ⟨b, 0, none⟩), .bool false] 189) := ⟨_, rfl⟩
 have hk : Kept (fun _ => False) w1 W := by rw [hW]; exact (Kept.refl _ w1).alloc _
 rw [← hW]
 refine ⟨w1.heap.size, b, g, rfl, ⟨by rw [hW]; exact Blk.new _ _ _, HR.out.kept hk (fun h => h) (fun _ _ h => h), by omega, fun h => by have := HGL.out _ h; omega⟩, HB.out.size, hb, ?_⟩
 rw [hW]
 exact HB.out.alloc HB.out.size _
theorem spWant_any {w : World} {q b : Nat} {g : Nat → Prop} {s : Rd} {bad : Bool} (h : IsQ w q b g s bad) (r : Bool) :
  Calls Tryz.prog 103 #[.pointer (some ⟨q, 0, none⟩), .bool r] w fun e w' => e = .returned (.tuple #[]) ∧ IsQ w' q b g s (bad || !r) ∧ Kept (fun i => i = q) w w' := by
 have H := Lib.hid h
 have c1 := h.blk.cell 1
 have z1 := h.blk.frozen 1
 simp only [lz0, lz1, lz2] at c1
 clear h
 have HFIN : Hid (∀ v : Bool, v = (bad || !r) → IsQ (w.setCell ⟨q, 1, none⟩ (.bool v)) q b g s (bad || !r) ∧ Kept (fun i => i = q) w (w.setCell ⟨q, 1, none⟩ (.bool v))) := Lib.hid (fun v hv => by
  have hk : Kept (fun i => i = q) w (w.setCell ⟨q, 1, none⟩ (.bool v)) := (Kept.refl (fun i => i = q) w).setCell (.inl rfl) _
  refine ⟨⟨?_, H.out.rd.kept hk (fun e => H.out.ne e.symm) (fun i hi e => H.out.far (e ▸ hi)), H.out.ne, H.out.far⟩, hk⟩
  rw [← hv]
  simpa using H.out.blk.set_ 1 (.bool v))
 cases bad with
 | true =>
  go_enter Tryz.func103, Tryz.ntmps103
  go_wp2
  go_end0
  exact ⟨rfl, HFIN.out true rfl⟩
 | false =>
  cases r with
  | true =>
   go_enter Tryz.func103, Tryz.ntmps103
   go_wp2
   go_end0
   exact ⟨rfl, HFIN.out false rfl⟩
  | false =>
   go_enter Tryz.func103, Tryz.ntmps103
   go_wp2
   go_end0
   exact ⟨rfl, HFIN.out true rfl⟩
theorem spIsRead_any {w : World} {q b : Nat} {g : Nat → Prop} {s : Rd} {bad : Bool} (h : IsQ w q b g s bad) :
  Calls Tryz.prog 104 #[.pointer (some ⟨q, 0, none⟩)] w fun e w' => e = .returned (.bool (!bad && decide (s.e = 0 ∧ rLeft s = 0))) ∧ w' = w := by
 have H := Lib.hid h
 have c0 := h.blk.cell 0
 have c1 := h.blk.cell 1
 simp only [lz0, lz1, lz2] at c0 c1
 have HE := Lib.hid (lErr_any w b g s h.rd)
 have HF := Lib.hid (lLeft_any w b g s h.rd)
 obtain ⟨E, hE⟩ : ∃ E, E = s.e := ⟨_, rfl⟩
 obtain ⟨L, hL⟩ : ∃ L, L = rLeft s := ⟨_, rfl⟩
 rw [← hE] at HE
 rw [← hL] at HF
 rw [← hE, ← hL]
 unfold at0 at HE HF
 clear h hE hL H
 cases bad with
 | true =>
  go_enter Tryz.func104, Tryz.ntmps104
  go_wp2
  go_ret
  exact ⟨rfl, rfl⟩
 | false =>
  by_cases h0 : E = 0
  ·subst h0
   obtain ⟨r, hr⟩ : ∃ r, r = decide (L = 0) := ⟨_, rfl⟩
   have HR := Lib.hid hr
   have d1 : (((L : Nat) : Int) == 0) = r := by rw [hr]; by_cases h : L = 0 <;> simp [h]
   clear hr
   go_enter Tryz.func104, Tryz.ntmps104
   go_wp2_with fail
   refine HE.out.mono ?_
   rintro e w1 ⟨rfl, rfl⟩
   go_wp2_with fail
   refine HF.out.mono ?_
   rintro e w1 ⟨rfl, rfl⟩
   go_wp2
   go_ret
   exact ⟨by rw [HR.out]; simp, rfl⟩
  ·have d0 : (E == 0) = false := by simpa using h0
   have HN := Lib.hid h0
   clear h0
   go_enter Tryz.func104, Tryz.ntmps104
   go_wp2_with fail
   refine HE.out.mono ?_
   rintro e w1 ⟨rfl, rfl⟩
   go_wp2
   go_ret
   exact ⟨by simp [HN.out], rfl⟩
def RestOut (w : World) (q b : Nat) (g : Nat → Prop) (r : List UInt8 × Rd) (bad : Bool) (e : Ending) (w' : World) : Prop :=
 ∃ v, e = .returned v ∧ w'.ownsRow w.heap.size 5 1 v r.1.length (r.1.map byteV) ∧ IsQ w' q b g r.2 bad ∧ Kept (fun i => i = b) w w'
theorem spRest_any {w : World} {q b : Nat} {g : Nat → Prop} {s : Rd} {bad : Bool} (h : IsQ w q b g s bad) :
  Calls Tryz.prog 106 #[.pointer (some ⟨q, 0, none⟩)] w (RestOut w q b g (rBytes s (rLeft s)) bad) := by
 have H := Lib.hid h
 have c0 := h.blk.cell 0
 simp only [lz0, lz1, lz2] at c0
 obtain ⟨L, hL⟩ : ∃ L, L = rLeft s := ⟨_, rfl⟩
 have hLm : L ≤ 1099511627776 := by have h1 := h.rd.fit; have h2 := rLeft_le s; omega
 obtain ⟨r, hr⟩ : ∃ r, r = rBytes s (rLeft s) := ⟨_, rfl⟩
 rw [← hr]
 rw [← hL] at hr
 have HL := Lib.hid hL
 have HFIN : Hid (∀ (u u' : World) (v : Value), (∃ n, u = w.drewN n) → u'.ownsRow u.heap.size 5 1 v (rBytes s L).1.length ((rBytes s L).1.map byteV) → IsR u' b g (rBytes s L).2 → Kept (fun i => i = b) u u' → RestOut w q b g r bad (.returned v) u') := Lib.hid (fun u u' v hu ho hi hk => by
  obtain ⟨n, rfl⟩ := hu
  rw [← hr] at ho hi
  have hk2 : Kept (fun i => i = b) w u' := ((Kept.refl (fun i => i = b) w).drewN n).trans hk (fun _ _ e => e)
  exact ⟨v, rfl, ho, H.out.read hk2 hi, hk2⟩)
 have HC : Hid (w.cell? ⟨q, 0, none⟩ = some (.pointer (some ⟨b, 0, none⟩))) := Lib.hid c0
 clear h hL hr c0
 go_enter Tryz.func106, Tryz.ntmps106
 go_wp2_with fail
 refine wp_region_held_drew (S := fun w' => w'.cell? ⟨q, 0, none⟩ = some (.pointer (some ⟨b, 0, none⟩))) (by kernel_rfl) HC.out (fun hHeld => ?_)
 obtain ⟨u0, hu0⟩ : ∃ zz, zz = w.drew := ⟨_, rfl⟩
 rw [← hu0] at hHeld ⊢
 have HS0 : u0.cell? ⟨q, 0, none⟩ = some (.pointer (some ⟨b, 0, none⟩)) := by rw [hu0]; exact HC.out
 have HU0 : Hid (∃ n, u0 = w.drewN n) := Lib.hid ⟨1, hu0⟩
 have HR0 : Hid (IsR u0 b g s) := Lib.hid (by rw [hu0]; exact H.out.rd.kept (F := fun _ => False) (Kept.refl _ w).drew (fun h => h) (fun _ _ h => h))
 have HQ0 : Hid (∀ u, Kept (fun i => i = b) u0 u → u.cell? ⟨q, 0, none⟩ = some (.pointer (some ⟨b, 0, none⟩))) := Lib.hid (fun u hk => by
  have h1 := (H.out.blk.kept (F := fun i => i = b) ((Kept.refl (fun i => i = b) w).drew.trans (by rw [← hu0]; exact hk) (fun _ _ e => e)) H.out.ne).cell 0
  simpa using h1)
 clear hu0
 refine wpAnyH_take (i := 0) (oi := ?oia10) (v := ?va10) ?hia10 (by kernel_rfl) (by kernel_rfl) (by kernel_rfl) ?hQa10 (Or.inl ⟨?hwa10, ?hya10⟩) (by assumption) ?resta10
 case hia10 => (first | (simp only [lz0, lz1, lz2]; rfl) | rfl)
 case hQa10 => exact fun _ _ _ h => h
 case hwa10 => rfl
 case hya10 => ((intro w hSw; go_simp); first | done | with_reducible rfl)
 try simp only [Act.put, lz3, lz4, lz5]
 refine wpAnyH_take (i := 4) (oi := ?oia24) (v := ?va24) ?hia24 (by kernel_rfl) (by kernel_rfl) (by kernel_rfl) ?hQa24 (Or.inl ⟨?hwa24, ?hya24⟩) (by assumption) ?resta24
 case hia24 => (first | (simp only [lz0, lz1, lz2]; rfl) | rfl)
 case hQa24 => exact fun _ _ _ h => h
 case hwa24 => rfl
 case hya24 => ((intro w hSw; go_simp); first | done | with_reducible rfl)
 try simp only [Act.put, lz3, lz4, lz5]
 refine wpAnyH_take (i := 1) (oi := ?oia31) (v := ?va31) ?hia31 (by kernel_rfl) (by kernel_rfl) (by kernel_rfl) ?hQa31 (Or.inl ⟨?hwa31, ?hya31⟩) (by assumption) ?resta31
 case hia31 => (first | (simp only [lz0, lz1, lz2]; rfl) | rfl)
 case hQa31 => exact fun _ _ _ h => h
 case hwa31 => rfl
 case hya31 => ((intro w hSw; go_simp); first | done | with_reducible rfl)
 try simp only [Act.put, lz3, lz4, lz5]
 refine wpAnyH_take (i := 5) (oi := ?oia45) (v := ?va45) ?hia45 (by kernel_rfl) (by kernel_rfl) (by kernel_rfl) ?hQa45 (Or.inl ⟨?hwa45, ?hya45⟩) (by assumption) ?resta45
 case hia45 => (first | (simp only [lz0, lz1, lz2]; rfl) | rfl)
 case hQa45 => exact fun _ _ _ h => h
 case hwa45 => rfl
 case hya45 => ((intro w hSw; go_simp); first | done | with_reducible rfl)
 try simp only [Act.put, lz3, lz4, lz5]
 refine wpAnyH_take (i := 2) (oi := ?oia52) (v := ?va52) ?hia52 (by kernel_rfl) (by kernel_rfl) (by kernel_rfl) ?hQa52 (Or.inl ⟨?hwa52, ?hya52⟩) (by assumption) ?resta52
 case hia52 => (first | (simp only [lz0, lz1, lz2]; rfl) | rfl)
 case hQa52 => exact fun _ _ _ h => h
 case hwa52 => rfl
 case hya52 => ((intro w hSw; go_simp); first | done | with_reducible rfl)
 try simp only [Act.put, lz3, lz4, lz5]
 refine wpAnyH_take (i := 6) (oi := ?oia66) (v := ?va66) ?hia66 (by kernel_rfl) (by kernel_rfl) (by kernel_rfl) ?hQa66 (Or.inl ⟨?hwa66, ?hya66⟩) (by assumption) ?resta66
 case hia66 => (first | (simp only [lz0, lz1, lz2]; rfl) | rfl)
 case hQa66 => exact fun _ _ _ h => h
 case hwa66 => rfl
 case hya66 => ((intro w hSw; go_simp); first | done | with_reducible rfl)
 try simp only [Act.put, lz3, lz4, lz5]
 refine wpAnyH_take (i := 3) (oi := ?oia73) (v := ?va73) ?hia73 (by kernel_rfl) (by kernel_rfl) (by kernel_rfl) ?hQa73 (Or.inl ⟨?hwa73, ?hya73⟩) (by assumption) ?resta73
 case hia73 => (first | (simp only [lz0, lz1, lz2]; rfl) | rfl)
 case hQa73 => exact fun _ _ _ h => h
 case hwa73 => rfl
 case hya73 => ((intro w hSw; go_simp); first | done | with_reducible rfl)
 try simp only [Act.put, lz3, lz4, lz5]
 refine wpAnyH_take (i := 7) (oi := ?oia87) (v := ?va87) ?hia87 (by kernel_rfl) (by kernel_rfl) (by kernel_rfl) ?hQa87 (Or.inl ⟨?hwa87, ?hya87⟩) (by assumption) ?resta87
 case hia87 => (first | (simp only [lz0, lz1, lz2]; rfl) | rfl)
 case hQa87 => exact fun _ _ _ h => h
 case hwa87 => rfl
 case hya87 => ((intro w hSw; go_simp); first | done | with_reducible rfl)
 try simp only [Act.put, lz3, lz4, lz5]
 refine wpAnyH_ready (rs := [8]) (by kernel_rfl) (by simp) ?_
 refine AllReadyH.cons (o := ?oa9) ?ha9 ?sa9 AllReadyH.nil
 case ha9 => (simp only [lz0, lz1, lz2]; rfl)
 case sa9 =>
  intro K hK
  go_simp
  have HLF := Lib.hid (lLeft_any u0 b g s HR0.out)
  rw [← HL.out] at HLF
  refine HLF.out.mono ?_
  rintro e u1 ⟨rfl, rfl⟩
  clear HLF
  go_wp2_with fail
  refine hK.out _ _ HS0 (fun ha10 => ?_)
  clear hK K
  try simp only [Act.put, lz3, lz4, lz5]
  refine wpAnyH_ready (rs := [9]) (by kernel_rfl) (by simp) ?_
  refine AllReadyH.cons (o := ?oa11) ?ha11 ?sa11 AllReadyH.nil
  case ha11 => (simp only [lz0, lz1, lz2]; rfl)
  case sa11 =>
   intro K hK
   go_simp
   refine (lBytes_any u1 b g s HR0.out (L : Int) (by omega) (by omega)).mono ?_
   rintro e u2 ⟨v, rfl, ho, hr, hk⟩
   have HO := Lib.hid ho
   have HR2 := Lib.hid hr
   have HK := Lib.hid hk
   clear ho hr hk
   go_wp2_with fail
   refine hK.out _ _ (HQ0.out u2 HK.out) (fun ha12 => ?_)
   clear hK K
   try simp only [Act.put, lz3, lz4, lz5]
   refine wpAnyH_take (i := 10) (oi := ?oia1310) (v := ?va1310) ?hia1310 (by kernel_rfl) (by kernel_rfl) (by kernel_rfl) ?hQa1310 (Or.inl ⟨?hwa1310, ?hya1310⟩) (by assumption) ?resta1310
   case hia1310 => (first | (simp only [lz0, lz1, lz2]; rfl) | rfl)
   case hQa1310 => exact fun _ _ _ h => h
   case hwa1310 => rfl
   case hya1310 => ((intro w hSw; go_simp); first | done | with_reducible rfl)
   try simp only [Act.put, lz3, lz4, lz5]
   refine wpAnyH_done (by kernel_rfl) ?_ _
   go_wp2
   go_ret
   exact HFIN.out u1 u2 v HU0.out HO.out HR2.out HK.out
end Go.Proofs.YthcjikpabpgpfaaGreat
