/- The document's Dels: Put. -/
import Derived.Test.YtdmhaaplgkilpaaDlRef1
import Derived.Test.YtdmhaaplgkilpaaDpMath
import Derived.Test.YtdmhaaplgkilpaaDpAdd
import Derived.Test.YtdmhaaplgkilpaaFRef1
import Derived.Test.YtdmhaaplgkilpaaLRef1
import Derived.OwnWalk
namespace Go.Proofs.Ytdmhaaplgkilpaa
open Go.RowKit Go.Maps Go.WideMaps
set_option linter.unusedSimpArgs false

/-- Bytes of one's own at the head of block g. -/
def OwnB (w : World) (g : Nat) (bl : List UInt8) : Prop := ∃ cur, Blk w g 5 cur ∧ cur.toList.take bl.length = bl.map byteV ∧ bl.length ≤ cur.size
section
variable {w w' : World} {g : Nat} {bl : List UInt8}
theorem OwnB.lt (h : OwnB w g bl) : g < w.heap.size := by obtain ⟨cur, h1, -⟩ := h; exact h1.lt
theorem OwnB.cell (h : OwnB w g bl) {j : Nat} (hj : j < bl.length) : w.cell? ⟨g, j, none⟩ = some (.int .u8 (bl.getD j 0).toNat) ∧ w.frozen? ⟨g, j, none⟩ = false := by
  obtain ⟨cur, h1, h2, h3⟩ := h
  refine ⟨?_, h1.frozen j⟩
  rw [h1.cell j]
  have h4 : (cur.toList.take bl.length)[j]? = (bl.map byteV)[j]? := by rw [h2]
  rw [List.getElem?_take, if_pos hj, Array.getElem?_toList, List.getElem?_map, List.getElem?_eq_getElem hj] at h4
  rw [h4, List.getD_eq_getElem?_getD, List.getElem?_eq_getElem hj]
  rfl
theorem OwnB.set (h : OwnB w g bl) {j : Nat} (y : UInt8) : OwnB (w.setCell ⟨g, j, none⟩ (.int .u8 y.toNat)) g (bl.set j y) := by
  obtain ⟨cur, h1, h2, h3⟩ := h
  refine ⟨_, h1.set_ j _, ?_, by simpa using h3⟩
  rw [List.length_set, Array.toList_setIfInBounds, List.take_set, h2, List.map_set]
  rfl
theorem OwnB.of_block (h : OwnB w g bl) (hb : w'.heap[g]? = w.heap[g]?) : OwnB w' g bl := by
  obtain ⟨cur, h1, h2, h3⟩ := h
  exact ⟨cur, hb.trans h1, h2, h3⟩
theorem OwnB.src (h : OwnB w g bl) : Src w (some ⟨g, 0, none⟩) bl.length (bl.map byteV) := by
  refine ⟨by simp, fun ad e j u hu => ?_, fun e => by cases e⟩
  cases e
  rw [List.getElem?_map] at hu
  have hj : j < bl.length := by
    rcases Nat.lt_or_ge j bl.length with h | h
    · exact h
    · rw [List.getElem?_eq_none h] at hu; cases hu
  have e2 : (⟨g, 0, none⟩ : Addr).add j = ⟨g, j, none⟩ := by unfold Addr.add; split <;> simp_all
  rw [e2, (h.cell hj).1, ← hu, List.getElem?_eq_getElem hj, List.getD_eq_getElem?_getD, List.getElem?_eq_getElem hj]
  rfl
end
theorem setB_len (l : List UInt8) (I : Nat) : (setB l I).length = l.length := by unfold setB; rw [List.length_set]
theorem setB_bits {l : List UInt8} {I : Nat} (hI : I / 8 < l.length) (k : Nat) : bitOf (setB l I) k = (bitOf l k || decide (k = I)) := by
  unfold bitOf setB
  rw [List.getD_eq_getElem?_getD, List.getElem?_set]
  by_cases he : I / 8 = k / 8
  · rw [if_pos he, if_pos (by omega), Option.getD_some, UInt8.toNat_ofNat_of_lt' (by have := or_lt (l.getD (I / 8) 0) (I % 8) (by omega); simpa using this), Nat.testBit_or, he, Nat.testBit_two_pow]
    congr 1
    rw [decide_eq_decide]
    omega
  · rw [if_neg he, ← List.getD_eq_getElem?_getD, decide_eq_false (fun e : k = I => he (by rw [e])), Bool.or_false]
theorem zeros_bit (q i : Nat) : bitOf (List.replicate q (0 : UInt8)) i = false := by
  unfold bitOf
  have : (List.replicate q (0 : UInt8)).getD (i / 8) 0 = 0 := by
    rw [List.getD_eq_getElem?_getD, List.getElem?_replicate]
    split <;> rfl
  rw [this]
  simp
/-- A row of bits that is as the state says is its bits' bytes. -/
theorem bits_is {bl : List UInt8} {s : DSt} (hl : bl.length = (s.n + 7) / 8) (h : ∀ i, i < 8 * bl.length → bitOf bl i = (decide (i < s.n) && s.f i)) : bl = bitsB s := by
  refine List.ext_getElem? fun j => ?_
  by_cases hj : j < (s.n + 7) / 8
  · rw [bitsB_at _ hj, List.getElem?_eq_getElem (by omega)]
    refine congrArg some (byte_bits fun q hq => ?_)
    have hlt := bitsN_lt s j 8
    rw [UInt8.toNat_ofNat_of_lt' (by simpa using hlt), bitsN_bit _ _ _ _ hq, ← h (8 * j + q) (by omega)]
    unfold bitOf
    rw [show (8 * j + q) / 8 = j by omega, show (8 * j + q) % 8 = q by omega, List.getD_eq_getElem?_getD, List.getElem?_eq_getElem (by omega), Option.getD_some]
  · rw [List.getElem?_eq_none (by omega), List.getElem?_eq_none (by rw [bitsB_len]; omega)]
theorem made_bytes (q : Nat) : (madeCells (Value.int .u8 0).cells (q * 1)).toList = (List.replicate q (0 : UInt8)).map byteV := by
  rw [Nat.mul_one, List.map_replicate]
  exact toList_madeCells_one (.int .u8 0) q
theorem OwnB.of_own {w : World} {base g n c : Nat} {bl : List UInt8} (h : w.ownsRow base 5 1 (.slice (some ⟨g, 0, none⟩) n c) n (bl.map byteV)) : OwnB w g bl := by
  obtain ⟨h0, h1⟩ := h
  rcases h1 with ⟨h1, -⟩ | ⟨g', cap, cur, h1, h2, h3, h4, h5, h6, h7⟩
  · cases h1
  · injection h1 with h1
    injection h1 with h1
    injection h1 with h1
    subst h1
    have hl : bl.length = n := by simpa using h0
    have h8 : (cur.toList.take (n * 1)).length = bl.length := by rw [h7, List.length_map]
    rw [List.length_take, Array.length_toList] at h8
    exact ⟨cur, h3, by rw [hl, ← h7, Nat.mul_one], by omega⟩

set_option maxHeartbeats 8000000 in
set_option maxRecDepth 100000 in
theorem r14Put_any {w : World} {base b : Nat} {s : DSt} {L : List Int} {v : Value} (h : RAt w base b s L v) :
    Calls Try.prog 22 #[.pointer (some ⟨b, 0, none⟩)] w (fun e w' => ∃ A c, e = .returned (.slice A (dPut s).length c) ∧ BytesIn w' A (dPut s).length (dPut s) ∧ Below w.heap.size w w') := by
  have HH := Lib.hid h
  have hfw := h.few
  have hbl := h.blk.lt
  have hlen := h.len
  have c0 := h.blk.cell 0
  simp only [List.getElem?_toArray, List.getElem?_cons_zero, List.getElem?_cons_succ] at c0
  obtain ⟨i0, hi, hz0, hz1, hz2⟩ := info_parts byteInfo
  obtain ⟨n, hn⟩ : ∃ n, n = s.n := ⟨_, rfl⟩
  rw [← hn] at c0 hfw
  have HN := Lib.hid hn
  have hw7 : IntKind.i64.wrap ((n : Int) + 7) = (n : Int) + 7 := IntWalk.i64_in _ (by omega)
  obtain ⟨q, hq⟩ : ∃ q, q = (n + 7) / 8 := ⟨_, rfl⟩
  have hq8 : q ≤ 8 := by omega
  have hqi : ((n : Int) + 7) / 8 = (q : Int) := by omega
  have HQ := Lib.hid hq
  clear h hn hq
  go_enter Try.func22, Try.ntmps22
  go_wp2_with (at_make; refine wpList_make_full _ rfl (.tmp 11) (.tmp 11) 23 rfl w.heap.size 5 i0 (.int .u8 0) 1 Try.underlying23 hi hz0 hz1 .i64 .i64 _ _ q rfl rfl hqi hqi (by rw [hz2]; omega) (by unfold maxLen; omega) (Nat.le_refl _) ?_; intro w1 hown hgrow; have HO1 := Lib.hid hown; have HB1 := Lib.hid ((Below.refl w.heap.size w).grown hgrow (Nat.le_refl _) (fun k e => by cases e)); clear hown hgrow)
  obtain ⟨g, hg⟩ : ∃ g, g = w.heap.size := ⟨_, rfl⟩
  have HOB : Hid (OwnB w1 g (List.replicate q 0)) := Lib.hid (by have h1 := HO1.out; rw [made_bytes, ← hg] at h1; exact OwnB.of_own h1)
  have HG : Hid (w.heap.size ≤ g) := Lib.hid (by omega)
  rw [← hg]
  clear hg HO1
  obtain ⟨A, c, hv⟩ := own_slice HH.out.row
  subst hv
  obtain ⟨m, hm⟩ : ∃ m, m = L.length := ⟨_, rfl⟩
  have HM := Lib.hid hm
  have HC1 : Hid (∀ u : World, Below w.heap.size w u → u.cell? ⟨b, 0, none⟩ = some (.int .i64 n) ∧ u.cell? ⟨b, 1, none⟩ = some (.slice A m c) ∧ IntsIn u A m L) := Lib.hid (fun u hu => by
    have h1 := HH.out.later hu
    have c1 := h1.blk.cell 1
    have c0 := h1.blk.cell 0
    simp only [List.getElem?_toArray, List.getElem?_cons_zero, List.getElem?_cons_succ] at c0 c1
    rw [HN.out, hm]
    exact ⟨c0, c1, IntsIn.own h1.row (by unfold maxLen; omega) h1.fits⟩)
  rw [← hm] at hlen
  clear hm
  go_wp2_with fail
  go_loopw [4] (fun kv wr => ∃ (k : Nat) (bl : List UInt8), k ≤ m ∧ kv = .int .i64 k ∧ OwnB wr g bl ∧ bl.length = q ∧ (∀ i, i < 8 * q → bitOf bl i = decide ((i : Int) ∈ L.take k)) ∧ Below w.heap.size w wr) (fun kv _ => m - (intOf kv).toNat)
  case atStart => exact ⟨0, List.replicate q 0, by omega, rfl, HOB.out, List.length_replicate, fun i _ => by rw [zeros_bit]; rfl, HB1.out⟩
  case round =>
    obtain ⟨k, bl, hk, rfl, hob, hbl2, hbits, hb⟩ := hrel
    have HB := Lib.hid hb
    have HO := Lib.hid hob
    have HBL := Lib.hid hbl2
    have HBI := Lib.hid hbits
    obtain ⟨c0', c1, hil⟩ := HC1.out wr HB.out
    have HI := Lib.hid hil
    clear hob hbl2 hbits hb hil
    rcases Nat.lt_or_ge k m with hlt | hge
    · have hlt' : (k : Int) < (m : Int) := by omega
      have p0 : (0 : Int) ≤ (k : Int) := by omega
      have hw1 : IntKind.i64.wrap ((k : Int) + 1) = (k : Int) + 1 := IntWalk.i64_in _ (by omega)
      obtain ⟨pa, x, rfl, hx, x0, -, -⟩ := HI.out.at k hlt
      obtain ⟨hx0, hxn⟩ := HH.out.rng x (List.mem_of_getElem? hx)
      rw [← HN.out] at hxn
      obtain ⟨I, rfl⟩ := Int.eq_ofNat_of_zero_le hx0
      have hIq : I / 8 < q := by have := HQ.out; omega
      have HX := Lib.hid hx
      obtain ⟨hcell, hfz⟩ := HO.out.cell (j := I / 8) (by rw [HBL.out]; exact hIq)
      have hx8 := (bl.getD (I / 8) 0).toNat_lt
      have hor := u8_or_nat (bl.getD (I / 8) 0).toNat (2 ^ (I % 8)) (by omega) (by have : 2 ^ (I % 8) ≤ 2 ^ 7 := Nat.pow_le_pow_right (by omega) (by omega); omega)
      have hylt := or_lt (bl.getD (I / 8) 0) (I % 8) (by omega)
      have hpow := pow_u8 (I % 8) (by omega)
      have h80 : (0 : Int) ≤ (I : Int) % 8 := by omega
      have hset := HO.out.set (j := I / 8) (UInt8.ofNat ((bl.getD (I / 8) 0).toNat ||| 2 ^ (I % 8)))
      rw [UInt8.toNat_ofNat_of_lt' (by simpa using hylt)] at hset
      have hbit2 : ∀ i, i < 8 * q → bitOf (setB bl I) i = decide ((i : Int) ∈ L.take (k + 1)) := fun i hi => by
        rw [setB_bits (by rw [HBL.out]; exact hIq), HBI.out i hi, List.take_add_one, HX.out, Bool.eq_iff_iff]
        simp
        constructor <;> rintro (h1 | h1) <;> first | exact .inl h1 | exact .inr (by omega)
      have HST : Hid (OwnB (wr.setCell ⟨g, I / 8, none⟩ (.int .u8 (((bl.getD (I / 8) 0).toNat ||| 2 ^ (I % 8) : Nat) : Int))) g (setB bl I)) := Lib.hid hset
      have HB2 := Lib.hid hbit2
      obtain ⟨P, hP⟩ : ∃ P, P = 2 ^ (I % 8) := ⟨_, rfl⟩
      obtain ⟨z, hz⟩ : ∃ z, z = (bl.getD (I / 8) 0).toNat := ⟨_, rfl⟩
      rw [← hP] at hor hpow HST hylt
      rw [← hz] at hor hcell HST hylt hx8
      obtain ⟨y, hy⟩ : ∃ y, y = z ||| P := ⟨_, rfl⟩
      rw [← hy] at hor HST hylt
      have hI64 : I < 64 := by omega
      clear hx hset hbit2 hP hz hy
      have hwq : IntKind.i64.wrap ((I : Int) / 8) = ((I / 8 : Nat) : Int) := IntWalk.i64_in _ (by omega)
      have hdq : (I : Int) / 8 = ((I / 8 : Nat) : Int) := by omega
      obtain ⟨J, hJ⟩ : ∃ J, J = I / 8 := ⟨_, rfl⟩
      rw [← hJ] at hwq hdq hcell hfz HST hIq
      have j0 : (0 : Int) ≤ (J : Int) := by omega
      have jq : (J : Int) < (q : Int) := by omega
      have hcell2 : ∀ q, (wr.drewN q).cell? ⟨g, J, none⟩ = some (.int .u8 z) := fun _ => hcell
      have HST2 : Hid (∀ p, OwnB ((wr.drewN p).setCell ⟨g, J, none⟩ (.int .u8 y)) g (setB bl I) ∧ Below w.heap.size w ((wr.drewN p).setCell ⟨g, J, none⟩ (.int .u8 y))) := Lib.hid (fun p => ⟨HST.out, (below_drewN HB.out p).setCell HG.out _⟩)
      clear hJ
      obtain ⟨wo, hwo⟩ : ∃ zz, zz = wr := ⟨_, rfl⟩
      subst hwo
      go_wp2_with fail
      go_region
      go_wp2
      go_roundw
      case rel => exact ⟨k + 1, setB bl I, by omega, by go_num, (HST2.out _).1, by rw [setB_len]; exact HBL.out, HB2.out, (HST2.out _).2⟩
      case measure => simp [intOf]; omega
    · have hlz : ¬ ((k : Int) < (m : Int)) := by omega
      have HKM : Hid (k = L.length) := Lib.hid (by have := HM.out; omega)
      have HBB : Hid (bl = bitsB s) := Lib.hid (bits_is (by rw [HBL.out, HQ.out, HN.out]) fun i hi => by
        rw [HBL.out] at hi
        rw [HBI.out i hi, HKM.out, List.take_length, HH.out.mem, Bool.eq_iff_iff]
        simp
        intro h1
        have := HH.out.rng _ h1
        omega)
      have hpl := putL_len n (by omega)
      have HDP : Hid (dPut s = putF (putL n ++ bl)) := Lib.hid (by rw [HBB.out, HN.out]; rfl)
      have HLEN : Hid ((dPut s).length ≤ 100) := Lib.hid (by
        rw [(dPut_one (by rw [← HN.out]; exact hfw)).1]
        rw [← HN.out]
        omega)
      have HCP := Lib.hid (r3Put_any wr n (by omega))
      obtain ⟨T, hT⟩ : ∃ T, T = putL n := ⟨_, rfl⟩
      rw [← hT] at HCP HDP hpl
      clear hT
      obtain ⟨wo, hwo⟩ : ∃ zz, zz = wr := ⟨_, rfl⟩
      subst hwo
      go_wp2_with fail
      refine HCP.out.mono ?_
      rintro e w2 ⟨v1, rfl, ho1, hb1⟩
      obtain ⟨A1, c1', hv1⟩ := own_slice ho1
      subst hv1
      have HO1 := Lib.hid ho1
      have HB1' := Lib.hid (below_then HB.out hb1 HB.out.size)
      have hsrc := (HO.out.of_block (hb1.block g HO.out.lt)).src
      rw [HBL.out] at hsrc
      have HSRC := Lib.hid hsrc
      have hs2 := HB.out.size
      have hs3 := hb1.size
      clear ho1 hb1 hsrc HCP
      go_wp2_with (at_builtin; refine wpList_append_src _ rfl (.tmp 47) (.tmp 48) 23 rfl wo.heap.size 5 i0 (.int .u8 0) 1 Try.underlying23 hi hz0 hz1 hz2 rfl _ T.length _ rfl HO1.out _ q q _ rfl HSRC.out (u8_one _) (by unfold maxLen; omega) (by omega) hs3 ?_; intro v3 w3 hown hgrow _; obtain ⟨A3, c3, hv3⟩ := own_slice hown; subst hv3; rw [← List.map_append] at hown; have HO3 := Lib.hid hown; have HB3 := Lib.hid (HB1'.out.grown hgrow HB1'.out.size (fun g hg => Nat.le_trans hs2 (HO1.out.lt g hg).1)); clear hown hgrow)
      have hbi := BytesIn.own HO3.out (by unfold maxLen; omega)
      have HCF := Lib.hid (r4Put_any w3 A3 (T.length + q) c3 _ hbi (by omega))
      rw [← HDP.out] at HCF
      clear hbi
      refine HCF.out.mono ?_
      rintro e w4 ⟨v4, rfl, ho4, hb4⟩
      obtain ⟨A4, c4, hv4⟩ := own_slice ho4
      subst hv4
      have HB4 := Lib.hid (below_then HB3.out hb4 HB3.out.size)
      have HO4 := Lib.hid ho4
      clear ho4 hb4
      go_wp2
      go_ret
      exact ⟨A4, c4, rfl, BytesIn.own HO4.out (by unfold maxLen; have := HLEN.out; omega), HB4.out⟩
end Go.Proofs.Ytdmhaaplgkilpaa
