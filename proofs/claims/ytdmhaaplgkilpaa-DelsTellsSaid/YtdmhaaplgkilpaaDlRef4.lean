/- The document's Dels: Get. -/
import Derived.Test.YtdmhaaplgkilpaaDlRef1
import Derived.Test.YtdmhaaplgkilpaaDpMath
import Derived.Test.YtdmhaaplgkilpaaFRef3
import Derived.Test.YtdmhaaplgkilpaaLRef7
import Derived.Deep.DeepCutAuto
namespace Go.Proofs.Ytdmhaaplgkilpaa
open Go.RowKit Go.Maps Go.WideMaps
set_option linter.unusedSimpArgs false

theorem allAux_len' : ∀ (f : Nat) (c : List UInt8) (acc : List (List UInt8)), (allAux f c acc).1.length ≤ acc.length + f
  | 0, c, acc => by simp [allAux]
  | f + 1, c, acc => by
    simp only [allAux]
    split
    · simp
    · split
      · simp
      · have := allAux_len' f (c.drop (getF c).2.1) (acc ++ [(getF c).1])
        simp only [List.length_append, List.length_singleton] at this
        omega
theorem allF_len' (c : List UInt8) : (allF c).1.length ≤ c.length := by
  have := allAux_len' c.length c []
  simpa [allF] using this
theorem rInt_is {x : List UInt8} {v k : Nat} {e : Int} (hg : getL x = (v, k, e)) : rInt ⟨x, 0, 0⟩ 64 = if e ≠ 0 then (0, ⟨x, 0, e⟩) else if (64 : Int) < (v : Int) then (0, ⟨x, 0, 32⟩) else ((v : Int), ⟨x, k, 0⟩) := by
  unfold rInt
  simp only
  rw [List.drop_zero, hg]
  simp only [Nat.zero_add]
  rw [if_neg (by simp)]
  split
  · rfl
  · by_cases h6 : (64 : Int) < (v : Int)
    · rw [if_pos h6, if_pos (.inr h6)]
    · rw [if_neg h6, if_neg (by omega)]
/-- The set bits among the first k. -/
def onesTo (f : Nat → Bool) (k : Nat) : List Int := ((List.range k).filter f).map Int.ofNat
theorem onesTo_yes {f : Nat → Bool} {k : Nat} (h : f k = true) : onesTo f (k + 1) = onesTo f k ++ [(k : Int)] := by
  unfold onesTo
  rw [List.range_succ, List.filter_append, List.map_append]
  simp [h]
theorem onesTo_no {f : Nat → Bool} {k : Nat} (h : f k = false) : onesTo f (k + 1) = onesTo f k := by
  unfold onesTo
  rw [List.range_succ, List.filter_append, List.map_append]
  simp [h]
theorem onesTo_le (f : Nat → Bool) (k : Nat) : (onesTo f k).length ≤ k := by
  unfold onesTo
  rw [List.length_map]
  have := List.length_filter_le f (List.range k)
  rw [List.length_range] at this
  exact this
theorem onesTo_mem {f : Nat → Bool} {k : Nat} {x : Int} : x ∈ onesTo f k ↔ ∃ i : Nat, x = i ∧ i < k ∧ f i = true := by
  unfold onesTo
  rw [List.mem_map]
  constructor
  · rintro ⟨i, h1, rfl⟩
    rw [List.mem_filter, List.mem_range] at h1
    exact ⟨i, rfl, h1⟩
  · rintro ⟨i, rfl, h1⟩
    exact ⟨i, by rw [List.mem_filter, List.mem_range]; exact h1, rfl⟩
theorem onesTo_many {f : Nat → Bool} {n k : Nat} (hk : n ≤ k) (h : ∀ i, n ≤ i → i < k → f i = false) : (onesTo f k).length = dMany ⟨n, f⟩ := by
  unfold onesTo dMany
  rw [List.length_map, ← List.countP_eq_length_filter]
  simp only
  rw [show k = n + (k - n) by omega, List.range_add, List.countP_append]
  have h1 : ((List.range (k - n)).map (n + ·)).countP f = 0 := by
    rw [List.countP_eq_zero]
    intro i hi
    obtain ⟨j, hj, rfl⟩ := List.mem_map.1 hi
    have := List.mem_range.1 hj
    rw [h _ (by omega) (by omega)]
    simp
  omega
/-- What Get gives. -/
def RGetOut (w : World) (x : Nm) (e : Ending) (w' : World) : Prop := Below w.heap.size w w' ∧ match dGet x with
  | none => e = .returned (.tuple #[.pointer none, .int .i64 3])
  | some s => ∃ b L v, e = .returned (.tuple #[.pointer (some ⟨b, 0, none⟩), .int .i64 0]) ∧ RAt w' w.heap.size b s L v
theorem RGetOut.none_ {w w' : World} {x : Nm} (h : dGet x = none) (hb : Below w.heap.size w w') : RGetOut w x (.returned (.tuple #[.pointer none, .int .i64 3])) w' := by
  refine ⟨hb, ?_⟩
  rw [h]

set_option maxHeartbeats 16000000 in
set_option maxRecDepth 100000 in
theorem r14Get_any (w : World) (A : Option Addr) (n c : Nat) (x : Nm) (hx : BytesIn w A n x) (hc : n ≤ c) (hn : n ≤ 1000000) :
    Calls Try.prog 9 #[.slice A n c] w (RGetOut w x) := by
  obtain ⟨i0, hi, hz0, hz1, hz2⟩ := info_parts intInfoR
  have hln : x.length = n := by have := hx.2.1.len; simpa using this
  have HCF := Lib.hid (r4All_any w A n c x hx hc (by omega))
  have hll := allF_len' x
  obtain ⟨Ls, e0, hA⟩ : ∃ L e, allF x = (L, e) := ⟨_, _, rfl⟩
  have hdg : dGet x = if e0 ≠ 0 ∨ Ls.length ≠ 1 then none else dRead (Ls.getD 0 []) := by unfold dGet; rw [hA]
  rw [hA] at HCF hll
  simp only at hll
  have HA := Lib.hid hA
  have HDG := Lib.hid hdg
  clear hx hA hdg
  go_enter Try.func9, Try.ntmps9
  go_wp2_with fail
  refine HCF.out.mono ?_
  rintro e w1 ⟨v1, rfl, hrow, hb1⟩
  have hrow : RowsAt w1 w.heap.size v1 Ls := hrow
  obtain ⟨Ar, nr, cr, rfl⟩ : ∃ A n c, v1 = .slice A n c := by
    obtain ⟨svs, h1, -⟩ := hrow
    obtain ⟨A, c, h⟩ := own_slice h1
    exact ⟨A, _, c, h⟩
  obtain ⟨hsee, hnr, hcr⟩ := hrow.see (by unfold maxLen; omega)
  subst hnr
  have HS := Lib.hid hsee
  have HB1 := Lib.hid hb1
  clear hrow hsee hb1 HCF
  by_cases hE0 : e0 = 0
  case neg =>
    have d0 : (e0 != 0) = true := by simpa using hE0
    have HN := Lib.hid (show dGet x = none by rw [HDG.out, if_pos (.inl hE0)])
    clear hE0
    go_wp2
    go_ret2
    exact RGetOut.none_ HN.out HB1.out
  subst hE0
  by_cases hl1 : Ls.length = 1
  case neg =>
    have HN := Lib.hid (show dGet x = none by rw [HDG.out, if_pos (.inr hl1)])
    have d0 : (((Ls.length : Nat) : Int) != 1) = true := by simp only [bne_iff_ne]; omega
    clear hl1
    go_wp2
    go_ret2
    exact RGetOut.none_ HN.out HB1.out
  obtain ⟨f, rfl⟩ : ∃ f, Ls = [f] := by
    match Ls, hl1 with
    | [f], _ => exact ⟨f, rfl⟩
  have HR : Hid (dGet x = dRead f) := Lib.hid (by rw [HDG.out, if_neg (by simp)]; rfl)
  have hfl : f.length ≤ 262144 := (allF_inv HA.out).2 f (List.mem_singleton.2 rfl)
  obtain ⟨ad, B1, c1, e1, hcell, hcc, hB1⟩ := HS.out.at_ 0 f rfl
  cases e1
  rw [Addr.add_zero'] at hcell
  have HBY := Lib.hid hB1
  obtain ⟨v, k, e2, hg2⟩ : ∃ v k e2, getL f = (v, k, e2) := ⟨_, _, _, rfl⟩
  have HRD := Lib.hid (dRead_is hg2)
  have HRI := Lib.hid (rInt_is hg2)
  have HG2 := Lib.hid hg2
  simp only [List.length_cons, List.length_nil, Nat.zero_add, Nat.reduceAdd] at hl1 hll ⊢
  clear hB1 hg2 HDG HA
  go_wp2_with fail
  refine (r3New_any w1 B1 f.length c1 f HBY.out (by omega)).mono ?_
  rintro e w2 ⟨rb, A1, c1', rfl, hrb, hR1, hb2, -⟩
  unfold at0
  have HR1 := Lib.hid hR1
  have hrb1 : rb < w2.heap.size := hR1.blk.lt
  have HB2 := Lib.hid (below_then HB1.out hb2 HB1.out.size)
  have HRBW : Hid (w.heap.size ≤ rb) := Lib.hid (Nat.le_trans HB1.out.size hrb)
  clear hR1 hb2 hcell hcc HBY HS
  go_wp2_with fail
  refine (r3Int_any w2 rb ⟨f, 0, 0⟩ A1 c1' HR1.out 64 (by omega) (by omega)).mono ?_
  rintro e w3 ⟨rfl, hR3, hk3⟩
  have HB3 : Hid (Below w.heap.size w w3) := Lib.hid (HB2.out.trans (hk3.toBelow HB2.out.size (fun i hi => by rw [hi]; exact HRBW.out)))
  have HR3 := Lib.hid hR3
  clear hR3 hk3 HR1 HB2
  by_cases he2 : e2 = 0
  case neg =>
    have HN := Lib.hid (show dGet x = none by rw [HR.out, HRD.out, if_pos (.inl he2)])
    have hri := HRI.out
    rw [if_pos he2] at hri
    have h3 := HR3.out
    rw [hri] at h3 ⊢
    have c2 := h3.blk.cell 2
    simp only [List.getElem?_toArray, List.getElem?_cons_zero, List.getElem?_cons_succ] at c2 ⊢
    have d0 : (e2 != 0) = true := by simpa using he2
    clear hri h3 he2 HRI HRD HG2
    go_wp2
    go_ret2
    exact RGetOut.none_ HN.out HB3.out
  subst he2
  by_cases hv : 64 < v
  · have HN := Lib.hid (show dGet x = none by rw [HR.out, HRD.out, if_pos (.inr hv)])
    have hri := HRI.out
    rw [if_neg (by simp), if_pos (by omega)] at hri
    have h3 := HR3.out
    rw [hri] at h3 ⊢
    have c2 := h3.blk.cell 2
    simp only [List.getElem?_toArray, List.getElem?_cons_zero, List.getElem?_cons_succ] at c2 ⊢
    clear hri h3 hv HRI HRD HG2
    go_wp2
    go_ret2
    exact RGetOut.none_ HN.out HB3.out
  have hri := HRI.out
  rw [if_neg (by simp), if_neg (by omega)] at hri
  have hR3 := HR3.out
  rw [hri] at hR3 ⊢
  have c2 := hR3.blk.cell 2
  simp only [List.getElem?_toArray, List.getElem?_cons_zero, List.getElem?_cons_succ] at c2 hR3 ⊢
  have HR4 := Lib.hid hR3
  obtain ⟨-, hk10, hkX, -, -⟩ := getL_inv HG2.out
  have HRD2 : Hid (dGet x = if f.length - k ≠ (v + 7) / 8 then none else if ((List.range 64).any fun i => decide (v ≤ i) && bitOf (f.drop k) i) = true then none else some ⟨v, bitOf (f.drop k)⟩) := Lib.hid (by rw [HR.out, HRD.out, if_neg (by omega)])
  have hleft : rLeft ⟨f, k, 0⟩ = f.length - k := by unfold rLeft; rw [if_neg (by simp)]
  have HLC := Lib.hid (r3Left_any w3 rb ⟨f, k, 0⟩ A1 c1' hR3)
  rw [hleft] at HLC
  have hrb2 : rBytes ⟨f, k, 0⟩ ((f.length - k : Nat) : Int) = (f.drop k, (rBytes ⟨f, k, 0⟩ ((f.length - k : Nat) : Int)).2) := by
    unfold rBytes
    simp only
    by_cases h0 : f.length - k = 0
    · rw [h0, if_pos (.inr (by simp)), List.drop_eq_nil_of_le (by omega)]
    · rw [if_neg (by omega), if_neg (by omega), Int.toNat_natCast, List.take_of_length_le (by rw [List.length_drop]; omega)]
  have HRB := Lib.hid hrb2
  have hRl : (f.drop k).length = f.length - k := by rw [List.length_drop]
  obtain ⟨R, hR⟩ : ∃ R, R = f.drop k := ⟨_, rfl⟩
  obtain ⟨r, hr⟩ : ∃ r, r = f.length - k := ⟨_, rfl⟩
  obtain ⟨q, hq⟩ : ∃ q, q = (v + 7) / 8 := ⟨_, rfl⟩
  have hq8 : q ≤ 8 ∧ v ≤ 8 * q := by omega
  rw [← hR, ← hr, ← hq] at HRD2
  rw [← hr] at HLC hleft
  have HLF := Lib.hid hleft
  rw [← hR, ← hr] at HRB
  rw [← hR, ← hr] at hRl
  have HRL := Lib.hid hRl
  have hr26 : r ≤ 262144 := by omega
  have hw7 : IntKind.i64.wrap ((v : Int) + 7) = (v : Int) + 7 := IntWalk.i64_in _ (by omega)
  have hqi : ((v : Int) + 7) / 8 = (q : Int) := by omega
  clear hri hR3 HRI HRD HR HR3 hleft hrb2 hR hr hq hRl
  go_wp2_with fail
  refine HLC.out.mono ?_
  rintro e w4 ⟨rfl, q4, hw4⟩
  have HR5 : Hid (IsR3 w4 rb ⟨f, k, 0⟩ A1 c1') := Lib.hid (by rw [hw4]; exact HR4.out.drewN q4)
  have HB4 : Hid (Below w.heap.size w w4) := Lib.hid (by rw [hw4]; exact below_drewN HB3.out q4)
  clear hw4 HLC HR4 HB3 c2
  by_cases hrq : r = q
  case neg =>
    have hne : ((r : Int) != (q : Int)) = true := by simp only [bne_iff_ne]; omega
    have HN := Lib.hid (show dGet x = none by rw [HRD2.out, if_pos hrq])
    go_wp2
    go_ret2
    exact RGetOut.none_ HN.out HB4.out
  subst hrq
  have HRD3 := Lib.hid HRD2.out
  rw [if_neg (by omega)] at HRD3
  have HLC := Lib.hid (r3Left_any w4 rb ⟨f, k, 0⟩ A1 c1' HR5.out)
  rw [HLF.out] at HLC
  clear HRD2
  go_wp2_with fail
  refine HLC.out.mono ?_
  rintro e w5 ⟨rfl, q5, hw5⟩
  have HR6 : Hid (IsR3 w5 rb ⟨f, k, 0⟩ A1 c1') := Lib.hid (by rw [hw5]; exact HR5.out.drewN q5)
  have HB5 : Hid (Below w.heap.size w w5) := Lib.hid (by rw [hw5]; exact below_drewN HB4.out q5)
  clear hw5 HLC HR5 HB4
  have HCB := Lib.hid (r3Bytes_any w5 rb ⟨f, k, 0⟩ A1 c1' HR6.out (r : Int) (by omega) (by omega))
  unfold BytesOut at HCB
  rw [HRB.out] at HCB
  simp only at HCB
  rw [HRL.out] at HCB
  clear HRB HLF
  go_wp2_with fail
  refine HCB.out.mono ?_
  rintro e w6 ⟨v6, rfl, ho6, -, hk6⟩
  obtain ⟨A6, c6, hv6⟩ := own_slice ho6
  subst hv6
  have HB6 : Hid (Below w.heap.size w w6) := Lib.hid (HB5.out.trans (hk6.toBelow HB5.out.size (fun i hi => by rw [hi]; exact HRBW.out)))
  have HI6 : Hid (BytesIn w6 A6 r R) := Lib.hid (BytesIn.own ho6 (by unfold maxLen; omega))
  clear ho6 hk6 HCB HR6 HB5
  obtain ⟨bq, hbq⟩ : ∃ bq, bq = w6.heap.size := ⟨_, rfl⟩
  obtain ⟨w7, hw7e⟩ : ∃ w7, w7 = w6.alloc (.cells #[.int .i64 v, .slice none 0 0] 34) := ⟨_, rfl⟩
  have HK7 : Hid (Blk w7 bq 34 #[.int .i64 v, .slice none 0 0]) := Lib.hid (by rw [hw7e, hbq]; exact Blk.new _ _ _)
  have HB7 : Hid (Below w.heap.size w w7) := Lib.hid (by rw [hw7e]; exact HB6.out.alloc HB6.out.size _)
  have HI7 : Hid (BytesIn w7 A6 r R) := Lib.hid (by rw [hw7e]; exact HI6.out.below ((Below.refl _ w6).alloc (Nat.le_refl _) _))
  have HAB : Hid (∀ ad, A6 = some ad → 0 < r → ad.block < bq) := Lib.hid (fun ad e h0 => by rw [hbq]; exact HI6.out.2.2 ad e h0)
  have HBQ : Hid (w.heap.size ≤ bq) := Lib.hid (by rw [hbq]; exact HB6.out.size)
  have HE7 := Lib.hid hw7e
  have HEQ := Lib.hid hbq
  clear hw7e hbq
  have hr8 : IntKind.i64.wrap ((r : Int) * 8) = ((8 * r : Nat) : Int) := by rw [show (r : Int) * 8 = ((8 * r : Nat) : Int) by omega]; exact IntWalk.i64_in _ (by omega)
  obtain ⟨Z, hZ⟩ : ∃ Z, Z = 8 * r := ⟨_, rfl⟩
  rw [← hZ] at hr8
  have hZ64 : Z ≤ 64 ∧ v ≤ Z := by omega
  have HZ := Lib.hid hZ
  clear hZ
  go_wp2_with fail
  rw [← HE7.out, ← HEQ.out]
  go_loopw [10] (fun iv wr => ∃ (i : Nat) (vv : Value), i ≤ Z ∧ iv = .int .i64 i ∧ Blk wr bq 34 #[.int .i64 v, vv] ∧ wr.ownsRow bq 2 1 vv (onesTo (bitOf R) i).length ((onesTo (bitOf R) i).map i64V) ∧ (∀ j, j < i → bitOf R j = true → j < v) ∧ Below w.heap.size w wr ∧ Kept (fun g => bq ≤ g) w7 wr) (fun iv _ => Z - (intOf iv).toNat)
  case atStart => exact ⟨0, .slice none 0 0, by omega, rfl, HK7.out, ⟨rfl, .inl ⟨rfl, rfl⟩⟩, (fun j hj => by omega), HB7.out, Kept.refl _ _⟩
  case round =>
    obtain ⟨i, vv, hi2, rfl, hblk, hrow, hnon, hb, hkk⟩ := hrel
    obtain ⟨A0, c0', hv0⟩ := own_slice hrow
    subst hv0
    have HBL := Lib.hid hblk
    have HRO := Lib.hid hrow
    have HNO := Lib.hid hnon
    have HB := Lib.hid hb
    have HKK := Lib.hid hkk
    have HIr : Hid (BytesIn wr A6 r R) := Lib.hid (HI7.out.keep hkk (fun ad e h0 h => by have := HAB.out ad e h0; omega))
    obtain ⟨c0, hc1⟩ : (wr.cell? ⟨bq, 0, none⟩ = some (.int .i64 v)) ∧ wr.cell? ⟨bq, 1, none⟩ = some (.slice A0 (onesTo (bitOf R) i).length c0') := ⟨hblk.cell 0, hblk.cell 1⟩
    have z1 := hblk.frozen 1
    have hol := onesTo_le (bitOf R) i
    clear hblk hrow hnon hb hkk
    rcases Nat.lt_or_ge i Z with hlt | hge
    · have hlt' : (i : Int) < (Z : Int) := by omega
      have p0 : (0 : Int) ≤ (i : Int) := by omega
      have hw1 : IntKind.i64.wrap ((i : Int) + 1) = (i : Int) + 1 := IntWalk.i64_in _ (by omega)
      obtain ⟨J, hJ⟩ : ∃ J, J = i / 8 := ⟨_, rfl⟩
      have hJr : J < r := by have := HZ.out; omega
      obtain ⟨pa, y, rfl, hy, y0⟩ := HIr.out.at J hJr
      have hdq : (i : Int) / 8 = (J : Int) := by omega
      have j0 : (0 : Int) ≤ (J : Int) := by omega
      have jr : (J : Int) < (r : Int) := by omega
      have h80 : (0 : Int) ≤ (i : Int) % 8 := by omega
      obtain ⟨tb, htb⟩ : ∃ tb, tb = bitOf R i := ⟨_, rfl⟩
      have hbit : tb = y.toNat.testBit (i % 8) := by rw [htb]; unfold bitOf; rw [← hJ, List.getD_eq_getElem?_getD, hy]; rfl
      have HTB := Lib.hid htb
      have hy8 := y.toNat_lt
      clear hy hJ htb
      obtain ⟨wo, hwo⟩ : ∃ zz, zz = wr := ⟨_, rfl⟩
      subst hwo
      have hte : (bits .and .u8 ((y.toNat : Int) / 2 ^ (i % 8)) 1 == 1) = tb := by
        have h1 : (y.toNat : Int) / 2 ^ (i % 8) = ((y.toNat / 2 ^ (i % 8) : Nat) : Int) := by simp
        have hle : y.toNat / 2 ^ (i % 8) ≤ y.toNat := Nat.div_le_self _ _
        have h2 := u8_and_nat (y.toNat / 2 ^ (i % 8)) 1 (by omega) (by omega)
        rw [Nat.and_one_is_mod] at h2
        rw [h1, show (1 : Int) = ((1 : Nat) : Int) from rfl, h2, hbit, Nat.testBit_eq_decide_div_mod_eq, Bool.eq_iff_iff]
        simp
        omega
      clear hbit
      cases tb with
      | false =>
        have HST := Lib.hid (onesTo_no HTB.out.symm)
        go_wp2
        go_roundw
        case rel =>
          refine ⟨i + 1, _, by omega, by go_num, HBL.out, by rw [HST.out]; exact HRO.out, fun j hj hbj => ?_, HB.out, HKK.out⟩
          rcases Nat.lt_or_ge j i with h | h
          · exact HNO.out j h hbj
          · obtain rfl : j = i := by omega
            rw [← HTB.out] at hbj
            cases hbj
        case measure => simp [intOf]; omega
      | true =>
        by_cases hiv : v ≤ i
        · have hiv' : (v : Int) ≤ (i : Int) := by omega
          have HN : Hid (dGet x = none) := Lib.hid (by
            rw [HRD3.out, if_pos]
            rw [List.any_eq_true]
            exact ⟨i, List.mem_range.2 (by omega), by rw [decide_eq_true hiv, ← HTB.out]; rfl⟩)
          go_wp2
          go_ret2
          exact RGetOut.none_ HN.out HB.out
        · have hiv' : ¬ (v : Int) ≤ (i : Int) := by omega
          have HST := Lib.hid (onesTo_yes HTB.out.symm)
          have HO2 := Lib.hid (own_alloc64r HRO.out (.cells #[.int .i64 i] 2))
          have HSRC := Lib.hid (one_int_src wo 2 i)
          have HK2 : Hid (Kept (fun g => bq ≤ g) w7 (wo.alloc (.cells #[.int .i64 i] 2))) := Lib.hid (HKK.out.alloc _)
          have hap := own_blk_ne HRO.out HBL.out (by decide)
          have HAP := Lib.hid hap
          have HBK := Lib.hid (HBL.out.alloc (.cells #[.int .i64 i] 2))
          have HBa := Lib.hid (HB.out.alloc HB.out.size (.cells #[.int .i64 i] 2))
          have hwo := HBL.out.lt
          clear hap
          go_wp2_with (at_builtin; refine wpList_append_src _ rfl (.tmp 73) (.tmp 75) 22 rfl bq 2 i0 (.int .i64 0) 8 Try.underlying22 hi hz0 hz1 hz2 rfl _ (onesTo (bitOf R) i).length ((onesTo (bitOf R) i).map i64V) rfl HO2.out _ 1 1 ([(i : Int)].map i64V) rfl HSRC.out (i64V_one _) (by unfold maxLen; omega) (by omega) (by simp; omega) ?_; intro v3 w3 hown hgrow hloc; obtain ⟨A3, c3, hv3⟩ := own_slice hown; subst hv3; have HO3 := Lib.hid hown; have HK3 := Lib.hid (HK2.out.grown hgrow (fun g e => .inl (HO2.out.lt g e).1)); have HB3 := Lib.hid (HBK.out.grown hgrow (fun e => HAP.out e.symm)); have HBb := Lib.hid (HBa.out.grown hgrow HBa.out.size (fun g e => Nat.le_trans HBQ.out (HO2.out.lt g e).1)); have z3 := HB3.out.frozen 1; have c3' := HB3.out.cell 1; simp only [List.getElem?_toArray, List.getElem?_cons_zero, List.getElem?_cons_succ] at c3'; clear hown hgrow hloc)
          go_roundw
          case rel =>
            have hne : (Value.slice A3 ((onesTo (bitOf R) i).length + 1) c3).ownBlock ≠ some bq := own_blk_ne HO3.out HB3.out (by decide)
            refine ⟨i + 1, .slice A3 ((onesTo (bitOf R) i).length + 1) c3, by omega, by go_num, HB3.out.set_ 1 _, ?_, fun j hj hbj => ?_, HBb.out.setCell HBQ.out _, HK3.out.setCell (.inl (Nat.le_refl _)) _⟩
            · rw [HST.out, List.map_append, List.length_append]
              exact ownsRow_block HO3.out fun g hg => heap_setCell_other _ _ _ (fun e => hne (by rw [hg, e]))
            · rcases Nat.lt_or_ge j i with h | h
              · exact HNO.out j h hbj
              · omega
          case measure => simp [intOf]; omega
    · have hlz : ¬ ((i : Int) < (Z : Int)) := by omega
      have HIZ : Hid (i = Z) := Lib.hid (by omega)
      go_wp2
      go_ret2
      refine ⟨HB.out, ?_⟩
      have hz : ∀ j, v ≤ j → j < Z → bitOf R j = false := fun j h1 h2 => by
        cases hb : bitOf R j with
        | false => rfl
        | true => have := HNO.out j (by rw [HIZ.out]; exact h2) hb; omega
      have hall : ∀ j, Z ≤ j → bitOf R j = false := fun j h => bitOf_out R j (by rw [HRL.out]; have := HZ.out; omega)
      have hd : dGet x = some ⟨v, bitOf R⟩ := by
        rw [HRD3.out, if_neg]
        rw [Bool.not_eq_true, List.any_eq_false]
        intro j hj
        rw [List.mem_range] at hj
        by_cases h1 : v ≤ j
        · rcases Nat.lt_or_ge j Z with h2 | h2
          · rw [hz j h1 h2]; simp
          · rw [hall j h2]; simp
        · rw [decide_eq_false h1]; simp
      rw [hd]
      refine ⟨bq, onesTo (bitOf R) i, _, rfl, HBL.out, Go.Joins.ownsRow_le HRO.out HBQ.out, by show v ≤ 64; omega, fun y hy => ?_, fun j => ?_, ?_, HBQ.out⟩
      · obtain ⟨j, rfl, h1, h2⟩ := onesTo_mem.1 hy
        have := HNO.out j h1 h2
        exact ⟨by omega, by show (j : Int) < (v : Int); omega⟩
      · show bitOf R j = _
        rw [Bool.eq_iff_iff, decide_eq_true_iff, onesTo_mem]
        constructor
        · intro h
          refine ⟨j, rfl, ?_, h⟩
          rcases Nat.lt_or_ge j Z with h2 | h2
          · rw [HIZ.out]; exact h2
          · rw [hall j h2] at h; cases h
        · rintro ⟨j', h1, -, h3⟩
          obtain rfl : j = j' := by omega
          exact h3
      · rw [HIZ.out]
        exact onesTo_many hZ64.2 hz
end Go.Proofs.Ytdmhaaplgkilpaa
