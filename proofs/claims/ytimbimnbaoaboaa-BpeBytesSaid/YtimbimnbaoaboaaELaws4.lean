/- BpeBack, walked. -/
import Derived.Test.YtimbimnbaoaboaaELaws3
namespace Go.Proofs.Ytimbimnbaoaboaa
open Go.RowKit Go.Maps Go.WideMaps
set_option linter.unusedSimpArgs false

theorem textUp_flat (L : List Nm) (l : List Int) : ∀ k, k ≤ l.length → textUp L l k = (l.take k).flatMap (tokI L)
  | 0, _ => by simp [textUp]
  | k + 1, h => by
    have e : l[k]? = some (l[k]'(by omega)) := List.getElem?_eq_getElem _
    rw [textUp, textUp_flat L l k (by omega), List.take_add_one, e, List.flatMap_append, List.getD_eq_getElem?_getD, e]
    simp
theorem decT_flat (L : List Nm) (l : List Int) : decT L l = l.flatMap (tokI L) := by
  unfold decT
  rw [textUp_flat L l _ (Nat.le_refl _), List.take_length]
theorem VOk.to_text {V : Voc} (h : VOk V) {k : Nat} {m : Mg} (hm : V.mer[k]? = some m) : tokI V.tok (toOf V.mer k) = tokI V.tok m.a ++ tokI V.tok m.b := by
  have e : toOf V.mer k = m.t := by simp [toOf, List.getD_eq_getElem?_getD, hm]
  obtain ⟨⟨b1, b2, b3, b4, b5, b6⟩, _, h3⟩ := (merOk_iff hm).1 (h.mer k (List.getElem?_eq_some_iff.1 hm).1)
  rw [e]
  unfold tokI
  rw [if_pos ⟨b5, b6⟩, if_pos ⟨b1, b2⟩, if_pos ⟨b3, b4⟩, h3]
theorem two_at {l : List Int} {i : Nat} {a b : Int} (ha : l[i]? = some a) (hb : l[i + 1]? = some b) : l = l.take i ++ a :: b :: l.drop (i + 2) := by
  have h1 : l.drop i = a :: l.drop (i + 1) := by
    obtain ⟨h, e⟩ := List.getElem?_eq_some_iff.1 ha
    rw [List.drop_eq_getElem_cons h, e]
  have h2 : l.drop (i + 1) = b :: l.drop (i + 2) := by
    obtain ⟨h, e⟩ := List.getElem?_eq_some_iff.1 hb
    rw [List.drop_eq_getElem_cons h, e]
  rw [← h2, ← h1, List.take_append_drop]
theorem VOk.enc_text {V : Voc} (h : VOk V) (s : Nm) : (encL V.mer s).flatMap (tokI V.tok) = s := by
  unfold encL
  refine encRun_keeps (M := V.mer) (Q := fun l => l.flatMap (tokI V.tok) = s) ?_ _ _ ?_
  · intro l i k hl hk
    obtain ⟨a, b, ha, hb, h3⟩ := pairRk_some hk
    obtain ⟨_, m, hm, rfl, rfl⟩ := rkOf_lt h3
    have e := two_at ha hb
    rw [← hl]
    conv => rhs; rw [e]
    unfold mergeAt
    simp only [List.flatMap_append, List.flatMap_cons, List.append_assoc]
    rw [h.to_text hm, List.append_assoc]
  · unfold bytesI
    rw [List.flatMap_map]
    have : ∀ c : UInt8, tokI V.tok (c.toNat : Int) = [c] := fun c => by
      have h1 := h.single c.toNat c.toNat_lt
      have h2 := h.long
      have h3 := c.toNat_lt
      unfold tokI
      rw [if_pos ⟨by omega, by omega⟩, Int.toNat_natCast, List.getD_eq_getElem?_getD, h1]
      simp
    simp only [this]
    simp
theorem VOk.enc_walk {V : Voc} (h : VOk V) {s : Nm} (hs : s.length ≤ 4096) : walkE V.tok (encL V.mer s) = 0 ∧ decR V.tok (encL V.mer s) = s := by
  have e : decT V.tok (encL V.mer s) = s := by rw [decT_flat, h.enc_text]
  have h0 : walkE V.tok (encL V.mer s) = 0 := by
    unfold walkE
    rw [if_pos (show ∀ i ∈ encL V.mer s, tokIn V.tok i from h.enc_in s), if_neg (by rw [e]; omega)]
  refine ⟨h0, ?_⟩
  unfold decR
  rw [if_pos h0, e]
set_option maxHeartbeats 8000000 in
set_option maxRecDepth 100000 in
theorem bpeBack_any (w : World) (A : Option Addr) (n c : Nat) (ps : List (Int × Int)) (hp : PairsIn w A n ps) (hc : n ≤ c) (B : Option Addr) (p cp : Nat) (s : Nm) (hs : BytesIn w B p s) :
    Calls Try.prog 4 #[.slice A n c, .slice B p cp] w fun e w' => e = .returned (.bool true) ∧ Below w.heap.size w w' := by
  have HP := Lib.hid hp
  have HS := Lib.hid hs
  have HC := Lib.hid hc
  have hn63 : n ≤ 9223372036854775807 := hp.fit
  have hp63 : p ≤ 9223372036854775807 := hs.1
  have hsl : s.length = p := by have := hs.2.1.len; simpa using this
  have HSL := Lib.hid hsl
  obtain ⟨V, hV⟩ : ∃ V, ofV ps = V := ⟨_, rfl⟩
  have HV := Lib.hid hV
  have HO := Lib.hid (ofV_ok ps)
  rw [hV] at HO
  clear hp hs hc hV hsl
  go_enter Try.func4, Try.ntmps4
  go_wp2_with fail
  refine (bpeHead_any w).mono ?_
  rintro e w1 ⟨rfl, hb⟩
  have HB1 := Lib.hid hb
  clear hb
  by_cases hbig : 100 < n ∨ 4096 < p
  · rcases Nat.lt_or_ge 100 n with h1 | h1
    · have d1 : (100 : Int) < (n : Int) := by omega
      go_wp2
      go_ret
      exact ⟨rfl, HB1.out⟩
    · have d1 : ¬ (100 : Int) < (n : Int) := by omega
      have d2 : (4096 : Int) < (p : Int) := by omega
      go_wp2
      go_ret
      exact ⟨rfl, HB1.out⟩
  have d1 : ¬ (100 : Int) < (n : Int) := by omega
  have d2 : ¬ (4096 : Int) < (p : Int) := by omega
  have hn100 : n ≤ 100 := by omega
  have hp4 : s.length ≤ 4096 := by rw [HSL.out]; omega
  have hp4' : p ≤ 4096 := by omega
  obtain ⟨hwk, hdr⟩ := HO.out.enc_walk hp4
  have htx := HO.out.enc_text s
  have hin := HO.out.enc_in s
  obtain ⟨l, hl⟩ : ∃ l, encL V.mer s = l := ⟨_, rfl⟩
  have hst : startsR V.tok l = startsUp V.tok l l.length := by unfold startsR; rw [if_pos (by rw [← hl]; exact hwk)]
  rw [hl] at hwk hdr htx hin
  obtain ⟨k, hk⟩ : ∃ k, l.length = k := ⟨_, rfl⟩
  have hkp : k ≤ p := by have := encL_len V.mer s; rw [hl, hk, HSL.out] at this; exact this
  rw [hk] at hst
  have HL := Lib.hid hl
  have HK := Lib.hid hk
  have HER := Lib.hid (encR_is (M := V.mer) hp4)
  have HEE := Lib.hid (encE_is hp4)
  have HWK := Lib.hid hwk
  have HDR := Lib.hid hdr
  have HTX := Lib.hid htx
  have HIN := Lib.hid hin
  have HST := Lib.hid hst
  clear hbig hl hk hp4 hwk hdr htx hin hst
  go_wp2_with fail
  refine (of_is w1 A n c ps (HP.out.below HB1.out) (by omega) HC.out HV.out).mono ?_
  rintro e w2 ⟨AT, BM, n', m', ca, cb, rfl, hsee, hb⟩
  have HB2 := Lib.hid (below_then HB1.out hb HB1.out.size)
  have hb3 := (Below.refl w2.heap.size w2).alloc (Nat.le_refl _) (.cells #[.slice AT n' ca, .slice BM m' cb] 29)
  obtain ⟨W3, hW3⟩ : ∃ W3, W3 = w2.alloc (.cells #[.slice AT n' ca, .slice BM m' cb] 29) := ⟨_, rfl⟩
  have hv3 : Blk W3 w2.heap.size 29 #[.slice AT n' ca, .slice BM m' cb] := by rw [hW3]; exact Blk.new _ _ _
  rw [← hW3] at hb3
  have HS3 := Lib.hid (hsee.below hb3)
  have HB3 := Lib.hid (below_then HB2.out hb3 HB2.out.size)
  have HV3 := Lib.hid hv3
  have HTL := Lib.hid hsee.tok.len
  have hn512 : n' ≤ 512 := by have := HO.out.tl; have := HTL.out; omega
  have HW3 := Lib.hid hW3
  clear hb hsee hb3 hv3 hW3
  go_wp2_with fail
  rw [← HW3.out]
  refine (new_is W3 AT BM n' m' ca cb V HS3.out HO.out).mono ?_
  rintro e w4 ⟨b, rfl, hb, hC⟩
  have HB4 := Lib.hid (below_then HB3.out hb HB3.out.size)
  have HC4 := Lib.hid hC
  have HV4 := Lib.hid (HV3.out.below hb HV3.out.lt)
  have HS4 := Lib.hid (HS3.out.below hb)
  clear hb hC
  go_wp2_with fail
  refine (encode_is w4 b V HC4.out HO.out B p cp s (HS.out.below HB4.out) (HER.out.trans HL.out) HK.out HEE.out).mono ?_
  rintro e w5 ⟨A5, c5, rfl, hi5, _, hb⟩
  have HB5 := Lib.hid (below_then HB4.out hb HB4.out.size)
  have HI5 := Lib.hid hi5
  have HC5 := Lib.hid (HC4.out.below hb)
  have HV5 := Lib.hid (HV4.out.below hb HV4.out.lt)
  have HS5 := Lib.hid (HS4.out.below hb)
  clear hb hi5
  go_wp2_with fail
  refine (decode_is w5 b V HC5.out HO.out A5 k c5 l HI5.out HDR.out HSL.out HWK.out).mono ?_
  rintro e w6 ⟨A6, c6, rfl, hi6, _, hb⟩
  have HB6 := Lib.hid (below_then HB5.out hb HB5.out.size)
  have HC6 := Lib.hid (HC5.out.below hb)
  have HI6 := Lib.hid (HI5.out.below hb)
  have HV6 := Lib.hid (HV5.out.below hb HV5.out.lt)
  have HS6 := Lib.hid (HS5.out.below hb)
  have HT6 := Lib.hid hi6
  clear hb hi6
  go_wp2_with fail
  refine (starts_is w6 b V HC6.out HO.out A5 k c5 l HI6.out (by omega) HST.out (startsUp_len _ _ _) HWK.out).mono ?_
  rintro e w7 ⟨A7, c7, rfl, hi7, _, hb⟩
  have HB7 := Lib.hid (below_then HB6.out hb HB6.out.size)
  have HI7 := Lib.hid (HI6.out.below hb)
  have HV7 := Lib.hid (HV6.out.below hb HV6.out.lt)
  have HS7 := Lib.hid (HS6.out.below hb)
  have HK7 := Lib.hid hi7
  have f1 := str_of (HT6.out.below hb) c6
  have f2 := str_of (HS.out.below HB7.out) cp
  clear hb hi7
  go_wp2_with fail
  clear f1 f2
  go_loopw [14, 15] (fun a i wr => ∃ j q : Nat, j ≤ k ∧ i = .int .i64 (j : Nat) ∧ a = .int .i64 ((textUp V.tok l j).length : Nat) ∧ wr = w7.drewN q) (fun _ i _ => k - (intOf i).toNat)
  case atStart => exact ⟨0, 0, by omega, rfl, rfl, rfl⟩
  case round =>
    obtain ⟨j, q, hj, rfl, rfl, rfl⟩ := hrel
    rcases Nat.lt_or_ge j k with hlt | hge
    · have c1 : (j : Int) < (k : Int) := by omega
      have c2 : (0 : Int) ≤ (j : Int) := by omega
      obtain ⟨ad, x, rfl, hx, lx, -, -⟩ := HI7.out.at j hlt
      obtain ⟨ak, z, rfl, hz, kz, -, -⟩ := HK7.out.at j hlt
      obtain ⟨t0, t1⟩ := HIN.out x (List.mem_of_getElem? hx)
      obtain ⟨t, rfl⟩ : ∃ t : Nat, x = t := ⟨x.toNat, by omega⟩
      have htn : t < n' := by have := HTL.out; omega
      have hy : V.tok[t]? = some (V.tok[t]'(by omega)) := List.getElem?_eq_getElem _
      obtain ⟨y, hye⟩ : ∃ y, y = V.tok[t]'(by omega) := ⟨_, rfl⟩
      rw [← hye] at hy
      obtain ⟨adt, A', c', e1, tc, -, -⟩ := HS7.out.tok.at_ t y hy
      subst e1
      obtain ⟨X, hX⟩ : ∃ X, (textUp V.tok l j).length = X := ⟨_, rfl⟩
      have hZ : (textUp V.tok l (j + 1)).length = X + y.length := by
        rw [textUp, List.length_append, hX]
        congr 1
        rw [List.getD_eq_getElem?_getD, hx]
        unfold tokI
        rw [Option.getD_some, if_pos ⟨t0, t1⟩, Int.toNat_natCast, List.getD_eq_getElem?_getD, hy]
        rfl
      have hzX : z = (X : Int) := by
        unfold startsUp at hz
        rw [List.getElem?_map, List.getElem?_range hlt] at hz
        simp only [Option.map_some, Option.some.injEq] at hz
        rw [← hz, hX]
      subst hzX
      have hXp : X ≤ 4096 := by
        have h1 := textUp_mono V.tok l (Nat.le_of_lt (by rw [HK.out]; exact hlt : j < l.length))
        have h2 := decT_flat V.tok l
        unfold decT at h2
        rw [h2, HTX.out, HSL.out, hX] at h1
        omega
      have hy16 := (HO.out.short y (List.mem_of_getElem? hy)).2
      have HZ := Lib.hid hZ
      rw [hX]
      have laq : ∀ r, (w7.drewN r).cell? (ad.add j) = some (.int .i64 (t : Nat)) := fun _ => lx
      have kaq : ∀ r, (w7.drewN r).cell? (ak.add j) = some (.int .i64 (X : Nat)) := fun _ => kz
      have v0q : ∀ r, (w7.drewN r).cell? ⟨w2.heap.size, 0, none⟩ = some (.slice (some adt) n' ca) := fun _ => (two_cellsO HV7.out).1
      have taq : ∀ r, (w7.drewN r).cell? (adt.add t) = some (.slice A' y.length c') := fun _ => tc
      have g1 : decide ((t : Int) < 0) = false := by simp
      have g2 : decide ((n' : Int) ≤ (t : Int)) = false := by simp; omega
      have g3 : (t : Int) < (n' : Int) := by omega
      have g4 : (0 : Int) ≤ (t : Int) := by omega
      have g5 : ((X : Int) != (X : Int)) = false := by simp
      clear hx lx hz kz t0 t1 hy hye tc hX hZ
      go_wp2_with fail
      go_quiet (fail)
      go_wp2_with fail
      have cw : IntKind.i64.wrap ((X : Int) + (y.length : Int)) = (X : Int) + (y.length : Int) := by rw [IntKind.wrap_i64]; omega
      go_quiet (fail)
      clear cw
      go_wp2
      refine ⟨⟨j + 1, _, by omega, by go_num, ?_, rfl⟩, by simp [intOf]; omega⟩
      rw [HZ.out]
      congr 1
    · obtain rfl : j = k := by omega
      have c1 : ¬ (j : Int) < (j : Int) := by omega
      have hX : (textUp V.tok l j).length = p := by
        have h2 := decT_flat V.tok l
        unfold decT at h2
        rw [HK.out] at h2
        rw [h2, HTX.out, HSL.out]
      rw [hX]
      have e0 : ((p : Int) == (p : Int)) = true := by simp
      clear hX
      go_wp2_with fail
      go_ret
      exact ⟨rfl, below_drewN HB7.out q⟩
end Go.Proofs.Ytimbimnbaoaboaa
