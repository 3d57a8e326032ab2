/- DelsOne. -/
import Derived.Test.YtdmhaaplgkilpaaDlLaws3
import Derived.Deep.DeepCutAuto
namespace Go.Proofs.Ytdmhaaplgkilpaa
open Go.RowKit Go.Maps Go.WideMaps
set_option linter.unusedSimpArgs false

theorem unlike_cons (x y : UInt8) (a b : List UInt8) : ∀ k, unlikeTo (x :: a) (y :: b) (k + 1) = popN 8 (x.toNat ^^^ y.toNat) + unlikeTo a b k
  | 0 => by rw [unlikeTo, unlikeTo, unlikeTo]; simp
  | k + 1 => by
    rw [unlikeTo, unlike_cons x y a b k, unlikeTo]
    simp only [List.getD_cons_succ]
    omega
theorem dPut_drop {s : DSt} (hn : s.n ≤ 64) : (dPut s).drop 5 = UInt8.ofNat s.n :: bitsB s := by
  obtain ⟨h1, h2, h3⟩ := dPut_one hn
  refine List.ext_getElem? fun k => ?_
  rw [List.getElem?_drop]
  cases k with
  | zero => exact h2
  | succ k => rw [show 5 + (k + 1) = 6 + k by omega, h3 k]; rfl
theorem one_unlike {s : DSt} (hn : s.n ≤ 64) (x : Int) : unlikeTo ((dPut s).drop 5) ((dPut (dAdd s x)).drop 5) ((s.n + 7) / 8 + 1) = if dCan s x = true then 1 else 0 := by
  rw [dPut_drop hn, dPut_drop (s := dAdd s x) (by rw [dAdd_n]; exact hn), dAdd_n, unlike_cons, Nat.xor_self, popN_zero, Nat.zero_add]
  unfold dAdd
  cases hc : dCan s x with
  | false => rw [if_neg (by decide), if_neg (by decide), unlike_same]
  | true =>
    rw [if_pos rfl, if_pos rfl]
    obtain ⟨I, rfl, hI, hf⟩ := can_iff hc
    rw [bits_unlike hI hf _ (Nat.le_refl _), if_pos (by omega)]
theorem pop_step : ∀ z, z < 256 → popN 8 z = z % 2 + popN 8 (z / 2) := by decide +kernel
theorem popN_le8 (z : Nat) : popN 8 z ≤ 8 := by
  have key : ∀ f z, popN f z ≤ f := by
    intro f
    induction f with
    | zero => intro z; exact Nat.le_refl _
    | succ f ih => intro z; rw [popN]; have := ih (z / 2); omega
  exact key 8 z
theorem unlike_le (a b : List UInt8) : ∀ k, unlikeTo a b k ≤ 8 * k
  | 0 => Nat.le_refl _
  | k + 1 => by
    rw [unlikeTo]
    have h1 := unlike_le a b k
    have h2 := popN_le8 ((a.getD k 0).toNat ^^^ (b.getD k 0).toNat)
    omega
theorem one_done {s : DSt} {x : Int} (h : dCan s x = true) : dMany (dAdd s x) = dMany s + 1 ∧ dHas (dAdd s x) x = true := by
  obtain ⟨I, rfl, hI, hf⟩ := can_iff h
  refine ⟨?_, ?_⟩
  · unfold dAdd
    rw [if_pos h]
    exact many_set hI hf
  · rw [dAdd_has, h]
    simp
theorem one_not {s : DSt} {x : Int} (h : dCan s x = false) : dAdd s x = s := by
  unfold dAdd
  rw [if_neg (by rw [h]; decide)]
theorem bytes_kept {w w' : World} {A : Option Addr} {n : Nat} {l : Nm} {F : Nat → Prop} (h : BytesIn w A n l) (hk : Kept F w w') (hF : ∀ ad, A = some ad → ¬ F ad.block) : BytesIn w' A n l :=
  ⟨h.1, h.2.1.keep fun ad e hn => hk.block _ (h.2.2 ad e hn) (hF ad e), fun ad e hn => Nat.lt_of_lt_of_le (h.2.2 ad e hn) hk.size⟩

set_option maxHeartbeats 8000000 in
set_option maxRecDepth 100000 in
theorem delsOne_any {D : DelsSt} (hD : DelsOk D) (W : World) (m : Nat) (hm : m < 256) (A : Option Addr) (n c : Nat) (l : List Int) (hl : IntsIn W A n l) (x : Int) (hx : fits64 x) :
    Calls Try.prog 6 #[.int .u8 m, .slice A n c, .int .i64 x] W fun e w' => e = .returned (.bool true) ∧ Below W.heap.size W w' := by
  have hep := eqDelsNil
  have hnp := neDelsNil
  have HK := Lib.hid hD
  have HH := Lib.hid (dlHead_any hD W)
  have HX := Lib.hid hl
  have HFX := Lib.hid hx
  have hn63 := hl.1
  unfold maxLen at hn63
  obtain ⟨N, hN⟩ : ∃ N, N = m % 65 := ⟨_, rfl⟩
  have hN64 : N ≤ 64 := by omega
  have hmod : (m : Int) % 65 = (N : Int) := by omega
  clear hD hl hN hx
  go_enter Try.func6, Try.ntmps6
  go_wp2_with fail
  refine HH.out.mono ?_
  rintro e w1 ⟨rfl, hb1⟩
  have HB1 := Lib.hid hb1
  clear hb1 HH
  go_wp2_with fail
  refine (lv_new HK.out HB1.out N hN64).mono ?_
  rintro e w2 ⟨b, rfl, hl2⟩
  have HL2 := Lib.hid hl2
  clear hl2
  by_cases h5 : 500 < n
  · have h5' : (500 : Int) < (n : Int) := by omega
    go_wp2
    go_ret
    exact ⟨rfl, HL2.out.below⟩
  have h5' : ¬ (500 : Int) < (n : Int) := by omega
  go_wp2
  go_loopw [9] (fun iv wr => ∃ (i : Nat), i ≤ n ∧ iv = .int .i64 i ∧ Lv D W wr b (dUp (dNew N) l i)) (fun iv _ => n - (intOf iv).toNat)
  case atStart => exact ⟨0, by omega, rfl, HL2.out⟩
  case round =>
    obtain ⟨i, hi, rfl, hlv⟩ := hrel
    have HV := Lib.hid hlv
    clear hlv
    rcases Nat.lt_or_ge i n with hlt | hge
    · have hlt' : (i : Int) < (n : Int) := by omega
      have p0 : (0 : Int) ≤ (i : Int) := by omega
      have hw1 : IntKind.i64.wrap ((i : Int) + 1) = (i : Int) + 1 := IntWalk.i64_in _ (by omega)
      obtain ⟨pa, y, rfl, hy, y0, -, -⟩ := (HX.out.below HV.out.below).at i hlt
      have HYY := Lib.hid hy
      have HFY := Lib.hid (ints_fit HX.out hy)
      clear hy
      go_wp2_with fail
      refine (lv_add HK.out HV.out y HFY.out).mono ?_
      rintro e w3 ⟨rfl, hl3⟩
      rw [← dUp_take HYY.out] at hl3
      have HL3 := Lib.hid hl3
      clear hl3 y0
      go_wp2
      go_roundw
      case rel => exact ⟨i + 1, by omega, by go_num, HL3.out⟩
      case measure => simp [intOf]; omega
    · have hlz : ¬ ((i : Int) < (n : Int)) := by omega
      have HSN : Hid ((dUp (dNew N) l i).n = N) := Lib.hid (by rw [dUp_n]; rfl)
      obtain ⟨s, hs⟩ : ∃ s, s = dUp (dNew N) l i := ⟨_, rfl⟩
      rw [← hs] at HV HSN
      clear hs
      obtain ⟨wo, hwo⟩ : ∃ zz, zz = wr := ⟨_, rfl⟩
      subst hwo
      have hp1 := (dPut_one (s := s) (by rw [HSN.out]; exact hN64)).1
      have hp2 := (dPut_one (s := dAdd s x) (by rw [dAdd_n, HSN.out]; exact hN64)).1
      rw [dAdd_n] at hp2
      have hun := one_unlike (s := s) (by rw [HSN.out]; exact hN64) x
      rw [HSN.out] at hp1 hp2 hun
      have HUN := Lib.hid hun
      obtain ⟨F, hd, hF⟩ := HV.out.at_
      have HFL := Lib.hid (HK.out.lt hd)
      have HFW := Lib.hid hF
      have HBo := Lib.hid HV.out.below
      have HCP := Lib.hid (HK.out.put hd)
      have HD0 := Lib.hid hd
      obtain ⟨P, hP⟩ : ∃ P, P = dPut s := ⟨_, rfl⟩
      obtain ⟨P', hP'⟩ : ∃ P', P' = dPut (dAdd s x) := ⟨_, rfl⟩
      obtain ⟨q, hq⟩ : ∃ q, q = (N + 7) / 8 + 1 := ⟨_, rfl⟩
      have hq9 : 1 ≤ q ∧ q ≤ 9 := by omega
      obtain ⟨Z, hZ⟩ : ∃ Z, Z = 5 + q := ⟨_, rfl⟩
      have hz14 : 6 ≤ Z ∧ Z ≤ 14 := by omega
      have hpl : P.length = Z := by rw [hP, hp1]; omega
      have hpl' : P'.length = Z := by rw [hP', hp2]; omega
      obtain rfl : q = Z - 5 := by omega
      rw [← hP] at HCP HUN
      rw [← hP', ← hq] at HUN
      unfold BytesBack at HCP
      rw [hpl] at HCP
      have HPP' := Lib.hid hP'
      have HPL := Lib.hid hpl
      have HPL' := Lib.hid hpl'
      clear hun hp1 hp2 hP hP' hpl hpl' hq hq9 hZ hd hF HV
      go_wp2_with fail
      refine HCP.out.mono ?_
      rintro e w3 ⟨A3, c3, rfl, hi3, -, hf3, hb3⟩
      have HI3 := Lib.hid hi3
      have HD3 := Lib.hid (HK.out.below HD0.out hb3)
      have HB3 := Lib.hid (below_then HBo.out hb3 HBo.out.size)
      have HAP : Hid (∀ ad, A3 = some ad → ¬ F ad.block) := Lib.hid (fun ad e hFa => by have h1 := hf3 ad e; have h2 := HFL.out _ hFa; omega)
      have HMN := Lib.hid (HK.out.many HD3.out)
      obtain ⟨M, hM⟩ : ∃ M, M = dMany s := ⟨_, rfl⟩
      rw [← hM] at HMN
      have HM := Lib.hid hM
      have hM64 : M ≤ 64 := by have := dMany_live s; rw [← hM, HSN.out] at this; omega
      clear hi3 hb3 hf3 HCP hM HD0 HFL
      go_wp2_with fail
      refine HMN.out.mono ?_
      rintro e w4 ⟨rfl, q4, hw4⟩
      have HD4 : Hid (D w4 F b s) := Lib.hid (by rw [hw4]; exact HK.out.below HD3.out (below_drewN (Below.refl _ _) q4))
      have HI4 : Hid (BytesIn w4 A3 Z P) := Lib.hid (by rw [hw4]; exact HI3.out.drewN q4)
      have HB4 : Hid (Below W.heap.size W w4) := Lib.hid (by rw [hw4]; exact below_drewN HB3.out q4)
      clear hw4 HMN HD3 HI3 HB3
      obtain ⟨th, hth⟩ : ∃ th, th = dHas s x := ⟨_, rfl⟩
      obtain ⟨tc, htc⟩ : ∃ tc, tc = dCan s x := ⟨_, rfl⟩
      have HTH := Lib.hid hth
      have HTC := Lib.hid htc
      have HCT : Hid (tc = (!th && decide (0 ≤ x ∧ x < (N : Int)))) := Lib.hid (by
        rw [hth, htc]
        unfold dCan dHas
        rw [HSN.out]
        cases decide (0 ≤ x ∧ x < (N : Int)) <;> cases s.f x.toNat <;> rfl)
      clear hth htc
      go_wp2_with fail
      refine (HK.out.has HD4.out x HFX.out).mono ?_
      rintro e w5 ⟨rfl, q5, hw5⟩
      rw [← HTH.out]
      have HD5 : Hid (D w5 F b s) := Lib.hid (by rw [hw5]; exact HK.out.below HD4.out (below_drewN (Below.refl _ _) q5))
      have HI5 : Hid (BytesIn w5 A3 Z P) := Lib.hid (by rw [hw5]; exact HI4.out.drewN q5)
      have HB5 : Hid (Below W.heap.size W w5) := Lib.hid (by rw [hw5]; exact below_drewN HB4.out q5)
      clear hw5 HD4 HI4 HB4
      go_wp2_with fail
      refine (HK.out.add HD5.out x HFX.out).mono ?_
      rintro e w6 ⟨rfl, F', hd6, hk6, hf6⟩
      rw [← HTC.out]
      have HI6 : Hid (BytesIn w6 A3 Z P) := Lib.hid (bytes_kept HI5.out hk6 HAP.out)
      have HB6 : Hid (Below W.heap.size W w6) := Lib.hid (HB5.out.trans (hk6.toBelow HB5.out.size HFW.out))
      have HD6 := Lib.hid hd6
      have HCP6 := Lib.hid (HK.out.put hd6)
      rw [← HPP'.out] at HCP6
      unfold BytesBack at HCP6
      rw [HPL'.out] at HCP6
      clear hd6 hk6 hf6 HD5 HI5 HB5 HAP HFW HBo
      go_wp2_with fail
      refine HCP6.out.mono ?_
      rintro e w7 ⟨A7, c7, rfl, hi7, -, -, hb7⟩
      have HI7 : Hid (BytesIn w7 A3 Z P) := Lib.hid (HI6.out.below hb7)
      have HJ7 := Lib.hid hi7
      have HB7 : Hid (Below W.heap.size W w7) := Lib.hid (below_then HB6.out hb7 HB6.out.size)
      have HD7 : Hid (D w7 F' b (dAdd s x)) := Lib.hid (HK.out.below HD6.out hb7)
      clear hi7 hb7 HCP6 HI6 HD6 HB6 HPP' HPL HPL'
      go_upto_region 14 with fail
      have hL6 : decide ((Z : Int) < 6) = false := decide_eq_false (by omega)
      go_cut [85] (fun v wx => v = .bool false ∧ wx = w7)
      case first =>
        by_cases hp : 0 ≤ x
        · by_cases hq2 : x < (N : Int)
          · have HR : Hid (decide (0 ≤ x ∧ x < (N : Int)) = true) := Lib.hid (decide_eq_true ⟨hp, hq2⟩)
            cases th with
            | true =>
              obtain rfl : tc = false := by rw [HCT.out, HR.out]; rfl
              clear HTH
              go_wp2_with fail
              go_meet
              case rel => exact ⟨rfl, rfl⟩
            | false =>
              obtain rfl : tc = true := by rw [HCT.out, HR.out]; rfl
              clear HTH
              go_wp2_with fail
              go_meet
              case rel => exact ⟨rfl, rfl⟩
          · have HR : Hid (decide (0 ≤ x ∧ x < (N : Int)) = false) := Lib.hid (decide_eq_false fun h => hq2 h.2)
            obtain rfl : th = false := by rw [HTH.out]; unfold dHas; rw [HSN.out, HR.out]; rfl
            obtain rfl : tc = false := by rw [HCT.out, HR.out]; rfl
            clear HTH
            go_wp2_with fail
            go_meet
            case rel => exact ⟨rfl, rfl⟩
        · have HR : Hid (decide (0 ≤ x ∧ x < (N : Int)) = false) := Lib.hid (decide_eq_false fun h => hp h.1)
          obtain rfl : th = false := by rw [HTH.out]; unfold dHas; rw [HSN.out, HR.out]; rfl
          obtain rfl : tc = false := by rw [HCT.out, HR.out]; rfl
          clear HTH
          go_wp2_with fail
          go_meet
          case rel => exact ⟨rfl, rfl⟩
      case rest =>
        obtain ⟨rfl, rfl⟩ := hcut
        go_wp2
        go_loopw [15, 16] (fun uv kv wr => ∃ (k u : Nat), 5 ≤ k ∧ k ≤ Z ∧ u ≤ 8 * (k - 5) ∧ uv = .int .i64 u ∧ kv = .int .i64 k ∧ u = unlikeTo (P.drop 5) (P'.drop 5) (k - 5) ∧ ∃ p, wr = wc.drewN p) (fun _ kv _ => Z - (intOf kv).toNat)
        case atStart => exact ⟨5, 0, by omega, by omega, by omega, rfl, rfl, rfl, 0, rfl⟩
        case round =>
          obtain ⟨k, u, hk5, hk, hu8, rfl, rfl, hu, p, hwr⟩ := hrel
          have HU := Lib.hid hu
          have HW := Lib.hid hwr
          clear hu hwr
          rcases Nat.lt_or_ge k Z with hlt | hge
          · have hlt' : (k : Int) < (Z : Int) := by omega
            have p0 : (0 : Int) ≤ (k : Int) := by omega
            have hw1 : IntKind.i64.wrap ((k : Int) + 1) = (k : Int) + 1 := IntWalk.i64_in _ (by omega)
            obtain ⟨pa, y, rfl, hy, y0⟩ := (HI7.out.drewN p).at k hlt
            obtain ⟨pb, z, rfl, hz, z0⟩ := (HJ7.out.drewN p).at k hlt
            rw [← HW.out] at y0 z0
            have hNX : u + popN 8 (y.toNat ^^^ z.toNat) = unlikeTo (P.drop 5) (P'.drop 5) (k + 1 - 5) := by
              rw [show k + 1 - 5 = (k - 5) + 1 by omega, unlikeTo, ← HU.out, List.getD_eq_getElem?_getD, List.getD_eq_getElem?_getD, List.getElem?_drop, List.getElem?_drop, show 5 + (k - 5) = k by omega, hy, hz]
              rfl
            have hxr := u8_xor_nat y.toNat z.toNat y.toNat_lt z.toNat_lt
            have hx256 : y.toNat ^^^ z.toNat < 256 := Nat.xor_lt_two_pow (n := 8) y.toNat_lt z.toNat_lt
            obtain ⟨X, hX⟩ : ∃ X, X = y.toNat ^^^ z.toNat := ⟨_, rfl⟩
            rw [← hX] at hNX hxr hx256
            have hX8 := popN_le8 X
            have HNX := Lib.hid hNX
            have y1 : ∀ q, (wr.drewN q).cell? (pa.add k) = some (.int .u8 y.toNat) := fun _ => y0
            have z1 : ∀ q, (wr.drewN q).cell? (pb.add k) = some (.int .u8 z.toNat) := fun _ => z0
            clear hy hz hX hNX
            obtain ⟨wo2, hwo2⟩ : ∃ zz, zz = wr := ⟨_, rfl⟩
            subst hwo2
            go_wp2_with fail
            go_region
            go_wp2_with fail
            go_loopw [15, 17] (fun uv xv wr => ∃ (a z : Nat), z < 256 ∧ a ≤ u + 8 ∧ a + popN 8 z = u + popN 8 X ∧ uv = .int .i64 a ∧ xv = .int .u8 z ∧ ∃ p2, wr = wo2.drewN p2) (fun _ xv _ => (intOf xv).toNat)
            case atStart => exact ⟨u, X, hx256, by omega, rfl, rfl, rfl, 1, rfl⟩
            case round =>
              obtain ⟨a, v, hv, ha, hav, rfl, rfl, p2, hwr⟩ := hrel
              have HAV := Lib.hid hav
              have HW2 := Lib.hid hwr
              clear hav hwr
              rcases Nat.lt_or_ge 0 v with hv0 | hv0
              · have hv0' : (0 : Int) < (v : Int) := by omega
                have hst := pop_step v hv
                have hpl := popN_le8 (v / 2)
                have hand : bits .and .u8 (v : Int) 1 = ((v % 2 : Nat) : Int) := by
                  have := u8_and_nat v 1 hv (by omega)
                  rw [Nat.and_one_is_mod] at this
                  exact this
                obtain ⟨r, hr⟩ : ∃ r, r = v % 2 := ⟨_, rfl⟩
                have hr2 : r < 2 := by omega
                rw [← hr] at hst hand
                have hwr2 : IntKind.i64.wrap (r : Int) = (r : Int) := IntWalk.i64_in _ (by omega)
                have hws : IntKind.i64.wrap ((a : Int) + (r : Int)) = ((a + r : Nat) : Int) := IntWalk.i64_in _ (by omega)
                have HNV : Hid ((a + r) + popN 8 (v / 2) = u + popN 8 X) := Lib.hid (by have := HAV.out; omega)
                have hle : a + r ≤ u + 8 := by have := HNV.out; omega
                obtain ⟨h, hh⟩ : ∃ h, h = v / 2 := ⟨_, rfl⟩
                rw [← hh] at HNV
                have hh2 : h < v := by omega
                have hdiv : (v : Int) / 2 = (h : Int) := by omega
                obtain ⟨a2, ha2⟩ : ∃ a2, a2 = a + r := ⟨_, rfl⟩
                rw [← ha2] at hws HNV hle
                clear hst hpl hr hh ha2
                go_wp2
                go_roundw
                case rel => exact ⟨a2, h, by omega, hle, HNV.out, rfl, rfl, _, HW2.out⟩
                case measure => simp [intOf]; omega
              · obtain rfl : v = 0 := by omega
                have hz0 : ¬ (0 : Int) < ((0 : Nat) : Int) := by omega
                have HFA : Hid (a = unlikeTo (P.drop 5) (P'.drop 5) (k + 1 - 5)) := Lib.hid (by have h1 := HAV.out; have h2 := HNX.out; rw [popN_zero] at h1; omega)
                have hle : a ≤ 8 * (k + 1 - 5) := by omega
                go_wp2
                go_roundw
                case rel => exact ⟨k + 1, a, by omega, by omega, hle, rfl, by go_num, HFA.out, p + p2, by rw [HW2.out, HW.out, drewN_add]⟩
                case measure => simp [intOf]; omega
          · have hlz : ¬ ((k : Int) < (Z : Int)) := by omega
            have HKZ : Hid (k = Z) := Lib.hid (by omega)
            have HDW : Hid (D wr F' b (dAdd s x)) := Lib.hid (by rw [HW.out]; exact HK.out.below HD7.out (below_drewN (Below.refl _ _) p))
            have HBW : Hid (Below W.heap.size W wr) := Lib.hid (by rw [HW.out]; exact below_drewN HB7.out p)
            have HUF : Hid (u = if tc = true then 1 else 0) := Lib.hid (by rw [HTC.out, ← HUN.out, HU.out, HKZ.out])
            cases tc with
            | true =>
              have hu1 := HUF.out
              rw [if_pos rfl] at hu1
              subst hu1
              obtain ⟨hdm, hdh⟩ := one_done HTC.out.symm
              have HMM := Lib.hid (HK.out.many HDW.out)
              rw [hdm, ← HM.out] at HMM
              have hwm : IntKind.i64.wrap ((M : Int) + 1) = ((M + 1 : Nat) : Int) := IntWalk.i64_in _ (by omega)
              have HDH := Lib.hid hdh
              clear hdm hdh
              obtain ⟨M1, hM1⟩ : ∃ M1, M1 = M + 1 := ⟨_, rfl⟩
              rw [← hM1] at HMM hwm
              clear hM1
              go_wp2_with fail
              refine HMM.out.mono ?_
              rintro e w8 ⟨rfl, q8, hw8⟩
              have HD8 : Hid (D w8 F' b (dAdd s x)) := Lib.hid (by rw [hw8]; exact HK.out.below HDW.out (below_drewN (Below.refl _ _) q8))
              have HB8 : Hid (Below W.heap.size W w8) := Lib.hid (by rw [hw8]; exact below_drewN HBW.out q8)
              clear hw8 HMM
              go_wp2_with fail
              refine (HK.out.has HD8.out x HFX.out).mono ?_
              rintro e w9 ⟨rfl, q9, hw9⟩
              rw [HDH.out]
              have HB9 : Hid (Below W.heap.size W w9) := Lib.hid (by rw [hw9]; exact below_drewN HB8.out q9)
              clear hw9
              go_wp2
              go_ret
              exact ⟨rfl, HB9.out⟩
            | false =>
              have hu1 := HUF.out
              rw [if_neg (by decide)] at hu1
              subst hu1
              have HMM := Lib.hid (HK.out.many HDW.out)
              rw [one_not HTC.out.symm, ← HM.out] at HMM
              go_wp2_with fail
              refine HMM.out.mono ?_
              rintro e w8 ⟨rfl, q8, hw8⟩
              have HB8 : Hid (Below W.heap.size W w8) := Lib.hid (by rw [hw8]; exact below_drewN HBW.out q8)
              clear hw8 HMM
              go_wp2
              go_ret
              exact ⟨rfl, HB8.out⟩
end Go.Proofs.Ytdmhaaplgkilpaa
