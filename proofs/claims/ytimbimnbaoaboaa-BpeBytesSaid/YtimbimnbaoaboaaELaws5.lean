/- BpeBytes, walked. -/
import Derived.Test.YtimbimnbaoaboaaEMath4
namespace Go.Proofs.Ytimbimnbaoaboaa
open Go.RowKit Go.Maps Go.WideMaps
set_option linter.unusedSimpArgs false

theorem drop_at {α : Type} {l : List α} {i : Nat} {x : α} (h : l[i]? = some x) : l.drop i = x :: l.drop (i + 1) := by
  obtain ⟨h1, e⟩ := List.getElem?_eq_some_iff.1 h
  rw [List.drop_eq_getElem_cons h1, e]
theorem bytesI_at {s : Nm} {i : Nat} {x : UInt8} (h : s[i]? = some x) : (bytesI s)[i]? = some (x.toNat : Int) := by unfold bytesI; rw [List.getElem?_map, h]; rfl
theorem drop_head {α : Type} {l r : List α} {n : Nat} {x : α} (h : l.drop n = x :: r) : l[n]? = some x ∧ l.drop (n + 1) = r ∧ n < l.length := by
  have h1 : l[n]? = some x := by
    have := congrArg (fun z => z[0]?) h
    simpa using this
  refine ⟨h1, ?_, (List.getElem?_eq_some_iff.1 h1).1⟩
  have h2 := drop_at h1
  rw [h] at h2
  exact (List.cons.inj h2).2.symm
set_option maxHeartbeats 8000000 in
set_option maxRecDepth 100000 in
theorem bpeBytes_any (w : World) (B : Option Addr) (p cp : Nat) (s : Nm) (hs : BytesIn w B p s) (a b : UInt8) :
    Calls Try.prog 7 #[.slice B p cp, .int .u8 (a.toNat : Int), .int .u8 (b.toNat : Int)] w fun e w' => e = .returned (.bool true) ∧ Below w.heap.size w w' := by
  have HS := Lib.hid hs
  have hp63 : p ≤ 9223372036854775807 := hs.1
  have hsl : s.length = p := by have := hs.2.1.len; simpa using this
  have HSL := Lib.hid hsl
  have ha := a.toNat_lt
  have hb := b.toNat_lt
  obtain ⟨an, han⟩ : ∃ n, n = a.toNat := ⟨_, rfl⟩
  obtain ⟨bn, hbn⟩ : ∃ n, n = b.toNat := ⟨_, rfl⟩
  rw [← han] at ha ⊢
  rw [← hbn] at hb ⊢
  have HAN := Lib.hid han
  have HBN := Lib.hid hbn
  clear hs hsl han hbn
  go_enter Try.func7, Try.ntmps7
  go_wp2_with fail
  refine (bpeHead_any w).mono ?_
  rintro e w1 ⟨rfl, hb1⟩
  have HB1 := Lib.hid hb1
  clear hb1
  by_cases hbig : 4096 < p ∨ an = bn
  · rcases Nat.lt_or_ge 4096 p with h1 | h1
    · have d1 : (4096 : Int) < (p : Int) := by omega
      go_wp2
      go_ret
      exact ⟨rfl, HB1.out⟩
    · have d1 : ¬ (4096 : Int) < (p : Int) := by omega
      have d2 : ((an : Int) == (bn : Int)) = true := by simp; omega
      go_wp2
      go_ret
      exact ⟨rfl, HB1.out⟩
  have d1 : ¬ (4096 : Int) < (p : Int) := by omega
  have d2 : ((an : Int) == (bn : Int)) = false := by simp; omega
  have hab : an ≠ bn := by omega
  have hp4 : s.length ≤ 4096 := by rw [HSL.out]; omega
  have hp4' : p ≤ 4096 := by omega
  obtain ⟨V0, hV0⟩ : ∃ V, ofV [] = V := ⟨_, rfl⟩
  obtain ⟨V1, hV1⟩ : ∃ V, ofV [((an : Int), (bn : Int))] = V := ⟨_, rfl⟩
  have HO0 := Lib.hid (ofV_ok [])
  have HO1 := Lib.hid (ofV_ok [((an : Int), (bn : Int))])
  rw [hV0] at HO0
  rw [hV1] at HO1
  have hm0 : V0.mer.length = 0 := by rw [← hV0]; rfl
  have hm1 : V1.mer = [⟨(an : Int), (bn : Int), 256⟩] := by rw [← hV1]; exact ofV_one ha hb
  have he0 : encR V0.mer s = bytesI s := by rw [encR_is hp4, encL_bare hm0]
  have he1 : encR V1.mer s = scanI (an : Int) (bn : Int) (bytesI s) := by rw [encR_is hp4, hm1, encL_one (by omega) (by omega) (by omega)]
  obtain ⟨l1, hl1⟩ : ∃ l, scanI (an : Int) (bn : Int) (bytesI s) = l := ⟨_, rfl⟩
  obtain ⟨k, hk⟩ : ∃ k, l1.length = k := ⟨_, rfl⟩
  rw [hl1] at he1
  have hk4 : k ≤ 4096 := by have := encR_len V1.mer s; rw [he1, hk] at this; exact this
  have HE0 := Lib.hid he0
  have HE1 := Lib.hid he1
  have HL1 := Lib.hid hl1
  have HK := Lib.hid hk
  have HEE := Lib.hid (encE_is hp4)
  have HV0 := Lib.hid hV0
  have HV1 := Lib.hid hV1
  have HAB := Lib.hid hab
  have HAL := Lib.hid ha
  have HBL := Lib.hid hb
  have HBI : Hid ((bytesI s).length = p) := Lib.hid (by rw [bytesI_len]; exact HSL.out)
  clear hbig hV0 hV1 hm0 hm1 he0 he1 hl1 hk hp4 hab
  go_wp2_with fail
  refine (of_is w1 none 0 0 [] (PairsIn.none _) (by omega) (by omega) HV0.out).mono ?_
  rintro e w2 ⟨AT, BM, n', m', ca, cb, rfl, hsee, hbb⟩
  have HB2 := Lib.hid (below_then HB1.out hbb HB1.out.size)
  have HSEE := Lib.hid hsee
  clear hbb hsee
  go_wp2_with fail
  refine (new_is w2 AT BM n' m' ca cb V0 HSEE.out HO0.out).mono ?_
  rintro e w3 ⟨b0, rfl, hbb, hC⟩
  have HB3 := Lib.hid (below_then HB2.out hbb HB2.out.size)
  have HC3 := Lib.hid hC
  clear hbb hC
  have u1 : ((an : Nat) : Int) < 256 := by omega
  have u2 : ((bn : Nat) : Int) < 256 := by omega
  go_wp2_with fail
  have HIN := Lib.hid (pairs_one w3 (an : Int) (bn : Int) ⟨by omega, by omega⟩ ⟨by omega, by omega⟩)
  refine (of_is _ _ 1 1 [((an : Int), (bn : Int))] HIN.out (by omega) (by omega) HV1.out).mono ?_
  rintro e w4 ⟨AT1, BM1, n1, m1, ca1, cb1, rfl, hsee, hbb⟩
  have hbb' := below_then ((Below.refl _ w3).alloc (Nat.le_refl _) _) hbb (by simp)
  have HB4 := Lib.hid (below_then HB3.out hbb' HB3.out.size)
  have HC4 := Lib.hid (HC3.out.below hbb')
  have HSEE4 := Lib.hid hsee
  clear hbb hbb' hsee HIN
  go_wp2_with fail
  refine (new_is w4 AT1 BM1 n1 m1 ca1 cb1 V1 HSEE4.out HO1.out).mono ?_
  rintro e w5 ⟨b1, rfl, hbb, hC⟩
  have HB5 := Lib.hid (below_then HB4.out hbb HB4.out.size)
  have HC5 := Lib.hid (HC4.out.below hbb)
  have HD5 := Lib.hid hC
  clear hbb hC
  go_wp2_with fail
  refine (encode_is w5 b0 V0 HC5.out HO0.out B p cp s (HS.out.below HB5.out) HE0.out HBI.out HEE.out).mono ?_
  rintro e w6 ⟨A6, c6, rfl, hi6, _, hbb⟩
  have HB6 := Lib.hid (below_then HB5.out hbb HB5.out.size)
  have HD6 := Lib.hid (HD5.out.below hbb)
  have HI6 := Lib.hid hi6
  clear hbb hi6
  go_wp2_with fail
  refine (encode_is w6 b1 V1 HD6.out HO1.out B p cp s (HS.out.below HB6.out) HE1.out HK.out HEE.out).mono ?_
  rintro e w7 ⟨A7, c7, rfl, hi7, _, hbb⟩
  have HB7 := Lib.hid (below_then HB6.out hbb HB6.out.size)
  have HI7 := Lib.hid (HI6.out.below hbb)
  have HJ7 := Lib.hid hi7
  have HS7 := Lib.hid (HS.out.below HB7.out)
  have e0 : ((p : Int) != (p : Int)) = false := by simp
  clear hbb hi7
  go_wp2_with fail
  clear e0
  go_loopw [14] (fun i wr => ∃ j q : Nat, j ≤ p ∧ i = .int .i64 (j : Nat) ∧ wr = w7.drewN q) (fun i _ => p - (intOf i).toNat)
  case atStart => exact ⟨0, 0, by omega, rfl, rfl⟩
  case round =>
    obtain ⟨j, q, hj, rfl, rfl⟩ := hrel
    rcases Nat.lt_or_ge j p with hlt | hge
    · have c1 : (j : Int) < (p : Int) := by omega
      have c2 : (0 : Int) ≤ (j : Int) := by omega
      obtain ⟨adl, z, rfl, hz, lz, -, -⟩ := HI7.out.at j hlt
      obtain ⟨ads, x, rfl, hx, lx⟩ := HS7.out.at j hlt
      rw [bytesI_at hx] at hz
      cases hz
      have hx256 := x.toNat_lt
      obtain ⟨xn, hxn⟩ : ∃ n, n = x.toNat := ⟨_, rfl⟩
      rw [← hxn] at lz lx hx256
      have lzq : ∀ r, (w7.drewN r).cell? (adl.add j) = some (.int .i64 (xn : Nat)) := fun _ => lz
      have lxq : ∀ r, (w7.drewN r).cell? (ads.add j) = some (.int .u8 (xn : Nat)) := fun _ => lx
      have e0 : ((xn : Int) != (xn : Int)) = false := by simp
      clear lz lx hx hxn
      go_wp2_with fail
      go_quiet (fail)
      go_wp2
      exact ⟨⟨j + 1, _, by omega, by go_num, rfl⟩, by simp [intOf]; omega⟩
    · have c1 : ¬ (j : Int) < (p : Int) := by omega
      go_wp2_with fail
      go_loopw [15, 16] (fun m i wr => ∃ mm j q : Nat, j ≤ p ∧ mm ≤ k ∧ i = .int .i64 (j : Nat) ∧ m = .int .i64 (mm : Nat) ∧ l1.drop mm = scanI (an : Int) (bn : Int) ((bytesI s).drop j) ∧ wr = w7.drewN q) (fun _ i _ => p - (intOf i).toNat)
      case atStart => exact ⟨0, 0, _, by omega, by omega, rfl, rfl, by rw [List.drop_zero, List.drop_zero]; exact HL1.out.symm, rfl⟩
      case round =>
        obtain ⟨mm, j, q, hj, hmm, rfl, rfl, hsc, rfl⟩ := hrel
        rcases Nat.lt_or_ge j p with hlt | hge
        · have c1 : (j : Int) < (p : Int) := by omega
          have c2 : (0 : Int) ≤ (j : Int) := by omega
          have c2' : (0 : Int) ≤ (mm : Int) := by omega
          obtain ⟨ads, x, rfl, hx, lx⟩ := HS7.out.at j hlt
          have hx256 := x.toNat_lt
          obtain ⟨xn, hxn⟩ : ∃ n, n = x.toNat := ⟨_, rfl⟩
          have hbx := bytesI_at hx
          rw [← hxn] at lx hx256 hbx
          have hdr := drop_at hbx
          have lx1 : (w7.drewN q).cell? (ads.add j) = some (.int .u8 (xn : Nat)) := lx
          have lxq : ∀ r, (w7.drewN r).cell? (ads.add j) = some (.int .u8 (xn : Nat)) := fun _ => lx
          clear lx hx hxn hbx
          rcases Nat.lt_or_ge (j + 1) p with hl2 | hg2
          · have c3 : (j : Int) + 1 < (p : Int) := by omega
            have c3' : (0 : Int) ≤ (j : Int) + 1 := by omega
            obtain ⟨ads2, y, e0, hy, ly⟩ := HS7.out.at (j + 1) hl2
            cases e0
            obtain ⟨yn, hyn⟩ : ∃ n, n = y.toNat := ⟨_, rfl⟩
            have hby := bytesI_at hy
            rw [← hyn] at ly hby
            have hdr2 := drop_at hby
            rw [hdr2] at hdr
            rw [hdr] at hsc
            have ly1 : (w7.drewN q).cell? (ads.add (j + 1)) = some (.int .u8 (yn : Nat)) := ly
            have ly2 : (w7.drewN q).cell? ⟨(ads.add j).block, (ads.add j).off + 1, none⟩ = some (.int .u8 (yn : Nat)) := by rw [← add_pos' ads j 1 (by omega)]; exact ly
            have ly3 : (w7.drewN q).cell? ⟨ads.block, ads.off + (j + 1), none⟩ = some (.int .u8 (yn : Nat)) := by
              have h : w7.cell? ⟨ads.block, ads.off + (j + 1), none⟩ = some (.int .u8 (yn : Nat)) := by simpa [Addr.add] using ly
              exact h
            clear ly hy hyn hby hdr
            by_cases hxa : xn = an
            · have f1 : ((xn : Int) == (an : Int)) = true := by simp; omega
              by_cases hyb : yn = bn
              · have f2 : ((yn : Int) == (bn : Int)) = true := by simp; omega
                rw [hxa, hyb, scanI_pair] at hsc
                obtain ⟨hk1, hk2, hk3⟩ := drop_head hsc
                rw [HK.out] at hk3
                obtain ⟨adk, z, rfl, hz, lz, -, -⟩ := HJ7.out.at mm hk3
                rw [hk1] at hz
                cases hz
                have lz1 : (w7.drewN q).cell? (adk.add mm) = some (.int .i64 256) := lz
                have c4 : (mm : Int) < (k : Int) := by omega
                have HSC := Lib.hid hk2
                clear hxa hyb hsc hk1 hk2 lz hdr2 lxq
                go_wp2_with fail
                go_roundw
                case rel => exact ⟨mm + 1, j + 2, q, by omega, by omega, by go_num, by go_num, HSC.out, rfl⟩
                case measure => simp [intOf]; omega
              · have f2 : ((yn : Int) == (bn : Int)) = false := by simp; omega
                have hsc2 : l1.drop mm = (xn : Int) :: scanI (an : Int) (bn : Int) ((bytesI s).drop (j + 1)) := by
                  rw [hsc, hdr2, scanI_next (by omega)]
                clear hxa hyb hsc hdr2
                obtain ⟨hk1, hk2, hk3⟩ := drop_head hsc2
                rw [HK.out] at hk3
                obtain ⟨adk, z, rfl, hz, lz, -, -⟩ := HJ7.out.at mm hk3
                rw [hk1] at hz
                cases hz
                have lzq : ∀ r, (w7.drewN r).cell? (adk.add mm) = some (.int .i64 (xn : Nat)) := fun _ => lz
                have c4 : (mm : Int) < (k : Int) := by omega
                have f4 : ((xn : Int) != (xn : Int)) = false := by simp
                have HSC := Lib.hid hk2
                clear hsc2 hk1 hk2 lz
                go_wp2_with fail
                go_quiet (fail)
                go_wp2
                exact ⟨⟨mm + 1, j + 1, _, by omega, by omega, by go_num, by go_num, HSC.out, rfl⟩, by simp [intOf]; omega⟩
            · have f1 : ((xn : Int) == (an : Int)) = false := by simp; omega
              have hsc2 : l1.drop mm = (xn : Int) :: scanI (an : Int) (bn : Int) ((bytesI s).drop (j + 1)) := by
                rw [hsc, hdr2, scanI_other (by omega)]
              clear hxa hsc hdr2 ly1 ly2 ly3
              obtain ⟨hk1, hk2, hk3⟩ := drop_head hsc2
              rw [HK.out] at hk3
              obtain ⟨adk, z, rfl, hz, lz, -, -⟩ := HJ7.out.at mm hk3
              rw [hk1] at hz
              cases hz
              have lzq : ∀ r, (w7.drewN r).cell? (adk.add mm) = some (.int .i64 (xn : Nat)) := fun _ => lz
              have c4 : (mm : Int) < (k : Int) := by omega
              have f4 : ((xn : Int) != (xn : Int)) = false := by simp
              have HSC := Lib.hid hk2
              clear hsc2 hk1 hk2 lz
              go_wp2_with fail
              go_quiet (fail)
              go_wp2
              exact ⟨⟨mm + 1, j + 1, _, by omega, by omega, by go_num, by go_num, HSC.out, rfl⟩, by simp [intOf]; omega⟩
          · have c3 : ¬ (j : Int) + 1 < (p : Int) := by omega
            have hsc2 : l1.drop mm = (xn : Int) :: scanI (an : Int) (bn : Int) ((bytesI s).drop (j + 1)) := by
              have hd : (bytesI s).drop (j + 1) = [] := List.drop_eq_nil_of_le (by rw [HBI.out]; omega)
              rw [hsc, hdr, hd]
              rfl
            clear hsc hdr
            obtain ⟨hk1, hk2, hk3⟩ := drop_head hsc2
            rw [HK.out] at hk3
            obtain ⟨adk, z, rfl, hz, lz, -, -⟩ := HJ7.out.at mm hk3
            rw [hk1] at hz
            cases hz
            have lzq : ∀ r, (w7.drewN r).cell? (adk.add mm) = some (.int .i64 (xn : Nat)) := fun _ => lz
            have c4 : (mm : Int) < (k : Int) := by omega
            have f4 : ((xn : Int) != (xn : Int)) = false := by simp
            have HSC := Lib.hid hk2
            clear hsc2 hk1 hk2 lz
            go_wp2_with fail
            go_quiet (fail)
            go_wp2
            exact ⟨⟨mm + 1, j + 1, _, by omega, by omega, by go_num, by go_num, HSC.out, rfl⟩, by simp [intOf]; omega⟩
        · have c1 : ¬ (j : Int) < (p : Int) := by omega
          have hd : (bytesI s).drop j = [] := List.drop_eq_nil_of_le (by rw [HBI.out]; omega)
          rw [hd] at hsc
          have hmk : mm = k := by
            have h1 : l1.drop mm = [] := hsc
            have := List.drop_eq_nil_iff.1 h1
            have := HK.out
            omega
          subst hmk
          have e0 : ((mm : Int) == (mm : Int)) = true := by simp
          clear hd hsc
          go_wp2_with fail
          go_ret
          exact ⟨rfl, below_drewN HB7.out _⟩
end Go.Proofs.Ytimbimnbaoaboaa
