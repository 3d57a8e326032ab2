/- The contract of the program's GetRising. -/
import Derived.Test.YtkligdaademakaaLWordsB
import Derived.Test.YtkligdaademakaaLOver
namespace Go.Proofs.Ytkligdaademakaa
open Go.RowKit Go.Maps Go.WideMaps

set_option maxHeartbeats 4000000 in
set_option maxRecDepth 100000 in
theorem lGetRising_any (w : World) (A : Option Addr) (n c : Nat) (l : Nm) (hl : BytesIn w A n l) (hc : n ≤ c) (hn : n ≤ 1099511627776) (most : Int) (hm1 : -9223372036854775808 ≤ most) (hm2 : most ≤ 9223372036854775807) :
    Calls Try.prog 81 #[.slice A n c, .int .i64 most] w (GetROut w (getR l most)) := by
  obtain ⟨i0, hi, hz0, hz1, hz2⟩ := info_parts intInfo64
  have HL := Lib.hid hl
  have hln : l.length = n := by have := hl.2.1.len; simpa using this
  have HLN := Lib.hid hln
  clear hl hln
  go_enter Try.func81, Try.ntmps81
  go_wp2
  go_step3
  go_wp2_with fail
  refine (lGet_any w A n c l HL.out).mono ?_
  rintro e w1 ⟨rfl, hw⟩
  rw [hw]
  clear hw
  unfold gotV
  obtain ⟨G, hG⟩ : ∃ G, G = getL l := ⟨_, rfl⟩
  rw [← hG]
  obtain ⟨many, at0', e0⟩ := G
  by_cases he : e0 = 0
  · subst he
    have hg := getL_inv hG.symm
    obtain ⟨g1, g2, g3, g4, g5⟩ := hg
    by_cases hm : most < 0 ∨ most < (many : Int)
    · have hres : getR l most = ([], 0, 2) := by
        unfold getR
        rw [← hG]
        simp only
        rw [if_neg (by simp), if_pos hm]
      have HRES := Lib.hid hres
      have HG := Lib.hid hG
      have hd := decide_eq_true hm
      clear hG hres g4
      go_wp2_with fail
      refine (lOver_any w many most hm1 hm2).mono ?_
      rintro e w1 ⟨rfl, hw⟩
      rw [hw, hd]
      clear hw hd hm
      go_wp2
      try rw [Exit.noGoto_ret]
      go_ret3
      exact gerr HRES.out (Below.refl _ _)
    have hres : getR l most = getRAux many (-1) at0' (l.drop at0') [] := by
      unfold getR
      rw [← hG]
      simp only
      rw [if_neg (by simp), if_neg hm]
    have HRES := Lib.hid hres
    have HG := Lib.hid hG
    have hd := decide_eq_false hm
    clear hG hres g4 hm
    have g3n : at0' ≤ n := by rw [← HLN.out]; exact g3
    go_wp2_with fail
    refine (lOver_any w many most hm1 hm2).mono ?_
    rintro e w1 ⟨rfl, hw⟩
    rw [hw, hd]
    clear hw hd
    go_wp2
    go_step3
    go_wp2
    go_loopw [8, 9, 10, 11, 28] (fun a er v s i wr => ∃ (k at_ least : Nat) (acc : List Int), k ≤ many ∧ a = .int .i64 at_ ∧ er = .int .i64 0 ∧ s = .int .u64 least ∧ i = .int .u64 k ∧ at_ ≤ n ∧ least ≤ 9223372036854775808 ∧ acc.length = k ∧ k < at_ ∧
      getRAux (many - k) ((least : Int) - 1) at_ (l.drop at_) acc = getR l most ∧ Below w.heap.size w wr ∧ wr.ownsRow w.heap.size 2 1 v acc.length (acc.map i64V)) (fun _ _ _ _ i _ => many - (intOf i).toNat)
    case atStart => exact ⟨0, at0', 0, [], by omega, rfl, rfl, rfl, rfl, g3n, by omega, rfl, g1, by rw [HRES.out]; rfl, Below.refl _ _, ⟨rfl, .inl ⟨rfl, rfl⟩⟩⟩
    case round =>
      obtain ⟨k, at_, least, acc, hk, rfl, rfl, rfl, rfl, hat, hlast, hacc, hkat, hgr, hB, hO⟩ := hrel
      have HGR := Lib.hid hgr
      have HB := Lib.hid hB
      have HO := Lib.hid hO
      have HACC := Lib.hid hacc
      clear hgr hB hO hacc
      obtain ⟨Av, cv, hv⟩ := own_slice HO.out
      subst hv
      rcases Nat.lt_or_ge k many with hlt | hge
      · have hlt' : (k : Int) < (many : Int) := by omega
        have s1 : ∀ w, (Instr.slice 46 (.slice A n c) (some (.int .i64 at_)) none none).run Try.prog w = .ok (.slice (cutAddr A at_ c) (n - at_) (c - at_)) w := fun w => slice_from w A n c at_ hat
        have hsub := (HL.out.below HB.out).sub hc at_ n hat (Nat.le_refl _)
        rw [show (l.take n).drop at_ = l.drop at_ by rw [List.take_of_length_le (by rw [HLN.out]; exact Nat.le_refl _)]] at hsub
        have HSUB := Lib.hid hsub
        clear hsub
        obtain ⟨v, j, e, hg⟩ : ∃ v j e, getL (l.drop at_) = (v, j, e) := ⟨_, _, _, rfl⟩
        obtain ⟨m, hm⟩ : ∃ m, many - k = m + 1 := ⟨many - k - 1, by omega⟩
        have hstep := HGR.out
        rw [hm] at hstep
        simp only [getRAux, hg] at hstep
        have HSTEP := Lib.hid hstep
        have HGG := Lib.hid hg
        have HM := Lib.hid hm
        clear hstep hg hm
        go_wp2_with fail
        refine (lGet_any wr (cutAddr A at_ c) (n - at_) (c - at_) (l.drop at_) HSUB.out).mono ?_
        rintro e2 w2 ⟨rfl, hw⟩
        rw [hw, HGG.out]
        clear hw
        unfold gotV
        by_cases he : e = 0
        · subst he
          have hgi := getL_inv HGG.out
          obtain ⟨q1, q2, q3, q4, q5⟩ := hgi
          rw [List.length_drop, HLN.out] at q3
          clear q4
          have hstep := HSTEP.out
          rw [if_neg (by simp)] at hstep
          have hj : IntKind.i64.wrap ((at_ : Int) + (j : Int)) = ((at_ + j : Nat) : Int) := by rw [IntWalk.i64_in _ (by omega)]; simp
          obtain ⟨at2, hat2⟩ : ∃ a, a = at_ + j := ⟨_, rfl⟩
          rw [← hat2] at hj
          obtain ⟨T, hT⟩ : ∃ T : Nat, T = 9223372036854775808 - least := ⟨_, rfl⟩
          have hTz : IntKind.u64.wrap (9223372036854775808 - (least : Int)) = (T : Int) := by rw [IntKind.wrap_u64]; omega
          by_cases hov : T ≤ v
          · have hovz : (T : Int) ≤ (v : Int) := by omega
            rw [if_pos (by omega)] at hstep
            have HS := Lib.hid hstep
            clear hstep hT hat2
            go_wp2
            try rw [Exit.noGoto_ret]
            go_ret3
            exact gerr HS.out.symm HB.out
          · have hovz : ¬ (T : Int) ≤ (v : Int) := by omega
            rw [if_neg (by omega)] at hstep
            obtain ⟨z, hz⟩ : ∃ z : Nat, z = least + v := ⟨_, rfl⟩
            obtain ⟨v1, hv1⟩ : ∃ u : Nat, u = v + 1 := ⟨_, rfl⟩
            obtain ⟨z1, hz1'⟩ : ∃ u : Nat, u = z + 1 := ⟨_, rfl⟩
            have hv1z : IntKind.u64.wrap ((v : Int) + 1) = (v1 : Int) := by rw [IntKind.wrap_u64]; omega
            have hzz : IntKind.u64.wrap ((least : Int) + (v : Int)) = (z : Int) := by rw [IntKind.wrap_u64]; omega
            have hz1z : IntKind.u64.wrap ((least : Int) + (v1 : Int)) = (z1 : Int) := by rw [IntKind.wrap_u64]; omega
            have hzi : IntKind.i64.wrap (z : Int) = (z : Int) := IntWalk.i64_in _ (by omega)
            have hzm : z1 ≤ 9223372036854775808 := by omega
            have hat2n : at2 ≤ n := by omega
            have hka2 : k + 1 < at2 := by omega
            rw [show (least : Int) - 1 + (v : Int) + 1 = (z : Int) by omega, List.drop_drop, ← hat2] at hstep
            have hzb : (z1 : Int) - 1 = (z : Int) := by omega
            have HS := Lib.hid hstep
            have HZB := Lib.hid hzb
            have hal : acc.length ≤ 1099511627776 := by have := HACC.out; omega
            clear hstep hT hat2 hz hv1 hz1' hzb
            go_wp2_with (at_builtin; refine wpList_append_src _ rfl (.tmp 47) (.tmp 52) 26 rfl w.heap.size 2 i0 (.int .i64 0) 8 Try.underlying26 hi hz0 hz1 hz2 rfl _ acc.length _ rfl (World.ownsRow.alloc HO.out _) _ 1 1 _ rfl (one_int_src wr 2 z) (i64V_one [(z : Int)]) (by unfold maxLen; omega) (by omega) (by have := HB.out.size; simp; omega) ?_; intro v3 w3 hown hgrow _; have HO3 := Lib.hid hown; have HB3 := Lib.hid ((HB.out.alloc HB.out.size _).grown hgrow (by have := HB.out.size; simp; omega) (fun g hg => (HO.out.lt g hg).1)); clear hown hgrow)
            go_roundw
            case rel =>
              refine ⟨k + 1, at2, z1, acc ++ [(z : Int)], by omega, rfl, rfl, rfl, by go_num, by omega, by omega, by rw [List.length_append, HACC.out]; rfl, by omega, ?_, HB3.out, ?_⟩
              · rw [HZB.out, show many - (k + 1) = m by have := HM.out; omega]
                exact HS.out
              · rw [List.length_append, List.map_append]
                exact HO3.out
            case measure => simp [intOf]; omega
        · have hstep := HSTEP.out
          rw [if_pos he] at hstep
          have HS := Lib.hid hstep
          have d1 : (e != 0) = true := by simpa using he
          clear hstep he
          go_wp2
          try rw [Exit.noGoto_ret]
          go_ret3
          exact gerr HS.out.symm HB.out
      · obtain rfl : k = many := by omega
        have hlz : ¬ ((k : Int) < (k : Int)) := by omega
        have hfin : getR l most = (acc, at_, 0) := by
          have := HGR.out
          rw [Nat.sub_self] at this
          exact this.symm
        have HF := Lib.hid hfin
        clear hfin
        go_wp2
        try rw [Exit.noGoto_ret]
        go_ret3
        exact gok HF.out HB.out HO.out
  · have hres : getR l most = ([], 0, e0) := by
      unfold getR
      rw [← hG]
      simp only
      rw [if_pos he]
    have HRES := Lib.hid hres
    have HG := Lib.hid hG
    clear hG hres
    go_wp2
    try rw [Exit.noGoto_ret]
    go_ret3
    exact gerr HRES.out (Below.refl _ _)
end Go.Proofs.Ytkligdaademakaa
