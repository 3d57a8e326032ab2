/- LebList, walked. -/
import Derived.Test.YtmncnbnloonenaaLLaws3
import Derived.Deep.QuietTactic
import Derived.BigQuiet
namespace Go.Proofs.Ytmncnbnloonenaa
open Go.RowKit Go.Maps Go.WideMaps Go.Shelf

theorem IntsIn.drewN {w : World} {A : Option Addr} {n : Nat} {l : List Int} (h : IntsIn w A n l) (q : Nat) : IntsIn (w.drewN q) A n l := ⟨h.1, ⟨h.2.1.1, h.2.1.2, h.2.1.3⟩, h.2.2⟩
theorem rises_step (l : List Int) (k : Nat) (x y : Int) (hr : rises (-1) l = true) (hx : l[k]? = some x) (hy : l[k + 1]? = some y) : x < y := by
  have h := (rises_at l (-1)).1 hr (k + 1) y hy
  rw [if_neg (by omega), Nat.add_sub_cancel, List.getD_eq_getElem?_getD, hx] at h
  exact h

set_option maxHeartbeats 8000000 in
set_option maxRecDepth 100000 in
theorem lebList_any (w : World) (A : Option Addr) (a ca : Nat) (l : List Int) (hl : IntsIn w A a l) (M : Option Addr) (m cm : Nat) (lm : Nm) (hm : BytesIn w M m lm) (B : Option Addr) (b cb : Nat) (lb : Nm) (hb : BytesIn w B b lb) (hcb : b ≤ cb) :
    Calls Try.prog 7 #[.slice A a ca, .slice M m cm, .slice B b cb] w fun e w' => e = .returned (.bool true) ∧ Below w.heap.size w w' := by
  have HL := Lib.hid hl
  have HM := Lib.hid hm
  have HB := Lib.hid hb
  have hln : l.length = a := hl.len
  have hbn : lb.length = b := by have := hb.2.1.len; simpa using this
  have hlx : ∀ x ∈ l, x ≤ 9223372036854775807 := fun x hx => (hl.2.2.1 x hx).2
  have a63 : a ≤ 9223372036854775807 := hl.1
  have m63 : m ≤ 9223372036854775807 := hm.1
  have b63 : b ≤ 9223372036854775807 := hb.1
  obtain ⟨i0, hi, hz0, hz1, hz2⟩ := info_parts byteInfo
  obtain ⟨G, hG⟩ : ∃ G, G = getR lb 5000 := ⟨_, rfl⟩
  have hgs := getR_small lb 5000
  have hgb := getR_bounds lb 5000
  rw [← hG, hbn] at hgs
  rw [← hG] at hgb
  have HGB := Lib.hid hgb
  have HG := Lib.hid hG
  have HLN := Lib.hid hln
  have HBN := Lib.hid hbn
  have HLX := Lib.hid hlx
  clear hl hm hb hln hbn hlx hgb hG
  go_enter Try.func7, Try.ntmps7
  go_wp2_with fail
  refine (lebHead_any w).mono ?_
  rintro e w1 ⟨rfl, hb⟩
  have B1 := Lib.hid hb
  have L1 := Lib.hid (HL.out.below hb)
  have M1 := Lib.hid (HM.out.below hb)
  have C1 := Lib.hid (HB.out.below hb)
  clear hb
  by_cases hbig : 1000 < a
  · have hbz : (1000 : Int) < (a : Int) := by omega
    go_wp2
    go_ret
    exact ⟨rfl, B1.out⟩
  have hbz : ¬ (1000 : Int) < (a : Int) := by omega
  by_cases hbig2 : 1000 < m
  · have hbz2 : (1000 : Int) < (m : Int) := by omega
    go_wp2
    go_ret
    exact ⟨rfl, B1.out⟩
  have hbz2 : ¬ (1000 : Int) < (m : Int) := by omega
  by_cases hbig3 : 5000 < b
  · have hbz3 : (5000 : Int) < (b : Int) := by omega
    go_wp2
    go_ret
    exact ⟨rfl, B1.out⟩
  have hbz3 : ¬ (5000 : Int) < (b : Int) := by omega
  go_wp2_with fail
  refine (lPutRising_any w1 A a ca l L1.out (by omega)).mono ?_
  intro e w2 h2
  obtain ⟨A2, N2, c2, z, rfl, hb, hz, hN2, I2⟩ := putR_out h2 (by rw [HLN.out]; omega) HLX.out
  have B2 := Lib.hid (below_then B1.out hb B1.out.size)
  have L2 := Lib.hid (L1.out.below hb)
  have M2 := Lib.hid (M1.out.below hb)
  have C2 := Lib.hid (C1.out.below hb)
  have Z2 := Lib.hid I2
  clear h2 hb I2 L1 M1 C1 B1
  by_cases hr : rises (-1) l = true
  · rw [if_pos hr] at hz ⊢
    have hgp : getR (z ++ lm) a = (l, N2, 0) := by
      have h1 := getR_put l (by rw [HLN.out]; omega) hr HLX.out lm a (by rw [HLN.out]; exact Int.le_refl _)
      rw [hz, h1, hN2, hz]
    have hul : N2 ≤ 10 + 10 * l.length := by
      have h4 := putUp_len (l := l) (k := l.length) (Nat.le_refl _) (by rw [List.take_length]; exact hr) HLX.out (by rw [HLN.out]; omega)
      have h5 : putUp l l.length = putR l := by unfold putUp putR; rw [List.take_length]
      rw [h5, ← hz, ← hN2] at h4
      exact h4
    rw [HLN.out] at hul
    have HGP := Lib.hid hgp
    have HN2 := Lib.hid hN2
    have S2 := Lib.hid (Z2.out.below ((Below.refl _ w2).alloc (Nat.le_refl _) (.cells #[] 5)))
    have M2' := Lib.hid (M2.out.below ((Below.refl _ w2).alloc (Nat.le_refl _) (.cells #[] 5)))
    clear hgp hz hr hN2
    go_wp2_with (first
      | (at_builtin; refine wpList_append_src _ rfl (.tmp 42) (.tmp 43) 23 rfl w2.heap.size 5 i0 (.int .u8 0) 1 Try.underlying23 hi hz0 hz1 hz2 rfl _ 0 [] rfl (World.ownsRow_made w2 #[] 0 (Nat.le_refl _) (Nat.zero_le _) rfl) A2 N2 c2 (z.map byteV) rfl S2.out.2.1 (u8_one z) (by unfold maxLen; omega) (by omega) (by simp) ?_; intro v3 w3 hown hgrow hloc; obtain ⟨A3, c3, hv⟩ := own_slice hown; subst hv; rw [Nat.zero_add, List.nil_append] at hown; have HO3 := Lib.hid hown; have HB3 : Hid (Below w2.heap.size w2 w3) := Lib.hid ((((Below.refl _ w2).alloc (Nat.le_refl _) (.cells #[] 5)).grown hgrow (by simp) (fun k e => by cases e; exact Nat.le_refl _))); have A3' := Lib.hid (M2'.out.keep (Kept.grown (F := fun i => i = w2.heap.size) (Kept.refl _ _) hgrow (fun k e => by cases e; exact .inl rfl)) (fun ad e h0 h => by have := (HM.out.2.2 ad e h0); have := B2.out.size; omega)); clear hown hgrow hloc)
      | (at_builtin; refine wpList_append_src _ rfl (.tmp 44) (.tmp 45) 23 rfl w2.heap.size 5 i0 (.int .u8 0) 1 Try.underlying23 hi hz0 hz1 hz2 rfl _ _ _ rfl HO3.out M m cm (lm.map byteV) rfl A3'.out.2.1 (u8_one lm) (by unfold maxLen; omega) (by omega) HB3.out.size ?_; intro v4 w4 hown hgrow hloc; obtain ⟨A4, c4, hv⟩ := own_slice hown; subst hv; rw [← List.map_append] at hown; have HO4 := Lib.hid hown; have HB4 := Lib.hid (HB3.out.grown hgrow HB3.out.size (fun g hg => (HO3.out.lt g hg).1)); clear hown hgrow hloc))
    have h4c := own_le HO4.out
    refine (lGetRising_any _ A4 (N2 + m) c4 _ (BytesIn.own HO4.out (by unfold maxLen; omega)) h4c (by omega) a (by omega) (by omega)).mono ?_
    intro e w5 h5
    rw [HGP.out] at h5
    obtain ⟨A5, N5, c5, rfl, hb, hN5, I5⟩ := getR_out h5 (show l.length ≤ _ by rw [HLN.out]; omega) HL.out.2.2.1
    have hN5a : N5 = a := by rw [hN5]; exact HLN.out
    clear hN5
    have hN5 := hN5a
    clear hN5a
    subst hN5
    have hb25 := HB4.out.trans (hb.mono HB4.out.size)
    have B5 := Lib.hid (below_then B2.out hb25 B2.out.size)
    have L5 := Lib.hid (L2.out.below hb25)
    have C5 := Lib.hid (C2.out.below hb25)
    have I5' := Lib.hid I5
    clear hb h5 I5 hb25 h4c HO3 HO4 HB3 HB4 A3' S2 M2' HN2 HGP L2 M2 C2 Z2 B2
    go_wp2_with fail
    refine (r3Same_any w5 A5 A N5 N5 c5 ca l l I5'.out L5.out).mono ?_
    rintro e w6 ⟨rfl, q, hw⟩
    have hd : decide (l = l) = true := by simp
    have B6 := Lib.hid (below_drewN B5.out q)
    have C6 := Lib.hid (C5.out.drewN q)
    rw [← hw] at B6 C6
    rw [hd]
    clear hd hw
    go_wp2_with fail
    refine (lGetRising_any w6 B b cb lb C6.out hcb (by omega) 5000 (by omega) (by omega)).mono ?_
    intro e w7 h7
    rw [← HG.out] at h7
    obtain ⟨gl, gk, ge⟩ := G
    have hgs2 : gl.length ≤ b := hgs
    obtain ⟨A7, N7, c7, rfl, hb, hN7, I7⟩ := getR_out h7 (show gl.length ≤ _ by omega) HGB.out
    have hN7' : N7 = gl.length := hN7
    have B7 := Lib.hid (below_then B6.out hb B6.out.size)
    have C7 := Lib.hid (C6.out.below hb)
    have I7' : Hid (IntsIn w7 A7 N7 gl) := Lib.hid I7
    have HN7 := Lib.hid hN7'
    clear hb h7 I7 hN7 hN7' hgs
    by_cases he : ge = 0
    · subst he
      obtain ⟨r1, r2, r3, r4, r5⟩ := getR_inv HG.out.symm
      have HR := Lib.hid r1
      rw [HBN.out] at r3
      have hN7b : N7 ≤ 5000 := by rw [HN7.out]; omega
      have H4 := Lib.hid r4
      clear r1 r2 r4 r5
      go_wp2
      go_loopw [16] (fun i wr => ∃ k q : Nat, k ≤ N7 ∧ i = .int .i64 k ∧ wr = w7.drewN q) (fun i _ => N7 - (intOf i).toNat)
      case atStart => exact ⟨0, 0, by omega, rfl, rfl⟩
      case round =>
        obtain ⟨k, q, hk, rfl, rfl⟩ := hrel
        rcases Nat.lt_or_ge k N7 with hlt | hge
        · have hlt' : (k : Int) < (N7 : Int) := by omega
          have p0 : (0 : Int) ≤ (k : Int) := by omega
          obtain ⟨pa, x, rfl, hx, cx, x1, x2⟩ := I7'.out.at k hlt
          have hx0 : 0 ≤ x := by have := rises_ge gl _ HR.out x (List.mem_of_getElem? hx); omega
          have d1 : decide (x < 0) = false := by simpa using hx0
          by_cases hk0 : k = 0
          · have hk0n : ¬ 0 < k := by omega
            have d2 : decide (0 < k) = false := by simpa using hk0n
            clear hk0 hx
            go_wp2_with fail
            go_quiet (fail)
            go_wp2
            go_roundw
            case rel => exact ⟨k + 1, _, by omega, by go_num, rfl⟩
            case measure => simp [intOf]; omega
          · have hk0n : 0 < k := by omega
            have d2 : decide (0 < k) = true := by simpa using hk0n
            obtain ⟨J, hJ⟩ : ∃ J, J = k - 1 := ⟨_, rfl⟩
            have hJz : (k : Int) - 1 = (J : Int) := by omega
            have hJn : (J : Int) < (N7 : Int) := by omega
            obtain ⟨pb, y, hpb, hy, cy, y1, y2⟩ := I7'.out.at J (by omega)
            cases hpb
            have hlt3 := rises_step gl J y x HR.out hy (by rw [show J + 1 = k by omega]; exact hx)
            have d3 : decide (x ≤ y) = false := by simpa using hlt3
            clear hJ hy hx hlt3
            go_wp2_with fail
            go_quiet (fail)
            go_wp2
            go_roundw
            case rel => exact ⟨k + 1, _, by omega, by go_num, rfl⟩
            case measure => simp [intOf]; omega
        · obtain rfl : k = N7 := by omega
          have hlz : ¬ ((k : Int) < (k : Int)) := by omega
          go_wp2_with fail
          refine (lPutRising_any _ A7 k c7 gl (I7'.out.drewN q) (by omega)).mono ?_
          intro e w8 h8
          obtain ⟨A8, N8, c8, z8, rfl, hb, hz8, hN8, I8⟩ := putR_out h8 (by rw [← HN7.out]; omega) (fun x hx => (HGB.out x hx).2)
          have d5 : (if rises (-1) gl = true then (0 : Int) else 1) = 0 := by rw [if_pos HR.out]
          rw [if_pos HR.out, ← H4.out] at hz8
          rw [d5]
          have B8 := Lib.hid (below_then (below_drewN B7.out q) hb (below_drewN B7.out q).size)
          have C8 := C7.out.drewN q |>.below hb
          subst hz8
          have hcv1 : ∀ n, (convert 23 9 (.slice A8 N8 c8)).run Try.prog (w8.drewN n) = .ok (.string ⟨(lb.take gk).toArray⟩) (w8.drewN n) := fun n => str_of (hN8 ▸ I8.drewN n) c8
          have hcv2 : ∀ n, (convert 23 9 (.slice B gk cb)).run Try.prog (w8.drewN n) = .ok (.string ⟨(lb.take gk).toArray⟩) (w8.drewN n) := fun n => str_of ((C8.drewN n).upto gk r3) cb
          have s1 : ∀ w, (Instr.slice 23 (.slice B b cb) none (some (.int .i64 gk)) none).run Try.prog w = .ok (.slice B gk cb) w := fun w => slice_to w B b cb gk (by omega)
          have hgz : (gk : Int) ≤ (b : Int) := by omega
          have d6 : decide (gk ≤ b) = true := by simpa using r3
          clear h8 hb I8 d5 C8 hN8
          go_wp2_with fail
          go_quiet (fail)
          go_wp2
          go_ret
          exact ⟨rfl, below_drewN B8.out _⟩
    · have hge := getR_err lb 5000
      rw [← HG.out] at hge
      simp only at hge
      obtain ⟨h1, h2⟩ : gl = [] ∧ gk = 0 := by
        rcases hge with h | h
        · exact absurd h he
        · exact h
      have d1 : (ge != 0) = true := by simpa using he
      have hN70 : N7 = 0 := by rw [HN7.out, h1]; rfl
      clear he hge h1
      subst hN70 h2
      go_wp2
      go_ret
      exact ⟨rfl, B7.out⟩
  · rw [if_neg hr]
    clear hz hr hN2 L2 M2
    go_wp2_with fail
    refine (lGetRising_any w2 B b cb lb C2.out hcb (by omega) 5000 (by omega) (by omega)).mono ?_
    intro e w7 h7
    rw [← HG.out] at h7
    obtain ⟨gl, gk, ge⟩ := G
    have hgs2 : gl.length ≤ b := hgs
    obtain ⟨A7, N7, c7, rfl, hb, hN7, I7⟩ := getR_out h7 (show gl.length ≤ _ by omega) HGB.out
    have hN7' : N7 = gl.length := hN7
    have B7 := Lib.hid (below_then B2.out hb B2.out.size)
    have C7 := Lib.hid (C2.out.below hb)
    have I7' : Hid (IntsIn w7 A7 N7 gl) := Lib.hid I7
    have HN7 := Lib.hid hN7'
    clear hb h7 I7 hN7 hN7' hgs
    by_cases he : ge = 0
    · subst he
      obtain ⟨r1, r2, r3, r4, r5⟩ := getR_inv HG.out.symm
      have HR := Lib.hid r1
      rw [HBN.out] at r3
      have hN7b : N7 ≤ 5000 := by rw [HN7.out]; omega
      have H4 := Lib.hid r4
      clear r1 r2 r4 r5
      go_wp2
      go_loopw [16] (fun i wr => ∃ k q : Nat, k ≤ N7 ∧ i = .int .i64 k ∧ wr = w7.drewN q) (fun i _ => N7 - (intOf i).toNat)
      case atStart => exact ⟨0, 0, by omega, rfl, rfl⟩
      case round =>
        obtain ⟨k, q, hk, rfl, rfl⟩ := hrel
        rcases Nat.lt_or_ge k N7 with hlt | hge
        · have hlt' : (k : Int) < (N7 : Int) := by omega
          have p0 : (0 : Int) ≤ (k : Int) := by omega
          obtain ⟨pa, x, rfl, hx, cx, x1, x2⟩ := I7'.out.at k hlt
          have hx0 : 0 ≤ x := by have := rises_ge gl _ HR.out x (List.mem_of_getElem? hx); omega
          have d1 : decide (x < 0) = false := by simpa using hx0
          by_cases hk0 : k = 0
          · have hk0n : ¬ 0 < k := by omega
            have d2 : decide (0 < k) = false := by simpa using hk0n
            clear hk0 hx
            go_wp2_with fail
            go_quiet (fail)
            go_wp2
            go_roundw
            case rel => exact ⟨k + 1, _, by omega, by go_num, rfl⟩
            case measure => simp [intOf]; omega
          · have hk0n : 0 < k := by omega
            have d2 : decide (0 < k) = true := by simpa using hk0n
            obtain ⟨J, hJ⟩ : ∃ J, J = k - 1 := ⟨_, rfl⟩
            have hJz : (k : Int) - 1 = (J : Int) := by omega
            have hJn : (J : Int) < (N7 : Int) := by omega
            obtain ⟨pb, y, hpb, hy, cy, y1, y2⟩ := I7'.out.at J (by omega)
            cases hpb
            have hlt3 := rises_step gl J y x HR.out hy (by rw [show J + 1 = k by omega]; exact hx)
            have d3 : decide (x ≤ y) = false := by simpa using hlt3
            clear hJ hy hx hlt3
            go_wp2_with fail
            go_quiet (fail)
            go_wp2
            go_roundw
            case rel => exact ⟨k + 1, _, by omega, by go_num, rfl⟩
            case measure => simp [intOf]; omega
        · obtain rfl : k = N7 := by omega
          have hlz : ¬ ((k : Int) < (k : Int)) := by omega
          go_wp2_with fail
          refine (lPutRising_any _ A7 k c7 gl (I7'.out.drewN q) (by omega)).mono ?_
          intro e w8 h8
          obtain ⟨A8, N8, c8, z8, rfl, hb, hz8, hN8, I8⟩ := putR_out h8 (by rw [← HN7.out]; omega) (fun x hx => (HGB.out x hx).2)
          have d5 : (if rises (-1) gl = true then (0 : Int) else 1) = 0 := by rw [if_pos HR.out]
          rw [if_pos HR.out, ← H4.out] at hz8
          rw [d5]
          have B8 := Lib.hid (below_then (below_drewN B7.out q) hb (below_drewN B7.out q).size)
          have C8 := C7.out.drewN q |>.below hb
          subst hz8
          have hcv1 : ∀ n, (convert 23 9 (.slice A8 N8 c8)).run Try.prog (w8.drewN n) = .ok (.string ⟨(lb.take gk).toArray⟩) (w8.drewN n) := fun n => str_of (hN8 ▸ I8.drewN n) c8
          have hcv2 : ∀ n, (convert 23 9 (.slice B gk cb)).run Try.prog (w8.drewN n) = .ok (.string ⟨(lb.take gk).toArray⟩) (w8.drewN n) := fun n => str_of ((C8.drewN n).upto gk r3) cb
          have s1 : ∀ w, (Instr.slice 23 (.slice B b cb) none (some (.int .i64 gk)) none).run Try.prog w = .ok (.slice B gk cb) w := fun w => slice_to w B b cb gk (by omega)
          have hgz : (gk : Int) ≤ (b : Int) := by omega
          have d6 : decide (gk ≤ b) = true := by simpa using r3
          clear h8 hb I8 d5 C8 hN8
          go_wp2_with fail
          go_quiet (fail)
          go_wp2
          go_ret
          exact ⟨rfl, below_drewN B8.out _⟩
    · have hge := getR_err lb 5000
      rw [← HG.out] at hge
      simp only at hge
      obtain ⟨h1, h2⟩ : gl = [] ∧ gk = 0 := by
        rcases hge with h | h
        · exact absurd h he
        · exact h
      have d1 : (ge != 0) = true := by simpa using he
      have hN70 : N7 = 0 := by rw [HN7.out, h1]; rfl
      clear he hge h1
      subst hN70 h2
      go_wp2
      go_ret
      exact ⟨rfl, B7.out⟩
end Go.Proofs.Ytmncnbnloonenaa
