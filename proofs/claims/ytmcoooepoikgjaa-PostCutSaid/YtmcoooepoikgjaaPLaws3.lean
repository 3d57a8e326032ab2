/- The law PostCut. -/
import Derived.Test.YtmcoooepoikgjaaPLaws2
import Derived.Test.YtmcoooepoikgjaaPMath5
namespace Go.Proofs.Ytmcoooepoikgjaa
open Go.RowKit Go.Maps Go.WideMaps
set_option linter.unusedSimpArgs false

set_option maxRecDepth 100000 in
theorem posts_to (w : World) (A : Option Addr) (n c p : Nat) (h : p ≤ c) : (Instr.slice 22 (.slice A n c) none (some (.int .i64 p)) none).run Try.prog w = .ok (.slice A p c) w := by
  obtain ⟨i0, hi, hz0, hz1, hz2⟩ := info_parts postInfo
  rw [run_slice_h (P := Try.prog) (w := w) 22 A n c Try.underlying22 .i64 p (by omega) (by omega)]
  have he : Try.prog.elem 22 = 36 := by kernel_rfl
  rw [he]
  have hs : (sizeOf 36).run Try.prog w = Result.ok i0.size w := by
    rw [run_sizeOf w hi]
    unfold Program.cellsOf
    rw [hi]
    rfl
  rw [hs]
  simp [Result.andThen, sliced, Addr.add]
theorem PostsSee.upto {w : World} {A : Option Addr} {n : Nat} {l : List Pst} (h : PostsSee w A n l) (p : Nat) (hp : p ≤ n) : PostsSee w A p (l.take p) where
  len := by rw [List.length_take, h.len]; omega
  fit := Nat.le_trans hp h.fit
  nil := fun e => by have := h.nil e; omega
  at_ := fun ad e i x hx => by
    rw [List.getElem?_take] at hx
    split at hx
    · exact h.at_ ad e i x hx
    · cases hx
theorem got_bad {b : List UInt8} (h : (getP b).2 = 3) : getP b = ([], 3) := by
  rcases getP_err b with h1 | h1
  · omega
  · exact h1
theorem check_take {l : List Pst} (hf : FitP l) (h : checkP l = 0) (k : Nat) : checkP (l.take k) = 0 :=
  (check_ok (fun x hx => hf x (List.mem_of_mem_take hx))).2 (((check_ok hf).1 h).take k)

set_option maxHeartbeats 8000000 in
set_option maxRecDepth 100000 in
theorem postCut_any (hK : PostOk) (W : World) (A : Option Addr) (n c : Nat) (l : List Pst) (hl : PostsSz W A n l) (hc : n ≤ c) (cut : Nat) (hcut : cut < 65536) (y : UInt8) :
    Calls Try.prog 6 #[.slice A n c, .int .u16 cut, .int .u8 y.toNat] W fun e w' => e = .returned (.bool true) ∧ Below W.heap.size W w' := by
  obtain ⟨i0, hi, hz0, hz1, hz2⟩ := info_parts byteInfo
  have HK := Lib.hid hK
  have HH := Lib.hid (postHead_any hK W)
  have HL := Lib.hid hl
  have hll := hl.1.len
  have HLN := Lib.hid hll
  clear hl hK hll
  go_enter Try.func6, Try.ntmps6
  go_wp2_with fail
  refine HH.out.mono ?_
  rintro e w1 ⟨rfl, hb1⟩
  have HB1 := Lib.hid hb1
  have HG := Lib.hid (postGreat_any w1 A n c l (HL.out.1.below hb1) HL.out.2.2 HL.out.2.1)
  clear hb1
  go_wp2_with fail
  refine HG.out.mono ?_
  rintro e w2 ⟨r, rfl, hw2, hr⟩
  rw [hw2]
  clear hw2
  cases r with
  | true =>
    clear hr
    go_wp2
    go_ret
    exact ⟨rfl, HB1.out⟩
  | false =>
    obtain ⟨hn2, hx2⟩ := hr rfl
    have HX2 := Lib.hid (fun x hx => Nat.le_trans (Nat.le_of_lt (hx2 x hx)) (by omega) : ∀ x ∈ l, x.2.length ≤ 1000000)
    obtain ⟨Z, hZ⟩ : ∃ Z, putE l = Z := ⟨_, rfl⟩
    obtain ⟨R, hR⟩ : ∃ R, checkP l = R := ⟨_, rfl⟩
    have HZ := Lib.hid hZ
    have HR := Lib.hid hR
    have HC := Lib.hid (put_is HK.out (HL.out.1.below HB1.out) hc (by omega) HX2.out hZ hR)
    clear hr hx2 hZ hR
    go_wp2_with fail
    refine HC.out.mono ?_
    rintro e w3 ⟨A3, c3, rfl, hi3, hc3, -, hb3⟩
    have HB3 := Lib.hid (below_then HB1.out hb3 HB1.out.size)
    have HI3 := Lib.hid hi3
    clear hi3 hb3 HC
    by_cases h0 : R = 0
    · subst h0
      have hzl : Z.length ≤ 368803860 := by rw [← HZ.out]; exact putE_len (fit_of HL.out.1)
      have hV := (check_ok (fit_of HL.out.1)).1 HR.out
      have hZp : Z = putP l := by rw [← HZ.out]; exact putE_good HR.out
      have hZ0 : 0 < Z.length := by
        rw [hZp]
        unfold putP
        have := putL_pos l.length
        rw [List.length_append]
        omega
      have e0 : ((Z.length : Int) == 0) = false := beq_eq_false_iff_ne.2 (by omega)
      have e0n : (Z.length == 0) = false := beq_eq_false_iff_ne.2 (by omega)
      have hcv : IntKind.i64.wrap (cut : Int) = (cut : Int) := IntWalk.i64_in _ (by omega)
      obtain ⟨q, hq⟩ : ∃ q, q = cut % Z.length := ⟨_, rfl⟩
      have hqm : q < Z.length := by rw [hq]; exact Nat.mod_lt _ hZ0
      have hqz : (cut : Int) % (Z.length : Int) = (q : Int) := by rw [hq]; simp
      have hsl := fun w => slice_to w A3 Z.length c3 q (by omega)
      have hcg : getP (Z.take q) = ([], 3) := by rw [hZp]; exact got_bad (getP_cut hV (by rw [← hZp]; exact hqm))
      have hmg : getP (Z ++ [y]) = ([], 3) := by rw [hZp]; exact got_bad (getP_more hV y)
      have HC3 := Lib.hid (get_is HK.out (HI3.out.upto q (Nat.le_of_lt hqm)) (by omega : q ≤ c3) (by omega) hcg)
      have HMG := Lib.hid hmg
      have HV := Lib.hid hV
      have HZP := Lib.hid hZp
      clear hq hcg hmg hV hZp
      go_wp2_with fail
      refine HC3.out.mono ?_
      rintro e w4 ⟨A4, c4, rfl, -, -, hb4⟩
      have HB4 := Lib.hid (below_then HB3.out hb4 HB3.out.size)
      have HI4 := Lib.hid (HI3.out.below hb4)
      clear hb4 HC3 hsl
      go_wp2_with (at_builtin; refine wpList_append_src _ rfl (.tmp 49) (.tmp 50) 23 rfl w4.heap.size 5 i0 (.int .u8 0) 1 Try.underlying23 hi hz0 hz1 hz2 rfl _ 0 [] rfl (World.ownsRow_made w4 #[] 0 (Nat.le_refl _) (Nat.zero_le _) rfl) A3 Z.length c3 (Z.map byteV) rfl (HI4.out.below ((Below.refl _ w4).alloc (Nat.le_refl _) (.cells #[] 5))).2.1 (u8_one Z) (by unfold maxLen; omega) (by omega) (by simp) ?_; intro v5 w5 hown hgrow hloc; rw [Nat.zero_add, List.nil_append] at hown; obtain ⟨A5, c5, hv⟩ := own_slice hown; subst hv; have HO5 := Lib.hid hown; have HB5 : Hid (Below w4.heap.size w4 w5) := Lib.hid ((((Below.refl _ w4).alloc (Nat.le_refl _) (.cells #[] 5)).grown hgrow (by simp) (fun k e => by cases e; exact Nat.le_refl _))); clear hown hgrow hloc; go_wp2_with (at_builtin; refine wpList_append_src _ rfl (.tmp 51) (.tmp 53) 23 rfl w4.heap.size 5 i0 (.int .u8 0) 1 Try.underlying23 hi hz0 hz1 hz2 rfl _ Z.length _ rfl (World.ownsRow.alloc HO5.out _) _ 1 1 _ rfl (one_src w5 y) (u8_one [y]) (by unfold maxLen; omega) (by omega) (by have := HB5.out.size; simp; omega) ?_; intro v6 w6 hown hgrow hloc; obtain ⟨A6, c6, hv⟩ := own_slice hown; subst hv; have HO6 := Lib.hid hown; have HB6 : Hid (Below w4.heap.size w4 w6) := Lib.hid ((HB5.out.alloc HB5.out.size _).grown hgrow (by have := HB5.out.size; simp; omega) (fun k e => by have h := HO5.out.lt k e; exact h.1)); clear hown hgrow hloc))
      have hlong : BytesIn w6 A6 (Z.length + 1) (Z ++ [y]) := BytesIn.own (by rw [List.map_append]; exact HO6.out) (by unfold maxLen; omega)
      have HC6 := Lib.hid (get_is HK.out hlong (rowCap_le HO6.out) (by omega) HMG.out)
      have HB66 := Lib.hid (below_then HB4.out HB6.out HB4.out.size)
      clear hlong
      go_wp2_with fail
      refine HC6.out.mono ?_
      rintro e w7 ⟨A7, c7, rfl, -, -, hb7⟩
      have HB7 := Lib.hid (below_then HB66.out hb7 HB66.out.size)
      clear hb7 HC6
      by_cases hn0 : n = 0
      · have d3 : ((n : Int) == 0) = true := by simp; omega
        have hz1 : Z.length = 1 := by
          rw [HZP.out]
          have : l = [] := List.eq_nil_of_length_eq_zero (by rw [HLN.out]; exact hn0)
          rw [this]
          decide +kernel
        have d4 : ((Z.length : Int) == 1) = true := by simp; omega
        clear hz1 hn0
        go_wp2
        go_ret
        exact ⟨rfl, HB7.out⟩
      · have d3 : ((n : Int) == 0) = false := by simp; omega
        obtain ⟨k, hk⟩ : ∃ k, n = k + 1 := ⟨n - 1, by omega⟩
        have hw8 : IntKind.i64.wrap ((n : Int) - 1) = (k : Int) := by rw [IntWalk.i64_in _ (by omega)]; omega
        have hsl2 := fun w => posts_to w A n c k (by omega)
        have hshort : (putP (l.take k)).length < Z.length := by
          have h1 := putP_short HV.out (by rw [HLN.out]; omega)
          rw [HLN.out, hk, Nat.add_sub_cancel] at h1
          rw [HZP.out]
          exact h1
        have hck := check_take (fit_of HL.out.1) HR.out k
        have HC7 := Lib.hid (put_is HK.out ((HL.out.1.upto k (by omega)).below HB7.out) (by omega : k ≤ c) (by omega) (fun x hx => HX2.out x (List.mem_of_mem_take hx)) (putE_good hck) hck)
        have d5 : decide ((putP (l.take k)).length < Z.length) = true := decide_eq_true hshort
        obtain ⟨P, hP⟩ : ∃ P, P = putP (l.take k) := ⟨_, rfl⟩
        rw [← hP] at HC7 d5
        have HHK := Lib.hid hk
        clear hshort hck hP hk
        go_wp2_with fail
        refine HC7.out.mono ?_
        rintro e w8 ⟨A8, c8, rfl, -, -, -, hb8⟩
        have HB8 := Lib.hid (below_then HB7.out hb8 HB7.out.size)
        clear hb8 HC7 hsl2
        go_wp2
        go_ret
        exact ⟨rfl, HB8.out⟩
    · have d2 : (R == 0) = false := by simpa using h0
      have d2' : (R != 0) = true := by simpa using h0
      clear h0 hc3
      go_wp2
      go_ret
      exact ⟨rfl, HB3.out⟩
end Go.Proofs.Ytmcoooepoikgjaa
