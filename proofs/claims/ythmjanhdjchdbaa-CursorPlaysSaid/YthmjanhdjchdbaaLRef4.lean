/- The contract of the document's GetRising. -/
import Derived.Test.YthmjanhdjchdbaaLRef3
namespace Go.Proofs.Ythmjanhdjchdbaa
open Go.RowKit Go.Maps Go.WideMaps

theorem intInfo64 : (Try.prog.info? 2).map (fun i => (i.zero, i.size, i.bytes)) = some (some (.int .i64 0), 1, 8) := by kernel_rfl
/-- What GetRising leaves. -/
def GetROut (w : World) (g : List Int × Nat × Int) (e : Ending) (w' : World) : Prop :=
  ∃ v, e = .returned (.tuple #[v, .int .i64 g.2.1, .int .i64 g.2.2]) ∧ Below w.heap.size w w' ∧ w'.ownsRow w.heap.size 2 1 v g.1.length (g.1.map i64V)
theorem gerr {w w' : World} {g : List Int × Nat × Int} {e : Int} (h : g = ([], 0, e)) (hb : Below w.heap.size w w') : GetROut w g (.returned (.tuple #[.slice none 0 0, .int .i64 0, .int .i64 e])) w' := by
  subst h
  exact ⟨_, rfl, hb, ⟨rfl, .inl ⟨rfl, rfl⟩⟩⟩
theorem gok {w w' : World} {g : List Int × Nat × Int} {l : List Int} {k : Nat} {v : Value} (h : g = (l, k, 0)) (hb : Below w.heap.size w w') (ho : w'.ownsRow w.heap.size 2 1 v l.length (l.map i64V)) : GetROut w g (.returned (.tuple #[v, .int .i64 k, .int .i64 0])) w' := by
  subst h
  exact ⟨_, rfl, hb, ho⟩
/-- All numbers so far are at most what has been read. -/
theorem getL_pos {l : List UInt8} (h : (getL l).2.2 = 0) : 0 < (getL l).2.1 ∧ (getL l).2.1 ≤ l.length ∧ (getL l).1 < 2 ^ 64 := by
  rcases hg : getL l with ⟨v, k, e⟩
  rw [hg] at h
  simp only at h
  subst h
  obtain ⟨h1, _, h3, _, h5⟩ := getL_inv hg
  exact ⟨h1, h3, h5⟩

set_option maxHeartbeats 4000000 in
set_option maxRecDepth 100000 in
theorem r3GetRising_any (w : World) (A : Option Addr) (n c : Nat) (l : Nm) (hl : BytesIn w A n l) (hc : n ≤ c) (hn : n ≤ 1099511627776) (most : Int) (hm1 : -9223372036854775808 ≤ most) (hm2 : most ≤ 9223372036854775807) :
    Calls Try.prog 45 #[.slice A n c, .int .i64 most] w (GetROut w (getR l most)) := by
  obtain ⟨i0, hi, hz0, hz1, hz2⟩ := info_parts intInfo64
  have HL := Lib.hid hl
  have hln : l.length = n := by have := hl.2.1.len; simpa using this
  have HLN := Lib.hid hln
  clear hl hln
  go_enter Try.func45, Try.ntmps45
  go_wp2_with fail
  refine (r3Get_any w A n c l HL.out).mono ?_
  rintro e w1 ⟨rfl, hw⟩
  rw [hw]
  clear hw
  unfold gotV
  obtain ⟨G, hG⟩ : ∃ G, G = getL l := ⟨_, rfl⟩
  rw [← hG]
  obtain ⟨many, at0', e0⟩ := G
  by_cases he : e0 = 0
  · subst he
    have hg := getL_inv hG.symm
    obtain ⟨g1, g2, g3, g4, g5⟩ := hg
    by_cases hm : most < 0
    · have hres : getR l most = ([], 0, 2) := by
        unfold getR
        rw [← hG]
        simp only
        rw [if_neg (by simp), if_pos (.inl hm)]
      have HRES := Lib.hid hres
      have HG := Lib.hid hG
      clear hG hres g4
      have d1 : decide (most < 0) = true := by simpa using hm
      go_wp2
      go_ret3
      exact gerr HRES.out (Below.refl _ _)
    have d1 : decide (most < 0) = false := by simpa using hm
    have hwm : IntKind.u64.wrap most = most := by rw [IntKind.wrap_u64]; omega
    by_cases hmm : most < (many : Int)
    · have hres : getR l most = ([], 0, 2) := by
        unfold getR
        rw [← hG]
        simp only
        rw [if_neg (by simp), if_pos (.inr hmm)]
      have HRES := Lib.hid hres
      have HG := Lib.hid hG
      clear hG hres g4
      have d2 : decide (most < (many : Int)) = true := by simpa using hmm
      go_wp2
      go_ret3
      exact gerr HRES.out (Below.refl _ _)
    have d2 : decide (most < (many : Int)) = false := by simpa using hmm
    have hres : getR l most = getRAux many (-1) at0' (l.drop at0') [] := by
      unfold getR
      rw [← hG]
      simp only
      rw [if_neg (by simp), if_neg (by omega)]
    have HRES := Lib.hid hres
    have HG := Lib.hid hG
    clear hG hres g4
    have g3n : at0' ≤ n := by rw [← HLN.out]; exact g3
    go_wp2
    go_loopw [8, 10, 11, 12] (fun a v s i wr => ∃ (k at_ last : Nat) (acc : List Int), k ≤ many ∧ a = .int .i64 at_ ∧ s = .int .u64 last ∧ i = .int .u64 k ∧ at_ ≤ n ∧ last ≤ 9223372036854775807 ∧ acc.length = k ∧ k < at_ ∧ (k = 0 → last = 0) ∧
      getRAux (many - k) (if k = 0 then -1 else last) at_ (l.drop at_) acc = getR l most ∧ Below w.heap.size w wr ∧ wr.ownsRow w.heap.size 2 1 v acc.length (acc.map i64V)) (fun _ _ _ i _ => many - (intOf i).toNat)
    case atStart => exact ⟨0, at0', 0, [], by omega, rfl, rfl, rfl, g3n, by omega, rfl, g1, fun _ => rfl, by rw [HRES.out]; rfl, Below.refl _ _, ⟨rfl, .inl ⟨rfl, rfl⟩⟩⟩
    case round =>
      obtain ⟨k, at_, last, acc, hk, rfl, rfl, rfl, hat, hlast, hacc, hkat, hk0, hgr, hB, hO⟩ := hrel
      have HGR := Lib.hid hgr
      have HB := Lib.hid hB
      have HO := Lib.hid hO
      have HK0 := Lib.hid hk0
      have HACC := Lib.hid hacc
      clear hgr hB hO hk0 hacc
      obtain ⟨Av, cv, hv⟩ := own_slice HO.out
      subst hv
      rcases Nat.lt_or_ge k many with hlt | hge
      · have hlt' : (k : Int) < (many : Int) := by omega
        have s1 : ∀ w, (Instr.slice 26 (.slice A n c) (some (.int .i64 at_)) none none).run Try.prog w = .ok (.slice (cutAddr A at_ c) (n - at_) (c - at_)) w := fun w => slice_from w A n c at_ hat
        have hsub := (HL.out.below HB.out).sub hc at_ n hat (Nat.le_refl _)
        rw [show (l.take n).drop at_ = l.drop at_ by rw [List.take_of_length_le (by rw [HLN.out]; exact Nat.le_refl _)]] at hsub
        have HSUB := Lib.hid hsub
        clear hsub
        obtain ⟨v, j, e, hg⟩ : ∃ v j e, getL (l.drop at_) = (v, j, e) := ⟨_, _, _, rfl⟩
        obtain ⟨m, hm⟩ : ∃ m, many - k = m + 1 := ⟨many - k - 1, by omega⟩
        have hstep := HGR.out
        rw [hm] at hstep
        simp only [getRAux, hg] at hstep
        have HSTEP := Lib.hid hstep
        have HGG := Lib.hid hg
        have HM := Lib.hid hm
        clear hstep hg hm
        go_wp2_with fail
        refine (r3Get_any wr (cutAddr A at_ c) (n - at_) (c - at_) (l.drop at_) HSUB.out).mono ?_
        rintro e2 w2 ⟨rfl, hw⟩
        rw [hw, HGG.out]
        clear hw
        unfold gotV
        by_cases he : e = 0
        · subst he
          have hgi := getL_inv HGG.out
          obtain ⟨q1, q2, q3, q4, q5⟩ := hgi
          rw [List.length_drop, HLN.out] at q3
          clear q4
          have hstep := HSTEP.out
          rw [if_neg (by simp)] at hstep
          have hj : IntKind.i64.wrap ((at_ : Int) + (j : Int)) = ((at_ + j : Nat) : Int) := by rw [IntWalk.i64_in _ (by omega)]; simp
          obtain ⟨at2, hat2⟩ : ∃ a, a = at_ + j := ⟨_, rfl⟩
          rw [← hat2] at hj
          obtain ⟨T, hT⟩ : ∃ T : Nat, T = 9223372036854775807 - last := ⟨_, rfl⟩
          have hTz : IntKind.u64.wrap (9223372036854775807 - (last : Int)) = (T : Int) := by rw [IntKind.wrap_u64]; omega
          by_cases hkz : k = 0
          · have hk1 : ¬ (0 : Int) < (k : Int) := by omega
            have hk1n : ¬ 0 < k := by omega
            have hl0 := HK0.out hkz
            rw [if_pos hkz] at hstep
            by_cases hov : T < v
            · have hovz : (T : Int) < (v : Int) := by omega
              rw [if_pos (by omega)] at hstep
              have HS := Lib.hid hstep
              clear hstep hT hat2 hkz hl0
              go_wp2
              go_ret3
              exact gerr HS.out.symm HB.out
            · have hovz : ¬ (T : Int) < (v : Int) := by omega
              rw [if_neg (by omega)] at hstep
              obtain ⟨z, hz⟩ : ∃ z : Nat, z = last + v := ⟨_, rfl⟩
              have hzz : IntKind.u64.wrap ((last : Int) + (v : Int)) = (z : Int) := by rw [IntKind.wrap_u64]; omega
              have hzi : IntKind.i64.wrap (z : Int) = (z : Int) := IntWalk.i64_in _ (by omega)
              have hzm : z ≤ 9223372036854775807 := by omega
              have hat2n : at2 ≤ n := by omega
              have hka2 : k + 1 < at2 := by omega
              rw [show (-1 : Int) + (v : Int) + 1 = (z : Int) by omega, List.drop_drop, ← hat2] at hstep
              have HS := Lib.hid hstep
              have hal : acc.length ≤ 1099511627776 := by have := HACC.out; omega
              clear hstep hT hat2 hkz hz hl0
              go_wp2_with (at_builtin; refine wpList_append_src _ rfl (.tmp 68) (.tmp 71) 82 rfl w.heap.size 2 i0 (.int .i64 0) 8 Try.underlying82 hi hz0 hz1 hz2 rfl _ acc.length _ rfl (World.ownsRow.alloc HO.out _) _ 1 1 _ rfl (one_int_src wr 2 z) (i64V_one [(z : Int)]) (by unfold maxLen; omega) (by omega) (by have := HB.out.size; simp; omega) ?_; intro v3 w3 hown hgrow _; have HO3 := Lib.hid hown; have HB3 := Lib.hid ((HB.out.alloc HB.out.size _).grown hgrow (by have := HB.out.size; simp; omega) (fun g hg => (HO.out.lt g hg).1)); clear hown hgrow)
              go_roundw
              case rel =>
                refine ⟨k + 1, at2, z, acc ++ [(z : Int)], by omega, rfl, rfl, by go_num, by omega, by omega, by rw [List.length_append, HACC.out]; rfl, by omega, fun e => by omega, ?_, HB3.out, ?_⟩
                · rw [if_neg (by omega), show many - (k + 1) = m by have := HM.out; omega]
                  exact HS.out
                · rw [List.length_append, List.map_append]
                  exact HO3.out
              case measure => simp [intOf]; omega
          · have hk1 : (0 : Int) < (k : Int) := by omega
            have hk1n : 0 < k := by omega
            rw [if_neg hkz] at hstep
            by_cases hov : T ≤ v
            · have hovz : (T : Int) ≤ (v : Int) := by omega
              rw [if_pos (by omega)] at hstep
              have HS := Lib.hid hstep
              clear hstep hT hat2 hkz
              go_wp2
              go_ret3
              exact gerr HS.out.symm HB.out
            · have hovz : ¬ (T : Int) ≤ (v : Int) := by omega
              rw [if_neg (by omega)] at hstep
              obtain ⟨z, hz⟩ : ∃ z : Nat, z = last + v + 1 := ⟨_, rfl⟩
              obtain ⟨v1, hv1⟩ : ∃ u : Nat, u = v + 1 := ⟨_, rfl⟩
              have hv1z : IntKind.u64.wrap ((v : Int) + 1) = (v1 : Int) := by rw [IntKind.wrap_u64]; omega
              have hzz : IntKind.u64.wrap ((last : Int) + (v1 : Int)) = (z : Int) := by rw [IntKind.wrap_u64]; omega
              have hzi : IntKind.i64.wrap (z : Int) = (z : Int) := IntWalk.i64_in _ (by omega)
              have hzm : z ≤ 9223372036854775807 := by omega
              have hat2n : at2 ≤ n := by omega
              have hka2 : k + 1 < at2 := by omega
              rw [show (last : Int) + (v : Int) + 1 = (z : Int) by omega, List.drop_drop, ← hat2] at hstep
              have HS := Lib.hid hstep
              have hal : acc.length ≤ 1099511627776 := by have := HACC.out; omega
              clear hstep hT hat2 hkz hz hv1
              go_wp2_with (at_builtin; refine wpList_append_src _ rfl (.tmp 68) (.tmp 71) 82 rfl w.heap.size 2 i0 (.int .i64 0) 8 Try.underlying82 hi hz0 hz1 hz2 rfl _ acc.length _ rfl (World.ownsRow.alloc HO.out _) _ 1 1 _ rfl (one_int_src wr 2 z) (i64V_one [(z : Int)]) (by unfold maxLen; omega) (by omega) (by have := HB.out.size; simp; omega) ?_; intro v3 w3 hown hgrow _; have HO3 := Lib.hid hown; have HB3 := Lib.hid ((HB.out.alloc HB.out.size _).grown hgrow (by have := HB.out.size; simp; omega) (fun g hg => (HO.out.lt g hg).1)); clear hown hgrow)
              go_roundw
              case rel =>
                refine ⟨k + 1, at2, z, acc ++ [(z : Int)], by omega, rfl, rfl, by go_num, by omega, by omega, by rw [List.length_append, HACC.out]; rfl, by omega, fun e => by omega, ?_, HB3.out, ?_⟩
                · rw [if_neg (by omega), show many - (k + 1) = m by have := HM.out; omega]
                  exact HS.out
                · rw [List.length_append, List.map_append]
                  exact HO3.out
              case measure => simp [intOf]; omega
        · have hstep := HSTEP.out
          rw [if_pos he] at hstep
          have HS := Lib.hid hstep
          clear hstep
          go_wp2
          go_ret3
          exact gerr HS.out.symm HB.out
      · obtain rfl : k = many := by omega
        have hlz : ¬ ((k : Int) < (k : Int)) := by omega
        have hfin : getR l most = (acc, at_, 0) := by
          have := HGR.out
          rw [Nat.sub_self] at this
          exact this.symm
        have HF := Lib.hid hfin
        clear hfin
        go_wp2
        go_ret3
        exact gok HF.out HB.out HO.out
  · have hres : getR l most = ([], 0, e0) := by
      unfold getR
      rw [← hG]
      simp only
      rw [if_pos he]
    have HRES := Lib.hid hres
    have HG := Lib.hid hG
    clear hG hres
    go_wp2
    go_ret3
    exact gerr HRES.out (Below.refl _ _)
end Go.Proofs.Ythmjanhdjchdbaa
