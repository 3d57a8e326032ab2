/- The law CursorReads. -/
import Derived.Test.YthmjanhdjchdbaaCuLaw0
import Derived.Lib.MinMax
namespace Go.Proofs.Ythmjanhdjchdbaa
open Go.RowKit Go.Maps Go.WideMaps
set_option linter.unusedSimpArgs false

theorem stand_reads (s : CSt) : (cStand s).read ≤ s.read + 1 := by
  unfold cStand
  split
  · exact Nat.le_refl _
  · omega
theorem skip_reads (s : CSt) (d : Int) : (cSkip s d).read ≤ s.read + 1 := stand_reads _
theorem start_reads (l : List Pst) : (cStart l).read = min 1 l.length := by
  unfold cStart cStand
  by_cases h : 0 < l.length
  · rw [if_pos ⟨h, by simp⟩]
    simp only
    omega
  · rw [if_neg (fun h2 => h h2.1)]
    simp only
    omega
theorem CWF.reads {s : CSt} (h : CWF s) : s.read ≤ (s.l.length + 3) / 4 := by
  have h1 := h.read
  have h2 := h.end_
  omega

set_option maxHeartbeats 16000000 in
set_option maxRecDepth 100000 in
theorem cursorReads_any {K : World → (Nat → Prop) → Nat → CSt → Prop} (hK : CursorOk K) (W : World) (A : Option Addr) (n c : Nat) (l : List Pst) (hl : PostsSz W A n l) (d : Int) (hd : fits64 d) :
    Calls Try.prog 6 #[.slice A n c, .int .i64 d] W fun e w' => e = .returned (.bool true) ∧ Below W.heap.size W w' := by
  have hep := eqCurNil
  have HK := Lib.hid hK
  have HH := Lib.hid (cuHead_any hK W)
  have HL := Lib.hid hl
  have hll := hl.1.len
  have HLN := Lib.hid hll
  have hn63 : n ≤ 140737488351232 := hl.2.2
  clear hl hK hll
  go_enter Try.func6, Try.ntmps6
  go_wp2_with fail
  refine HH.out.mono ?_
  rintro e w1 ⟨rfl, hb1⟩
  have HB1 := Lib.hid hb1
  obtain ⟨Z, hZ⟩ : ∃ Z, putE l = Z := ⟨_, rfl⟩
  have HZ := Lib.hid hZ
  have HCB := Lib.hid (cuBytes_any w1 A n c l (HL.out.1.below hb1) (by omega) hZ)
  have hzl : Z.length ≤ 368803860 := by rw [← hZ]; exact putE_len (fit_of HL.out.1)
  clear hb1 hZ
  go_wp2_with fail
  refine HCB.out.mono ?_
  rintro e w2 ⟨X, cx, rfl, hi2, hcx, -, hb2⟩
  have HB2 := Lib.hid (below_then HB1.out hb2 HB1.out.size)
  have HI2 := Lib.hid hi2
  have HG := Lib.hid (cuGreat_any w2 A n c l (HL.out.1.below HB2.out) HL.out.2.2 HL.out.2.1)
  clear hb2 hi2 HCB
  go_wp2_with fail
  refine HG.out.mono ?_
  rintro e w3 ⟨r, rfl, hw3, hr⟩
  rw [hw3]
  clear hw3
  cases r with
  | true =>
    clear hr
    go_wp2
    go_ret
    exact ⟨rfl, HB2.out⟩
  | false =>
    obtain ⟨hn2, hx2⟩ := hr rfl
    have hn4 : n < 10000 := by omega
    clear hr
    by_cases hz0 : Z.length = 0
    · have d1 : ((Z.length : Int) == 0) = true := by simpa using hz0
      have d1n : (Z.length == 0) = true := by simpa using hz0
      clear hz0 hx2 hn2
      go_wp2
      go_ret
      exact ⟨rfl, HB2.out⟩
    · have d1 : ((Z.length : Int) == 0) = false := beq_eq_false_iff_ne.2 (by omega)
      have d1n : (Z.length == 0) = false := beq_eq_false_iff_ne.2 (by omega)
      have HGG := Lib.hid (has_bytes (fit_of HL.out.1) HZ.out (by omega))
      clear hz0 hx2 hn2
      have HN := Lib.hid (cur_new HK.out HB2.out HI2.out hcx (by omega) HGG.out)
      go_wp2_with fail
      refine HN.out.mono ?_
      rintro e w4 ⟨b, F, rfl, hcu, -, -⟩
      have HC4 := Lib.hid hcu
      clear hcu HN
      obtain ⟨r0, hr0⟩ : ∃ r0, r0 = (cStart l).read := ⟨_, rfl⟩
      have hr0n : r0 = min 1 n := by rw [hr0, start_reads, HLN.out]
      have HC := Lib.hid (cur_reads HK.out HC4.out)
      rw [← hr0] at HC
      have HR0 := Lib.hid hr0
      have HR0N := Lib.hid hr0n
      clear hr0 hr0n
      go_wp2_with fail
      refine HC.out.mono ?_
      rintro e w5 ⟨rfl, hb5⟩
      have HC5 := Lib.hid (HC4.out.later HK.out hb5)
      clear hb5 HC
      go_wp2_with fail
      refine (cur_skip HK.out HC5.out d hd).mono ?_
      rintro e w6 ⟨rfl, F6, hc6, -, -⟩
      have HC6 := Lib.hid hc6
      obtain ⟨r1, hr1⟩ : ∃ r1, r1 = (cSkip (cStart l) d).read := ⟨_, rfl⟩
      have hr1n : r1 ≤ r0 + 1 := by rw [hr1, HR0.out]; exact skip_reads _ _
      have HC := Lib.hid (cur_reads HK.out HC6.out)
      rw [← hr1] at HC
      clear hc6 hr1
      go_wp2_with fail
      refine HC.out.mono ?_
      rintro e w7 ⟨rfl, hb7⟩
      have HC7 := Lib.hid (HC6.out.later HK.out hb7)
      clear hb7 HC
      go_wp2
      go_loopw [11] (fun i wr => ∃ (k : Nat) (F' : Nat → Prop) (s' : CSt), k ≤ n + 1 ∧ i = .int .i64 k ∧ Cur K W wr F' b s' l) (fun i _ => n + 1 - (Go.RowKit.intOf i).toNat)
      case atStart => exact ⟨0, F6, _, by omega, rfl, HC7.out⟩
      case round =>
        obtain ⟨k, F', s', hk, rfl, hcu⟩ := hrel
        have HCU := Lib.hid hcu
        clear hcu
        rcases Nat.lt_or_ge n k with hgt | hle
        · have d2 : decide ((k : Int) ≤ (n : Int)) = false := decide_eq_false (by omega)
          have hkk : ¬ (k : Int) ≤ (n : Int) := by omega
          obtain ⟨r2, hr2⟩ : ∃ r2, r2 = s'.read := ⟨_, rfl⟩
          have hr2n : r2 ≤ (n + 3) / 4 := by rw [hr2]; have := HCU.out.wf.reads; rw [HCU.out.same, HLN.out] at this; exact this
          have HC := Lib.hid (cur_reads HK.out HCU.out)
          rw [← hr2] at HC
          obtain ⟨Q, hQ⟩ : ∃ Q, Q = (n + 3) / 4 := ⟨_, rfl⟩
          rw [← hQ] at hr2n
          have hw1 : IntKind.i64.wrap ((n : Int) + 4) = (n : Int) + 4 := IntWalk.i64_in _ (by omega)
          have hw2 : IntKind.i64.wrap ((n : Int) + 4 - 1) = ((n + 3 : Nat) : Int) := by rw [IntWalk.i64_in _ (by omega)]; push_cast; omega
          have hq : ((n + 3 : Nat) : Int) / 4 = (Q : Int) := by omega
          have hq2 : ((n : Int) + 3) / 4 = (Q : Int) := by omega
          have hmin : ∀ w ty, (Builtin.min_ #[3, 3] ty #[.int .i64 1, .int .i64 (n : Int)]).run Try.prog w = .ok (.int .i64 (r0 : Int)) w := fun w ty => by
            rw [Lib.run_min_ints, show min (1 : Int) (n : Int) = (r0 : Int) by have := HR0N.out; omega]
          have hw3 : IntKind.i64.wrap ((r0 : Int) + 1) = (r0 : Int) + 1 := IntWalk.i64_in _ (by have := HR0N.out; omega)
          have d3 : ((r0 : Int) == (r0 : Int)) = true := by simp
          have d4 : decide (r1 ≤ r0 + 1) = true := decide_eq_true hr1n
          have d4z : decide ((r1 : Int) ≤ (r0 : Int) + 1) = true := decide_eq_true (by omega)
          have d5 : decide (r2 ≤ Q) = true := decide_eq_true hr2n
          have d5z : decide ((r2 : Int) ≤ (Q : Int)) = true := decide_eq_true (by omega)
          clear hr2 hQ
          go_wp2_with fail
          refine HC.out.mono ?_
          rintro e w8 ⟨rfl, hb8⟩
          have HB8 := Lib.hid (HCU.out.later HK.out hb8).below
          clear hb8 HC
          go_wp2
          go_ret
          exact ⟨rfl, HB8.out⟩
        · have d2 : decide ((k : Int) ≤ (n : Int)) = true := decide_eq_true (by omega)
          have hkk : (k : Int) ≤ (n : Int) := by omega
          have hw1 : IntKind.i64.wrap ((k : Int) + 1) = (k : Int) + 1 := IntWalk.i64_in _ (by omega)
          go_wp2_with fail
          refine (cur_next HK.out HCU.out).mono ?_
          rintro e w8 ⟨rfl, F8, hc8, -, -⟩
          have HC8 := Lib.hid hc8
          clear hc8
          go_wp2
          go_roundw
          case rel => exact ⟨k + 1, F8, _, by omega, by go_num, HC8.out⟩
          case measure => simp [Go.RowKit.intOf]; omega
end Go.Proofs.Ythmjanhdjchdbaa
