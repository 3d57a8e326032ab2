/- The document's Check. -/
import Derived.Test.YtmhiekbpmoikfaaGreatDoorZp10
import Derived.Deep.QuietTactic
import Derived.Deep.DeepCutAuto
namespace Go.Proofs.YtmhiekbpmoikfaaGreatDoor
open Go.RowKit Go.Maps Go.WideMaps
set_option linter.unusedSimpArgs false

set_option maxHeartbeats 16000000 in
set_option maxRecDepth 100000 in
theorem r15Check_any (w : World) (m : Mf) (A : Option Addr) (n c : Nat) (h : RefsIn w A n m.refs) (hc : n ≤ c) :
    Calls Tryz.prog 17 #[.agg #[.int .i64 m.gen, .int .i64 m.next, .slice A n c]] w fun e w' => e = .returned (.int .i64 (mErr m)) ∧ Below w.heap.size w w' := by
  have HI := Lib.hid h
  have hn63 := h.fit
  unfold maxLen at hn63
  have HLN := Lib.hid h.len
  have HERR : Hid (¬ mTop m → mErr m = 1) := Lib.hid (fun hn => by unfold mErr; rw [if_neg (fun e => hn e.1)])
  have HTOP : Hid (mTop m ↔ (0 ≤ m.gen ∧ m.gen ≤ 1099511627776 ∧ 1 ≤ m.next ∧ m.next ≤ 1099511627776 ∧ n ≤ 24)) := Lib.hid (by unfold mTop maxNum; rw [h.len])
  obtain ⟨G, hG⟩ : ∃ G, G = m.gen := ⟨_, rfl⟩
  obtain ⟨X, hX⟩ : ∃ X, X = m.next := ⟨_, rfl⟩
  rw [← hG] at HTOP ⊢
  rw [← hX] at HTOP ⊢
  have HX := Lib.hid hX
  clear h hG hX
  obtain ⟨bm, hbm⟩ : ∃ b, b = w.heap.size := ⟨_, rfl⟩
  obtain ⟨w1, hw1⟩ : ∃ w1, w1 = w.alloc (.cells #[.int .i64 G, .int .i64 X, .slice A n c] 24) := ⟨_, rfl⟩
  have HK1 : Hid (Blk w1 bm 24 #[.int .i64 G, .int .i64 X, .slice A n c]) := Lib.hid (by rw [hw1, hbm]; exact Blk.new _ _ _)
  have HB1 : Hid (Below w.heap.size w w1) := Lib.hid (by rw [hw1]; exact (Below.refl _ w).alloc (Nat.le_refl _) _)
  have HW1 := Lib.hid hw1
  have HBM := Lib.hid hbm
  have HC1 : Hid (∀ u : World, Below w1.heap.size w1 u → u.cell? ⟨bm, 0, none⟩ = some (.int .i64 G) ∧ u.cell? ⟨bm, 1, none⟩ = some (.int .i64 X) ∧ u.cell? ⟨bm, 2, none⟩ = some (.slice A n c)) := Lib.hid (fun u hu => by
    have h1 := HK1.out.below hu HK1.out.lt
    exact ⟨h1.cell 0, h1.cell 1, h1.cell 2⟩)
  obtain ⟨k0, k1, k2⟩ := HC1.out w1 (Below.refl _ _)
  clear hw1 hbm
  go_enter Tryz.func17, Tryz.ntmps17
  go_upto_region 1 with fail
  rw [← HW1.out, ← HBM.out]
  by_cases t0 : G < 0
  · have HE := Lib.hid (HERR.out (fun hm => by have := HTOP.out.1 hm; omega))
    clear HI HLN HC1
    go_wp2
    go_ret
    exact ⟨by rw [HE.out]; rfl, HB1.out⟩
  by_cases t1 : (1099511627776 : Int) < G
  · have HE := Lib.hid (HERR.out (fun hm => by have := HTOP.out.1 hm; omega))
    clear HI HLN HC1
    go_wp2
    go_ret
    exact ⟨by rw [HE.out]; rfl, HB1.out⟩
  by_cases t2 : X < 1
  · have HE := Lib.hid (HERR.out (fun hm => by have := HTOP.out.1 hm; omega))
    clear HI HLN HC1
    go_wp2
    go_ret
    exact ⟨by rw [HE.out]; rfl, HB1.out⟩
  by_cases t3 : (1099511627776 : Int) < X
  · have HE := Lib.hid (HERR.out (fun hm => by have := HTOP.out.1 hm; omega))
    clear HI HLN HC1
    go_wp2
    go_ret
    exact ⟨by rw [HE.out]; rfl, HB1.out⟩
  by_cases t4 : (24 : Int) < (n : Int)
  · have HE := Lib.hid (HERR.out (fun hm => by have := HTOP.out.1 hm; omega))
    clear HI HLN HC1
    go_wp2
    go_ret
    exact ⟨by rw [HE.out]; rfl, HB1.out⟩
  have HTT : Hid (mTop m) := Lib.hid (HTOP.out.2 (by omega))
  have hn24 : n ≤ 24 := by omega
  clear HERR HTOP
  go_wp2
  go_loopw [3] (fun iv wr => ∃ (i : Nat), i ≤ n ∧ iv = .int .i64 i ∧ (∀ j, j < i → refOk m j) ∧ Below w1.heap.size w1 wr) (fun iv _ => n - (intOf iv).toNat)
  case atStart => exact ⟨0, by omega, rfl, (fun j hj => by omega), Below.refl _ _⟩
  case round =>
    obtain ⟨i, hi, rfl, hok, hb⟩ := hrel
    have HOK := Lib.hid hok
    have HB := Lib.hid hb
    obtain ⟨k0, k1, k2⟩ := HC1.out wr hb
    clear hok hb
    rcases Nat.lt_or_ge i n with hlt | hge
    · have hlt' : (i : Int) < (n : Int) := by omega
      have p0 : (0 : Int) ≤ (i : Int) := by omega
      have hw1 : IntKind.i64.wrap ((i : Int) + 1) = (i : Int) + 1 := IntWalk.i64_in _ (by omega)
      have HIr : Hid (RefsIn wr A n m.refs) := Lib.hid (HI.out.below (below_then HB1.out HB.out HB1.out.size))
      obtain ⟨r, hr⟩ : ∃ r, m.refs[i]? = some r := ⟨_, List.getElem?_eq_getElem (by rw [HLN.out]; exact hlt)⟩
      obtain ⟨pa, rfl, -, c0, c1, c2, c3, b0, b1, b2, b3⟩ := HIr.out.at_ i r hr
      have HGD : Hid (m.refs.getD i refZ = r) := Lib.hid (by rw [List.getD_eq_getElem?_getD, hr]; rfl)
      obtain ⟨a, ha⟩ : ∃ a, a = r.num := ⟨_, rfl⟩
      obtain ⟨b, hb⟩ : ∃ b, b = r.docs := ⟨_, rfl⟩
      obtain ⟨v, hv⟩ : ∃ v, v = r.level := ⟨_, rfl⟩
      obtain ⟨d, hd⟩ : ∃ d, d = r.dels := ⟨_, rfl⟩
      rw [← ha] at c0 b0
      rw [← hb] at c1 b1
      rw [← hv] at c2 b2
      rw [← hd] at c3 b3
      have HREF : Hid (refOk m i ↔ ((1 ≤ a ∧ a < X ∧ (0 < i → (m.refs.getD (i - 1) refZ).num < a) ∧ 0 ≤ b ∧ b ≤ 64 ∧ 0 ≤ v ∧ v ≤ 16) ∧ (0 ≤ d ∧ d < X ∧ d ≠ a ∧ knownL (m.refs.take i) a = false ∧ (d ≤ 0 ∨ knownL (m.refs.take i) d = false)))) := Lib.hid (by unfold refOk; rw [HGD.out, HX.out, ha, hb, hv, hd])
      have HBAD : Hid (¬ refOk m i → mErr m = 1) := Lib.hid (fun hn => by unfold mErr; rw [if_neg (fun e => hn (e.2 i (by rw [HLN.out]; exact hlt)))])
      clear hr ha hb hv hd
      obtain ⟨wo, hwo⟩ : ∃ zz, zz = wr := ⟨_, rfl⟩
      subst hwo
      go_upto_region 7 with fail
      obtain ⟨br, hbr⟩ : ∃ z, z = wo.heap.size := ⟨_, rfl⟩
      obtain ⟨w2, hw2⟩ : ∃ z, z = wo.alloc (.cells #[.int .i64 a, .int .i64 b, .int .i64 v, .int .i64 d] 88) := ⟨_, rfl⟩
      have HKR : Hid (Blk w2 br 88 #[.int .i64 a, .int .i64 b, .int .i64 v, .int .i64 d]) := Lib.hid (by rw [hw2, hbr]; exact Blk.new _ _ _)
      have HB2 : Hid (Below w1.heap.size w1 w2) := Lib.hid (by rw [hw2]; exact HB.out.alloc HB.out.size _)
      have HI2 : Hid (RefsIn w2 (some pa) n m.refs) := Lib.hid (by rw [hw2]; exact HIr.out.below ((Below.refl _ wo).alloc (Nat.le_refl _) _))
      rw [← hw2, ← hbr]
      clear hw2 hbr c0 c1 c2 c3 k0 k1 k2
      obtain ⟨k0, k1, k2⟩ := HC1.out w2 HB2.out
      have r0 := HKR.out.cell 0
      have r1 := HKR.out.cell 1
      have r2 := HKR.out.cell 2
      have r3 := HKR.out.cell 3
      simp only [List.getElem?_toArray, List.getElem?_cons_zero, List.getElem?_cons_succ] at r0 r1 r2 r3
      have K1 : ∀ q, (w2.drewN q).cell? ⟨bm, 1, none⟩ = some (.int .i64 X) := fun _ => k1
      have K2 : ∀ q, (w2.drewN q).cell? ⟨bm, 2, none⟩ = some (.slice (some pa) n c) := fun _ => k2
      have R0 : ∀ q, (w2.drewN q).cell? ⟨br, 0, none⟩ = some (.int .i64 a) := fun _ => r0
      have R1 : ∀ q, (w2.drewN q).cell? ⟨br, 1, none⟩ = some (.int .i64 b) := fun _ => r1
      have R2 : ∀ q, (w2.drewN q).cell? ⟨br, 2, none⟩ = some (.int .i64 v) := fun _ => r2
      have R3 : ∀ q, (w2.drewN q).cell? ⟨br, 3, none⟩ = some (.int .i64 d) := fun _ => r3
      obtain ⟨tb, htb⟩ : ∃ tb : Bool, tb = decide (¬ (1 ≤ a ∧ a < X ∧ (0 < i → (m.refs.getD (i - 1) refZ).num < a) ∧ 0 ≤ b ∧ b ≤ 64 ∧ 0 ≤ v ∧ v ≤ 16)) := ⟨_, rfl⟩
      have HTB := Lib.hid htb
      clear htb k0 k1 k2 r0 r1 r2 r3
      go_cut [86] (fun z wx => z = .bool tb ∧ ∃ q, wx = w2.drewN q)
      case first =>
        obtain ⟨pv, hpv⟩ : ∃ pv, pv = (m.refs.getD (i - 1) refZ).num := ⟨_, rfl⟩
        rw [← hpv] at HTB
        rcases Nat.eq_zero_or_pos i with hi0 | hi0
        · have d0 : decide (0 < i) = false := decide_eq_false (by omega)
          have d0' : decide ((0 : Int) < (i : Int)) = false := decide_eq_false (by omega)
          have HI0 := Lib.hid hi0
          clear HIr HI2 hpv hi0
          by_cases e0 : a < 1
          · have f0 : decide (a < 1) = true := decide_eq_true e0
            obtain rfl : tb = true := by rw [HTB.out]; exact decide_eq_true (fun hh => by have := HI0.out; omega)
            clear HTB
            go_wp2
            go_quiet (fail)
            go_wp2_with fail
            go_meet
            case rel => exact ⟨rfl, _, rfl⟩
          have f0 : decide (a < 1) = false := decide_eq_false e0
          by_cases e1 : X ≤ a
          · have f1 : decide (X ≤ a) = true := decide_eq_true e1
            obtain rfl : tb = true := by rw [HTB.out]; exact decide_eq_true (fun hh => by have := HI0.out; omega)
            clear HTB
            go_wp2
            go_quiet (fail)
            go_wp2_with fail
            go_meet
            case rel => exact ⟨rfl, _, rfl⟩
          have f1 : decide (X ≤ a) = false := decide_eq_false e1
          by_cases e2 : b < 0
          · have f2 : decide (b < 0) = true := decide_eq_true e2
            obtain rfl : tb = true := by rw [HTB.out]; exact decide_eq_true (fun hh => by have := HI0.out; omega)
            clear HTB
            go_wp2
            go_quiet (fail)
            go_wp2_with fail
            go_meet
            case rel => exact ⟨rfl, _, rfl⟩
          have f2 : decide (b < 0) = false := decide_eq_false e2
          by_cases e3 : 64 < b
          · have f3 : decide (64 < b) = true := decide_eq_true e3
            obtain rfl : tb = true := by rw [HTB.out]; exact decide_eq_true (fun hh => by have := HI0.out; omega)
            clear HTB
            go_wp2
            go_quiet (fail)
            go_wp2_with fail
            go_meet
            case rel => exact ⟨rfl, _, rfl⟩
          have f3 : decide (64 < b) = false := decide_eq_false e3
          by_cases e4 : v < 0
          · have f4 : decide (v < 0) = true := decide_eq_true e4
            obtain rfl : tb = true := by rw [HTB.out]; exact decide_eq_true (fun hh => by have := HI0.out; omega)
            clear HTB
            go_wp2
            go_quiet (fail)
            go_wp2_with fail
            go_meet
            case rel => exact ⟨rfl, _, rfl⟩
          have f4 : decide (v < 0) = false := decide_eq_false e4
          by_cases e5 : 16 < v
          · have f5 : decide (16 < v) = true := decide_eq_true e5
            obtain rfl : tb = true := by rw [HTB.out]; exact decide_eq_true (fun hh => by have := HI0.out; omega)
            clear HTB
            go_wp2
            go_quiet (fail)
            go_wp2_with fail
            go_meet
            case rel => exact ⟨rfl, _, rfl⟩
          have f5 : decide (16 < v) = false := decide_eq_false e5
          obtain rfl : tb = false := by rw [HTB.out]; exact decide_eq_false (fun hh => hh (by refine ⟨by omega, by omega, fun _ => by have := HI0.out; omega, by omega, by omega, by omega, by omega⟩))
          clear HTB
          go_wp2
          go_quiet (fail)
          go_wp2_with fail
          go_meet
          case rel => exact ⟨rfl, _, rfl⟩
        · have d0 : decide (0 < i) = true := decide_eq_true hi0
          have d0' : decide ((0 : Int) < (i : Int)) = true := decide_eq_true (by omega)
          obtain ⟨rp, hrp⟩ : ∃ r, m.refs[i - 1]? = some r := ⟨_, List.getElem?_eq_getElem (by rw [HLN.out]; omega)⟩
          obtain ⟨pb, hpb, -, q0, -, -, -, -⟩ := HI2.out.at_ (i - 1) rp hrp
          obtain rfl := Option.some.inj hpb
          rw [show rp.num = pv by rw [hpv, List.getD_eq_getElem?_getD, hrp]; rfl] at q0
          have hsub : IntKind.i64.wrap ((i : Int) - 1) = ((i - 1 : Nat) : Int) := by rw [show (i : Int) - 1 = ((i - 1 : Nat) : Int) by omega]; exact IntWalk.i64_in _ (by omega)
          obtain ⟨i1, hi1⟩ : ∃ i1, i1 = i - 1 := ⟨_, rfl⟩
          rw [← hi1] at q0 hsub
          have j0 : (0 : Int) ≤ (i1 : Int) := by omega
          have j1 : (i1 : Int) < (n : Int) := by omega
          have Q0 : ∀ q, (w2.drewN q).cell? (pa.add (i1 * 4)) = some (.int .i64 pv) := fun _ => q0
          clear HIr HI2 hpv hrp q0 hi1
          by_cases e0 : a < 1
          · have f0 : decide (a < 1) = true := decide_eq_true e0
            obtain rfl : tb = true := by rw [HTB.out]; exact decide_eq_true (fun hh => by omega)
            clear HTB
            go_wp2
            go_quiet (fail)
            go_wp2_with fail
            go_meet
            case rel => exact ⟨rfl, _, rfl⟩
          have f0 : decide (a < 1) = false := decide_eq_false e0
          by_cases e1 : X ≤ a
          · have f1 : decide (X ≤ a) = true := decide_eq_true e1
            obtain rfl : tb = true := by rw [HTB.out]; exact decide_eq_true (fun hh => by omega)
            clear HTB
            go_wp2
            go_quiet (fail)
            go_wp2_with fail
            go_meet
            case rel => exact ⟨rfl, _, rfl⟩
          have f1 : decide (X ≤ a) = false := decide_eq_false e1
          by_cases e2 : a ≤ pv
          · have f2 : decide (a ≤ pv) = true := decide_eq_true e2
            obtain rfl : tb = true := by rw [HTB.out]; exact decide_eq_true (fun hh => by omega)
            clear HTB
            go_wp2
            go_quiet (fail)
            go_wp2_with fail
            go_meet
            case rel => exact ⟨rfl, _, rfl⟩
          have f2 : decide (a ≤ pv) = false := decide_eq_false e2
          by_cases e3 : b < 0
          · have f3 : decide (b < 0) = true := decide_eq_true e3
            obtain rfl : tb = true := by rw [HTB.out]; exact decide_eq_true (fun hh => by omega)
            clear HTB
            go_wp2
            go_quiet (fail)
            go_wp2_with fail
            go_meet
            case rel => exact ⟨rfl, _, rfl⟩
          have f3 : decide (b < 0) = false := decide_eq_false e3
          by_cases e4 : 64 < b
          · have f4 : decide (64 < b) = true := decide_eq_true e4
            obtain rfl : tb = true := by rw [HTB.out]; exact decide_eq_true (fun hh => by omega)
            clear HTB
            go_wp2
            go_quiet (fail)
            go_wp2_with fail
            go_meet
            case rel => exact ⟨rfl, _, rfl⟩
          have f4 : decide (64 < b) = false := decide_eq_false e4
          by_cases e5 : v < 0
          · have f5 : decide (v < 0) = true := decide_eq_true e5
            obtain rfl : tb = true := by rw [HTB.out]; exact decide_eq_true (fun hh => by omega)
            clear HTB
            go_wp2
            go_quiet (fail)
            go_wp2_with fail
            go_meet
            case rel => exact ⟨rfl, _, rfl⟩
          have f5 : decide (v < 0) = false := decide_eq_false e5
          by_cases e6 : 16 < v
          · have f6 : decide (16 < v) = true := decide_eq_true e6
            obtain rfl : tb = true := by rw [HTB.out]; exact decide_eq_true (fun hh => by omega)
            clear HTB
            go_wp2
            go_quiet (fail)
            go_wp2_with fail
            go_meet
            case rel => exact ⟨rfl, _, rfl⟩
          have f6 : decide (16 < v) = false := decide_eq_false e6
          obtain rfl : tb = false := by rw [HTB.out]; exact decide_eq_false (fun hh => hh (by refine ⟨by omega, by omega, fun _ => by omega, by omega, by omega, by omega, by omega⟩))
          clear HTB
          go_wp2
          go_quiet (fail)
          go_wp2_with fail
          go_meet
          case rel => exact ⟨rfl, _, rfl⟩
      case rest =>
        obtain ⟨rfl, q0, hq0⟩ := hcut
        have K0c : Hid (∀ q, (wc.drewN q).cell? ⟨bm, 0, none⟩ = some (.int .i64 G)) := Lib.hid (fun q => by rw [hq0]; exact (HC1.out w2 HB2.out).1)
        have K1c : ∀ q, (wc.drewN q).cell? ⟨bm, 1, none⟩ = some (.int .i64 X) := fun q => by rw [hq0]; exact K1 0
        have K2c : ∀ q, (wc.drewN q).cell? ⟨bm, 2, none⟩ = some (.slice (some pa) n c) := fun q => by rw [hq0]; exact K2 0
        have R0c : ∀ q, (wc.drewN q).cell? ⟨br, 0, none⟩ = some (.int .i64 a) := fun q => by rw [hq0]; exact R0 0
        have R3c : ∀ q, (wc.drewN q).cell? ⟨br, 3, none⟩ = some (.int .i64 d) := fun q => by rw [hq0]; exact R3 0
        have HB3 : Hid (Below w1.heap.size w1 wc) := Lib.hid (by rw [hq0]; exact below_drewN HB2.out q0)
        have HBC := Lib.hid (below_then HB1.out HB3.out HB1.out.size)
        have HIc : Hid (∀ q, RefsIn (wc.drewN q) (some pa) i (m.refs.take i)) := Lib.hid (fun q => by rw [hq0]; exact ((HI2.out.below (below_drewN (below_drewN (Below.refl _ _) q0) q)).upto (Nat.le_of_lt hlt)))
        clear hq0 K1 K2 R0 R1 R2 R3 HI2 HIr
        cases tb with
        | true =>
          have HE := Lib.hid (HBAD.out (fun hh => (of_decide_eq_true HTB.out.symm) (HREF.out.1 hh).1))
          clear HREF HBAD HTB
          go_wp2
          go_ret
          exact ⟨by rw [HE.out]; rfl, HBC.out⟩
        | false =>
          have HTF := Lib.hid (Decidable.of_not_not (of_decide_eq_false HTB.out.symm))
          have hsl : ∀ u : World, (Instr.slice 22 (.slice (some pa) n c) none (some (.int .i64 i)) none).run Tryz.prog u = .ok (.slice (some pa) i c) u := fun u => refs_to u (some pa) n c i (by omega)
          obtain ⟨T, hT⟩ : ∃ T, T = m.refs.take i := ⟨_, rfl⟩
          have HKN : Hid (∀ q x, Calls Tryz.prog 68 #[.slice (some pa) i c, .int .i64 x] (wc.drewN q) fun e w' => e = .returned (.bool (knownL T x)) ∧ ∃ p, w' = wc.drewN p) := Lib.hid (fun q x => by
            rw [hT]
            refine (r15known_any _ _ i c _ (HIc.out q) x).mono ?_
            rintro e w' ⟨rfl, rfl⟩
            exact ⟨rfl, q, rfl⟩)
          rw [← hT] at HREF
          clear hT HIc HTB
          by_cases e0 : d < 0
          · have f0 : decide (d < 0) = true := decide_eq_true e0
            have HE := Lib.hid (HBAD.out (fun hh => by have := (HREF.out.1 hh).2; omega))
            clear HREF HBAD
            go_wp2
            go_quiet (first | (go_at_call 68; exact HKN.out _ _))
            go_wp2
            go_ret
            exact ⟨by rw [HE.out]; rfl, below_drewN HBC.out _⟩
          have f0 : decide (d < 0) = false := decide_eq_false e0
          by_cases e1 : X ≤ d
          · have f1 : decide (X ≤ d) = true := decide_eq_true e1
            have HE := Lib.hid (HBAD.out (fun hh => by have := (HREF.out.1 hh).2; omega))
            clear HREF HBAD
            go_wp2
            go_quiet (first | (go_at_call 68; exact HKN.out _ _))
            go_wp2
            go_ret
            exact ⟨by rw [HE.out]; rfl, below_drewN HBC.out _⟩
          have f1 : decide (X ≤ d) = false := decide_eq_false e1
          cases e2 : (d == a) with
          | true =>
            have HE := Lib.hid (HBAD.out (fun hh => by exact (HREF.out.1 hh).2.2.2.1 (by simpa using e2)))
            clear HREF HBAD
            go_wp2
            go_quiet (first | (go_at_call 68; exact HKN.out _ _))
            go_wp2
            go_ret
            exact ⟨by rw [HE.out]; rfl, below_drewN HBC.out _⟩
          | false =>
            cases e3 : knownL T a with
            | true =>
              have HE := Lib.hid (HBAD.out (fun hh => by have h1 := (HREF.out.1 hh).2.2.2.2.1; rw [e3] at h1; cases h1))
              clear HREF HBAD
              go_wp2
              go_quiet (first | (go_at_call 68; exact HKN.out _ _))
              go_wp2
              go_ret
              exact ⟨by rw [HE.out]; rfl, below_drewN HBC.out _⟩
            | false =>
              by_cases e4 : 0 < d
              · have f4 : decide (0 < d) = true := decide_eq_true e4
                cases e5 : knownL T d with
                | true =>
                  have HE := Lib.hid (HBAD.out (fun hh => by have h1 := (HREF.out.1 hh).2.2.2.2.2; rw [e5] at h1; exact h1.elim (fun h => by omega) (fun h => by cases h)))
                  clear HREF HBAD
                  go_wp2
                  go_quiet (first | (go_at_call 68; exact HKN.out _ _))
                  go_wp2
                  go_ret
                  exact ⟨by rw [HE.out]; rfl, below_drewN HBC.out _⟩
                | false =>
                  have KD5 : d ≤ 0 ∨ knownL T d = false := .inr e5
                  have HKD5 := Lib.hid KD5
                  clear KD5
                  have HREFOK : Hid (refOk m i) := Lib.hid (HREF.out.2 ⟨HTF.out, by omega, by omega, by simpa using e2, e3, HKD5.out⟩)
                  clear HREF HBAD HKD5
                  go_wp2
                  go_quiet (first | (go_at_call 68; exact HKN.out _ _))
                  go_wp2
                  go_roundw
                  case rel =>
                    refine ⟨i + 1, by omega, by go_num, fun j hj => ?_, below_drewN HB3.out _⟩
                    rcases Nat.lt_or_ge j i with h | h
                    · exact HOK.out j h
                    · obtain rfl : j = i := by omega
                      exact HREFOK.out
                  case measure => simp [intOf]; omega
              · have f4 : decide (0 < d) = false := decide_eq_false e4
                have HKD5 : Hid (d ≤ 0 ∨ knownL T d = false) := Lib.hid (.inl (by omega))
                have HREFOK : Hid (refOk m i) := Lib.hid (HREF.out.2 ⟨HTF.out, by omega, by omega, by simpa using e2, e3, HKD5.out⟩)
                clear HREF HBAD HKD5
                go_wp2
                go_quiet (first | (go_at_call 68; exact HKN.out _ _))
                go_wp2
                go_roundw
                case rel =>
                  refine ⟨i + 1, by omega, by go_num, fun j hj => ?_, below_drewN HB3.out _⟩
                  rcases Nat.lt_or_ge j i with h | h
                  · exact HOK.out j h
                  · obtain rfl : j = i := by omega
                    exact HREFOK.out
                case measure => simp [intOf]; omega
    · have hlz : ¬ ((i : Int) < (n : Int)) := by omega
      have HE : Hid (mErr m = 0) := Lib.hid (by unfold mErr; rw [if_pos ⟨HTT.out, fun j hj => HOK.out j (by rw [HLN.out] at hj; omega)⟩])
      have HBF := Lib.hid (below_then HB1.out HB.out HB1.out.size)
      go_wp2
      go_ret
      exact ⟨by rw [HE.out]; rfl, HBF.out⟩
end Go.Proofs.YtmhiekbpmoikfaaGreatDoor
