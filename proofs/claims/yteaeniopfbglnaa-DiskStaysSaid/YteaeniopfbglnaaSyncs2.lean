/- DiskSyncs is answered with true. -/
import Derived.Test.YteaeniopfbglnaaSyncs
namespace Go.Proofs.Yteaeniopfbglnaa
open Go.RowKit Go.Maps Go.WideMaps

theorem okOne : okName nOne = true := by decide
theorem okTwo : okName nTwo = true := by decide
theorem okThree : okName nThree = true := by decide

set_option maxHeartbeats 8000000 in
set_option maxRecDepth 100000 in
theorem syncs_early (w : World) (A B C : Option Addr) (n m k ca cb cc : Nat) (acts : Int) (hn : n ≤ maxLen) (hm : m ≤ maxLen) (hk : k ≤ maxLen) (hbig : 10000 < n ∨ 10000 < m ∨ 200 < k) :
    Calls Try.prog 10 #[.slice A n ca, .slice B m cb, .agg #[.int .i64 acts, .slice C k cc]] w fun e w' => e = .returned (.bool true) ∧ Below w.heap.size w w' := by
  unfold maxLen at hn hm hk
  obtain ⟨w1, hw1⟩ : ∃ w1, w1 = w.alloc (.cells #[.int .i64 acts, .slice C k cc] 36) := ⟨_, rfl⟩
  have hbx : Blk w1 w.heap.size 36 #[.int .i64 acts, .slice C k cc] := by rw [hw1]; exact Blk.new _ _ _
  have hb1 : Below w.heap.size w w1 := by rw [hw1]; exact (Below.refl _ _).alloc (Nat.le_refl _) _
  have HH := Lib.hid (fun W => head_any W)
  have HBX := Lib.hid hbx
  have HB1 := Lib.hid hb1
  have HW1 := Lib.hid hw1
  clear hbx hb1
  go_enter Try.func10, Try.ntmps10
  go_wp2_with fail
  refine calls_at fun W hW => ?_
  obtain rfl : W = w1 := hW.trans HW1.out.symm
  refine (HH.out W).mono ?_
  rintro e w2 ⟨rfl, hb2⟩
  have hB2 := HBX.out.below hb2 HBX.out.lt
  have HB2 := Lib.hid (HB1.out.trans (hb2.mono HB1.out.size))
  go_wp2_with fail
  refine (New_any w2 1048576 (by omega)).mono ?_
  rintro e w3 ⟨rfl, hD3, hb3⟩
  have hB3 := hB2.below hb3 hB2.lt
  have HB3 := Lib.hid (HB2.out.trans (hb3.mono HB2.out.size))
  have c1 := hB3.cell 1
  simp at c1
  unfold at0
  have hE : (10000 < (n : Int)) ∨ (10000 < (m : Int)) ∨ (200 < (k : Int)) := by omega
  rcases hE with h1 | h1 | h1
  · go_wp2
    go_ret
    exact ⟨rfl, HB3.out⟩
  · by_cases h0 : 10000 < (n : Int) <;>
    · go_wp2
      go_ret
      exact ⟨rfl, HB3.out⟩
  · by_cases h0 : 10000 < (n : Int) <;> by_cases h2 : 10000 < (m : Int) <;>
    · go_wp2
      go_ret
      exact ⟨rfl, HB3.out⟩

/-- What is fresh lies apart from what came in. -/
theorem away {w w1 W : World} {F : Nat → Prop} {b : Nat} {s : St} {A : Option Addr} {n : Nat} {bs : Nm} (M : Mine w1 W F b s) (h1 : w.heap.size ≤ w1.heap.size) (hA : BytesIn w A n bs) : ∀ ad, A = some ad → 0 < n → ad.block < W.heap.size ∧ ¬ F ad.block := fun ad e hn => by
  have h2 := hA.2.2 ad e hn
  have h3 := M.below.size
  exact ⟨by omega, fun hf => by have := M.new _ hf; omega⟩
theorem srcIn {w W : World} {A : Option Addr} {n : Nat} {bs : Nm} (hA : BytesIn w A n bs) (hb : Below w.heap.size w W) : Src W A n (bs.map u8) :=
  hA.2.1.keep fun ad e hn => hb.block _ (hA.2.2 ad e hn)

theorem below_dn {B : Nat} (w : World) (n : Nat) : Below B w (w.drewN n) := ⟨rfl, rfl, rfl, Nat.le_refl _, fun _ _ => rfl⟩
theorem own_cap {w : World} {base : Nat} {e : TypeId} {n : Nat} {v : Value} {xs : List Value} (h : w.ownsRow base e 1 v n xs) : ∃ A c, v = .slice A n c ∧ n ≤ c := by
  rcases h.2 with ⟨rfl, rfl⟩ | ⟨g, cap, cur, rfl, _, _, h1, _⟩
  · exact ⟨_, _, rfl, Nat.le_refl _⟩
  · exact ⟨_, _, rfl, h1⟩
set_option maxRecDepth 100000 in
theorem slice_to (w : World) (A : Option Addr) (n c p : Nat) (h : p ≤ c) : (Instr.slice 33 (.slice A n c) none (some (.int .i64 p)) none).run Try.prog w = .ok (.slice A p c) w := by
  obtain ⟨i0, hi, hz0, hz1, hz2⟩ := info_parts byteInfo
  rw [run_slice_h (P := Try.prog) (w := w) 33 A n c Try.underlying33 .i64 p (by omega) (by omega)]
  have he : Try.prog.elem 33 = 5 := by kernel_rfl
  rw [he]
  have hs : (sizeOf 5).run Try.prog w = Result.ok i0.size w := by
    rw [run_sizeOf w hi]
    unfold Program.cellsOf
    rw [hi]
    rfl
  rw [hs]
  simp [Result.andThen, sliced, Addr.add]

set_option maxHeartbeats 8000000 in
set_option maxRecDepth 100000 in
theorem diskSyncs_any (w : World) (A B C : Option Addr) (n m k ca cb cc : Nat) (acts : Int) (xs ys : Nm) (cs : List Int) (hA : BytesIn w A n xs) (hB : BytesIn w B m ys) (hC : IntsIn w C k cs) (hacts : acts ≤ 9223372036854775807) (hca : n ≤ ca) :
    Calls Try.prog 10 #[.slice A n ca, .slice B m cb, .agg #[.int .i64 acts, .slice C k cc]] w fun e w' => e = .returned (.bool true) ∧ Below w.heap.size w w' := by
  by_cases hn : 10000 < n
  · exact syncs_early w A B C n m k ca cb cc acts hA.1 hB.1 hC.1 (.inl hn)
  by_cases hm : 10000 < m
  · exact syncs_early w A B C n m k ca cb cc acts hA.1 hB.1 hC.1 (.inr (.inl hm))
  by_cases hk : 200 < k
  · exact syncs_early w A B C n m k ca cb cc acts hA.1 hB.1 hC.1 (.inr (.inr hk))
  have lx : xs.length = n := by have := hA.2.1.len; simpa using this
  have ly : ys.length = m := by have := hB.2.1.len; simpa using this
  obtain ⟨w1, hw1⟩ : ∃ w1, w1 = w.alloc (.cells #[.int .i64 acts, .slice C k cc] 36) := ⟨_, rfl⟩
  have hbx : Blk w1 w.heap.size 36 #[.int .i64 acts, .slice C k cc] := by rw [hw1]; exact Blk.new _ _ _
  have hb1 : Below w.heap.size w w1 := by rw [hw1]; exact (Below.refl _ _).alloc (Nat.le_refl _) _
  have HH := Lib.hid (fun W => head_any W)
  have HBX := Lib.hid hbx
  have HB1 := Lib.hid hb1
  have HW1 := Lib.hid hw1
  have HA := Lib.hid hA
  have HB := Lib.hid hB
  have HC := Lib.hid hC
  have HLX := Lib.hid lx
  have HLY := Lib.hid ly
  clear hbx hb1 hA hB hC hw1 lx ly
  have hn' : ¬ 10000 < (n : Int) := by omega
  have hm' : ¬ 10000 < (m : Int) := by omega
  have hk' : ¬ 200 < (k : Int) := by omega
  go_enter Try.func10, Try.ntmps10
  go_wp2_with fail
  refine calls_at fun W hW => ?_
  obtain rfl : W = w1 := hW.trans HW1.out.symm
  refine (HH.out W).mono ?_
  rintro e w2 ⟨rfl, hb2⟩
  have HB2 := Lib.hid hb2
  clear hb2
  go_wp2_with fail
  refine (New_any w2 1048576 (by omega)).mono ?_
  rintro e w3 ⟨rfl, hD3, hb3⟩
  obtain ⟨b, hb⟩ : ∃ b, b = w2.heap.size + 2 := ⟨_, rfl⟩
  rw [← hb] at hD3 ⊢
  have M3 : Mine W w3 _ b (St.new 1048576) := ⟨hD3, fun i h => Nat.le_trans HB2.out.size h.1, HB2.out.trans (hb3.mono HB2.out.size)⟩
  clear hD3 hb
  have c1 := (HBX.out.below M3.below HBX.out.lt).cell 1
  simp at c1
  unfold at0
  go_wp2_with fail
  refine (Create_any M3.disk rfl (by decide) (by decide) ⟨#[111, 110, 101]⟩ (by decide)).mono ?_
  rintro e w4 hL
  obtain ⟨n4, s4, F4, rfl, hT, M4'⟩ := M3.left hL
  obtain ⟨rfl, i, hi, hs4⟩ := create_ok hT rfl rfl okOne rfl (by decide)
  have M4 : Mine W w4 F4 b (ds1 i) := by rw [hs4] at M4'; exact M4'
  clear hL hT M4' hs4 M3
  go_wp2_with fail
  refine (Append_any M4.disk (show (1 : Nat) < _ by decide) ⟨#[111, 110, 101]⟩ (by decide) A n ca xs (srcIn HA.out (HB1.out.trans (M4.below.mono HB1.out.size))) (by omega) (away M4 HB1.out.size HA.out)).mono ?_
  rintro e w5 hL
  obtain ⟨n5, s5, F5, rfl, hT, M5'⟩ := M4.left hL
  obtain ⟨rfl, hs5⟩ := append_ok (i := i) hT rfl rfl rfl (by rw [ds1_dat, HLX.out]; simp; omega) (by have h1 := ds1_dat (i := i); have h2 := HLX.out; simp [lenSum, show (ds1 i).now = [(nOne, i)] from rfl, h1]; exact (show xs.length ≤ 1048576 by omega))
  have M5 : Mine W w5 F5 b (ds2 i xs) := by rw [hs5] at M5'; exact M5'
  clear hL hT M5' hs5 M4
  go_wp2_with fail
  refine (Create_any M5.disk rfl (show (2 : Nat) < _ by decide) (show (1 : Nat) < _ by decide) ⟨#[116, 119, 111]⟩ (by decide)).mono ?_
  rintro e w6 hL
  obtain ⟨n6, s6, F6, rfl, hT, M6'⟩ := M5.left hL
  obtain ⟨rfl, j, hj, hs6⟩ := create_ok hT rfl rfl okTwo rfl (show (1 : Nat) < 64 by decide)
  have M6 : Mine W w6 F6 b (ds3 i j xs) := by rw [hs6] at M6'; exact M6'
  have hji : j ≠ i := fun e => hj (by rw [e]; exact List.mem_cons_self)
  clear hL hT M6' hs6 M5
  have d3 := ds3_dat (xs := xs) hji
  have n3 := ds3_now (i := i) (j := j) (xs := xs)
  go_wp2_with fail
  refine (Append_any M6.disk (show (3 : Nat) < _ by decide) ⟨#[116, 119, 111]⟩ (by decide) A n ca xs (srcIn HA.out (HB1.out.trans (M6.below.mono HB1.out.size))) (by omega) (away M6 HB1.out.size HA.out)).mono ?_
  rintro e w7 hL
  obtain ⟨n7, s7, F7, rfl, hT, M7'⟩ := M6.left hL
  obtain ⟨rfl, hs7⟩ := append_ok (i := j) hT rfl rfl (by rw [n3]; rfl) (by rw [d3.2, HLX.out]; simp; omega) (by have h2 := HLX.out; simp [lenSum, n3, d3.1, d3.2]; exact (show xs.length + xs.length ≤ 1048576 by omega))
  have M7 : Mine W w7 F7 b (ds4 i j xs) := by rw [hs7] at M7'; exact M7'
  clear hL hT M7' hs7 M6
  go_wp2_with fail
  refine (Sync_any M7.disk (show (4 : Nat) < _ by decide) ⟨#[116, 119, 111]⟩ (by decide)).mono ?_
  rintro e w8 hL
  obtain ⟨n8, s8, F8, rfl, hT, M8'⟩ := M7.left hL
  obtain ⟨rfl, hs8⟩ := sync_ok (i := j) hT rfl rfl (show dget (ds3 i j xs).now _ = _ by rw [n3]; rfl)
  have M8 : Mine W w8 F8 b (ds5 i j xs) := by rw [hs8] at M8'; exact M8'
  clear hL hT M8' hs8 M7
  go_wp2_with fail
  refine (SyncDir_any M8.disk (show (5 : Nat) < _ by decide)).mono ?_
  rintro e w9 hL
  obtain ⟨n9, s9, F9, rfl, hT, M9'⟩ := M8.left hL
  obtain ⟨rfl, hs9⟩ := syncDir_ok hT rfl rfl
  have M9 : Mine W w9 F9 b (ds6 i j xs) := by rw [hs9] at M9'; exact M9'
  clear hL hT M9' hs9 M8
  have d6 := ds6_dat (xs := xs) hji
  go_wp2_with fail
  refine (Append_any M9.disk (show (6 : Nat) < _ by decide) ⟨#[116, 119, 111]⟩ (by decide) B m cb ys (srcIn HB.out (HB1.out.trans (M9.below.mono HB1.out.size))) (by omega) (away M9 HB1.out.size HB.out)).mono ?_
  rintro e w10 hL
  obtain ⟨n10, s10, F10, rfl, hT, M10'⟩ := M9.left hL
  obtain ⟨rfl, hs10⟩ := append_ok (i := j) hT rfl rfl (show dget (ds3 i j xs).now _ = _ by rw [n3]; rfl) (by rw [d6.2, HLX.out, HLY.out]; omega) (by have h2 := HLX.out; have h3 := HLY.out; simp [lenSum, show (ds6 i j xs).now = _ from n3, d6.1, d6.2]; exact (show xs.length + xs.length + ys.length ≤ 1048576 by omega))
  have M10 : Mine W w10 F10 b (ds7 i j xs ys) := by rw [hs10] at M10'; exact M10'
  clear hL hT M10' hs10 M9
  go_wp2_with fail
  refine (Create_any M10.disk rfl (show (7 : Nat) < _ by decide) (show (0 : Nat) < _ by decide) ⟨#[116, 104, 114, 101, 101]⟩ (by decide)).mono ?_
  rintro e w11 hL
  obtain ⟨n11, s11, F11, rfl, hT, M11'⟩ := M10.left hL
  obtain ⟨rfl, kk, hkk, hs11⟩ := create_ok hT rfl rfl okThree (show dget (ds3 i j xs).now _ = _ by rw [n3]; rfl) (show (ds3 i j xs).now.length < 64 by rw [n3]; exact (show (2 : Nat) < 64 by decide))
  have M11 : Mine W w11 F11 b (ds8 i j kk xs ys) := by rw [hs11] at M11'; exact M11'
  have hki : kk ≠ i := fun e => hkk (by rw [e]; exact List.mem_cons_of_mem _ List.mem_cons_self)
  have hkj : kk ≠ j := fun e => hkk (by rw [e]; exact List.mem_cons_self)
  clear hL hT M11' hs11 M10
  have c10 := (HBX.out.below M11.below HBX.out.lt).cell 0
  have c11 := (HBX.out.below M11.below HBX.out.lt).cell 1
  simp at c10 c11
  go_wp2_with fail
  have hlc : ((ds8 i j kk xs ys).chs).length = 1 := rfl
  have hCA : ∀ ad, C = some ad → 0 < k → ad.block < w11.heap.size ∧ ¬ F11 ad.block := fun ad e hn => by
    have h2 := HC.out.2.2.2 ad e hn
    have h3 := M11.below.size
    have h4 := HB1.out.size
    exact ⟨by omega, fun hf => by have := M11.new _ hf; omega⟩
  refine (Crash_any M11.disk (by rw [hlc]; decide) acts hacts C k cc cs (HC.out.2.1.keep fun ad e hn => (HB1.out.trans (M11.below.mono HB1.out.size)).block _ (HC.out.2.2.2 ad e hn)) hCA HC.out.2.2.1).mono ?_
  rintro e w12 ⟨rfl, ⟨F12, hD12, hF12⟩, hk12⟩
  have M12 : Mine W w12 F12 b ((ds8 i j kk xs ys).crashed acts cs) := by
    refine ⟨hD12, fun i hi => ?_, M11.below.trans (hk12.toBelow M11.below.size M11.new)⟩
    rcases hF12 i hi with h | h
    · exact M11.new i h
    · have := M11.below.size
      omega
  clear hD12 hF12 hk12 hCA hlc M11
  obtain ⟨p, q, g, r1, hp, r2, hq1, hq2, r3, hg, hg0, hg1⟩ := ds9_reads (xs := xs) (ys := ys) hji hki hkj acts cs
  have lp : (xs.take p).length = p := by rw [List.length_take]; omega
  have lq : ((xs ++ ys).take q).length = q := by rw [List.length_take, List.length_append]; omega
  go_wp2_with fail
  refine (Read_any M12.disk ⟨#[111, 110, 101]⟩ (by decide)).mono ?_
  rintro e w13 ⟨v13, rfl, hr13, hb13⟩
  rw [show readOf ((ds8 i j kk xs ys).crashed acts cs) (⟨#[111, 110, 101]⟩ : ByteArray).data.toList = (xs.take p, 0) from r1] at hr13 ⊢
  simp only [lp] at hr13
  obtain ⟨A13, c13, hv13, hc13⟩ := own_cap hr13
  rw [hv13] at hr13 ⊢
  have M13 := M12.later hb13
  have HR13 := Lib.hid hr13
  clear hb13 hr13 hv13 M12
  go_wp2_with fail
  refine (Read_any M13.disk ⟨#[116, 119, 111]⟩ (by decide)).mono ?_
  rintro e w14 ⟨v14, rfl, hr14, hb14⟩
  rw [show readOf ((ds8 i j kk xs ys).crashed acts cs) (⟨#[116, 119, 111]⟩ : ByteArray).data.toList = ((xs ++ ys).take q, 0) from r2] at hr14 ⊢
  simp only [lq] at hr14
  obtain ⟨A14, c14, hv14, hc14⟩ := own_cap hr14
  rw [hv14] at hr14 ⊢
  have M14 := M13.later hb14
  have HR14 := Lib.hid hr14
  have HB14 := Lib.hid hb14
  clear hb14 hr14 hv14 M13
  go_wp2_with fail
  refine (Read_any M14.disk ⟨#[116, 104, 114, 101, 101]⟩ (by decide)).mono ?_
  rintro e w15 ⟨v15, rfl, hr15, hb15⟩
  rw [show readOf ((ds8 i j kk xs ys).crashed acts cs) (⟨#[116, 104, 114, 101, 101]⟩ : ByteArray).data.toList = ([], g) from r3] at hr15 ⊢
  have M15 := M14.later hb15
  have hr13 : w15.ownsRow 0 5 1 (.slice A13 p c13) p ((xs.take p).map u8) := by
    have h := HR13.out
    refine ownsRow_block (w := w13) ⟨h.1, ?_⟩ fun g hg => (HB14.out.trans (hb15.mono HB14.out.size)).block g (h.lt g hg).2
    rcases h.2 with h1 | ⟨g, cap, cur, e, h1, h2⟩
    · exact .inl h1
    · exact .inr ⟨g, cap, cur, e, Nat.zero_le _, h2⟩
  have hr14 : w15.ownsRow 0 5 1 (.slice A14 q c14) q (((xs ++ ys).take q).map u8) := by
    have h := HR14.out
    refine ownsRow_block (w := w14) ⟨h.1, ?_⟩ fun g hg => hb15.block g (h.lt g hg).2
    rcases h.2 with h1 | ⟨g, cap, cur, e, h1, h2⟩
    · exact .inl h1
    · exact .inr ⟨g, cap, cur, e, Nat.zero_le _, h2⟩
  clear hr15 hb15 M14 r1 r2 r3
  have HR13' := Lib.hid hr13
  have HR14' := Lib.hid hr14
  clear hr13 hr14 HR13 HR14 HB14
  have HM15 := Lib.hid M15
  clear M15
  have hsx : ∀ n, (convert 33 9 (.slice A13 p c13)).run Try.prog (w15.drewN n) = .ok (.string ⟨(xs.take p).toArray⟩) (w15.drewN n) := fun n => by
    have h := string_of_src (w := w15.drewN n) (d := xs.take p) (A := A13) (n := p) ((src_of_row HR13'.out).keep fun _ _ _ => rfl) p c13 (Nat.le_refl _)
    rw [List.take_take, Nat.min_self] at h
    exact h
  have hsa : ∀ n', (convert 33 9 (.slice A p ca)).run Try.prog (w15.drewN n') = .ok (.string ⟨(xs.take p).toArray⟩) (w15.drewN n') := fun n' =>
    string_of_src (srcIn HA.out (HB1.out.trans ((HM15.out.below.mono HB1.out.size).trans (below_dn w15 n')))) p ca (by have := HLX.out; omega)
  have hsl := fun n' => slice_to (w15.drewN n') A n ca p (by have := HLX.out; omega)
  have hpn : ¬ (n : Int) < (p : Int) := by have := HLX.out; omega
  have hqn : ¬ (q : Int) < (n : Int) := by have := HLX.out; omega
  have hqm : ¬ ((n : Int) + (m : Int) < (q : Int)) := by have := HLX.out; have := HLY.out; omega
  obtain ⟨i0, hi0, hz0, hz1, hz2⟩ := info_parts byteInfo
  have hpn2 : ¬ n < p := by omega
  have hqn2 : ¬ q < n := by omega
  have hqm2 : ¬ n + m < q := by omega
  have hcase : (g = 0 ∧ ¬ acts = 0) ∨ (g = 12 ∧ ¬ acts = 1) := by
    rcases hg with h | h
    · exact .inl ⟨h, fun e => by have := hg0 e; omega⟩
    · exact .inr ⟨h, fun e => by have := hg1 e; omega⟩
  clear hg hg0 hg1
  rcases hcase with ⟨rfl, hac⟩ | ⟨rfl, hac⟩
  all_goals
    go_wp2
    go_quiet (fail)
    obtain ⟨W16, hW16⟩ : ∃ W, W = w15.drewN nq := ⟨_, rfl⟩
    have hb16 : Below w.heap.size w W16 := by rw [hW16]; exact HB1.out.trans ((HM15.out.below.mono HB1.out.size).trans (below_dn _ _))
    have hB16 : Below W.heap.size W W16 := by rw [hW16]; exact HM15.out.below.trans (below_dn _ _)
    have hr16 : W16.ownsRow 0 5 1 (.slice A14 q c14) q (((xs ++ ys).take q).map u8) := by rw [hW16]; exact HR14'.out
    rw [← hW16]
    clear hsx hsa hsl hW16
    go_wp2_with (at_builtin; refine wpList_append_src _ rfl (.tmp 126) (.tmp 127) 33 rfl W16.heap.size 5 i0 (.int .u8 0) 1 Try.underlying33 hi0 hz0 hz1 hz2 rfl _ _ _ rfl (World.ownsRow_made W16 #[] 0 (Nat.le_refl _) (Nat.zero_le _) rfl) A n ca (xs.map u8) rfl (srcIn HA.out (hb16.alloc hb16.size _)) (u8_one _) (by unfold maxLen; omega) (by omega) (by simp) ?_)
    intro v17 W17 hown17 hgr17 hloc17
    have hn17 : Below W16.heap.size W16 W17 := ((Below.refl _ W16).alloc (Nat.le_refl _) _).grown hgr17 (by simp) (by intro k hk; simp [Value.ownBlock] at hk; omega)
    obtain ⟨A17, c17, hv17, hc17⟩ := own_cap hown17
    subst hv17
    clear hloc17 hgr17
    go_wp2_with (at_builtin; refine wpList_append_src _ rfl (.tmp 128) (.tmp 129) 33 rfl W16.heap.size 5 i0 (.int .u8 0) 1 Try.underlying33 hi0 hz0 hz1 hz2 rfl _ _ _ rfl hown17 B m cb (ys.map u8) rfl (srcIn HB.out (hb16.trans (hn17.mono hb16.size))) (u8_one _) (by unfold maxLen; omega) (by omega) hn17.size ?_)
    intro v18 W18 hown18 hgr18 hloc18
    have hn18 : Below W16.heap.size W16 W18 := hn17.grown hgr18 hn17.size (fun k hk => (hown17.lt k hk).1)
    obtain ⟨A18, c18, hv18, hc18⟩ := own_cap hown18
    subst hv18
    clear hloc18 hgr18 hown17 hc17
    have hr18 : W18.ownsRow 0 5 1 (.slice A14 q c14) q (((xs ++ ys).take q).map u8) := ownsRow_block hr16 fun g hg => hn18.block g (hr16.lt g hg).2
    have hsy : ∀ n, (convert 33 9 (.slice A14 q c14)).run Try.prog (W18.drewN n) = .ok (.string ⟨((xs ++ ys).take q).toArray⟩) (W18.drewN n) := fun n => by
      have h := string_of_src (w := W18.drewN n) (d := (xs ++ ys).take q) (A := A14) (n := q) ((src_of_row hr18).keep fun _ _ _ => rfl) q c14 (Nat.le_refl _)
      rw [List.take_take, Nat.min_self] at h
      exact h
    rw [← List.map_append] at hown18
    have hown18' : W18.ownsRow W16.heap.size 5 1 (.slice A18 (n + m) c18) (n + m) ((xs ++ ys).map u8) := by
      have e0 : 0 + n + m = n + m := by omega
      first | exact hown18 | (rw [e0] at hown18; exact hown18)
    have hsz : ∀ n', (convert 33 9 (.slice A18 q c18)).run Try.prog (W18.drewN n') = .ok (.string ⟨((xs ++ ys).take q).toArray⟩) (W18.drewN n') := fun n' =>
      string_of_src (w := W18.drewN n') ((src_of_row hown18').keep fun _ _ _ => rfl) q c18 (by omega)
    have hqc : q ≤ c18 := by omega
    have hsq := fun n' => slice_to (W18.drewN n') A18 (n + m) c18 q hqc
    have hB18 : Below W.heap.size W W18 := hB16.trans (hn18.mono hB16.size)
    have hb18 : Below w.heap.size w W18 := hb16.trans (hn18.mono hb16.size)
    have b0 := (HBX.out.below hB18 HBX.out.lt).cell 0
    simp at b0
    have HB18 := Lib.hid hb18
    clear hown18 hown18' hr18 hr16 hn17 hn18 hb16 hB16 hB18 hb18
    have hqci : (q : Int) ≤ (c18 : Int) := by omega
  · by_cases ha0 : acts = 1
    all_goals
      go_wp2
      go_quiet (fail)
      go_wp2
      go_ret
      exact ⟨rfl, HB18.out.trans (below_dn _ _)⟩
  · by_cases ha0 : acts = 0
    all_goals
      go_wp2
      go_quiet (fail)
      go_wp2
      go_ret
      exact ⟨rfl, HB18.out.trans (below_dn _ _)⟩
end Go.Proofs.Yteaeniopfbglnaa
