import Derived.Test.YthcjikpabpgpfaaGreatZp0
import Derived.Test.YthcjikpabpgpfaaGreatZp10
import Derived.Test.YthcjikpabpgpfaaGreatZp3
import Derived.Deep.RegionHeld3
import Derived.Deep.DeepCutAuto
import Derived.Test.YthcjikpabpgpfaaGreatZp4
set_option linter.unusedSimpArgs false
set_option maxHeartbeats 16000000
set_option maxRecDepth 100000
namespace Go.Proofs.YthcjikpabpgpfaaGreat
open Go.RowKit Go.Maps Go.WideMaps
theorem placeInfo : (Tryz.prog.info? 165).map (fun i => (i.zero, i.size, i.bytes)) = some (some (.agg #[.int .i64 0, .int .i64 0, .int .i64 0]), 3, 24) := by kernel_rfl
def plAdd (L : List MDoc) (x : MDoc) (k : Nat) : Int → List Pl := fun t => plOf L t ++ plUp x t k
theorem plAdd_next {L : List MDoc} {x : MDoc} {k : Nat} {y z : Int} (hy : x.T.getD k 0 = y) (hz : x.S.getD k 0 = z) (t : Int) : plAdd L x (k + 1) t = plPut (plAdd L x k) y (x.doc, (k : Int), z) t := by
 unfold plAdd plPut
 rw [plUp_next, hy, hz]
 by_cases h : t = y
 ·rw [if_pos h, if_pos h.symm, List.append_assoc]
 ·rw [if_neg h, if_neg (fun e => h e.symm)]
theorem plAdd_len (L : List MDoc) (x : MDoc) (k : Nat) (t : Int) : (plAdd L x k t).length ≤ totT L + k := by
 unfold plAdd
 rw [List.length_append]
 have := plOf_len L t
 have := plUp_len x t k
 omega
theorem m0Add_any {w : World} {F : Nat → Prop} {b : Nat} {L : List MDoc} (h : M0 w F b L) (hW : MWF L) (hT : totT L ≤ 20000) (x : MDoc) (A C : Option Addr) (n m c cc : Nat) (hTI : IntsIn w A n x.T) (hSI : IntsIn w C m x.S)
  (hAF : ∀ ad, A = some ad → 0 < n → ¬ F ad.block) (hCF : ∀ ad, C = some ad → 0 < m → ¬ F ad.block) (hd : fits64 x.doc) : Calls Tryz.prog 75 #[.pointer (some ⟨b, 0, none⟩), .int .i64 x.doc, .slice A n c, .slice C m cc] w (AddOut M0 w F b L x) := by
 obtain ⟨i0, hi, hz0, hz1, hz2⟩ := info_parts placeInfo
 have HM := Lib.hid h
 obtain ⟨hFb, hFlt, mb, hB, hP⟩ := h
 have hlow := lastM_low hW
 have hfew := hW.few
 have HERR := Lib.hid (mErr_is hW x)
 have HSP := Lib.hid (m0Spots_any (c := c) (d := cc) hTI hSI)
 have htl := hTI.len
 have hsl := hSI.len
 rw [htl, hsl] at HERR
 have HTL := Lib.hid htl
 have HNO : Hid (∀ e : Int, mErr L x = e → e ≠ 0 → ∀ q, AddOut M0 w F b L x (.returned (.int .i64 e)) (w.drewN q)) := Lib.hid (fun e he h0 q => by
  refine ⟨by rw [he], F, ?_, ⟨rfl, rfl, rfl, Nat.le_refl _, fun _ _ _ => rfl⟩, fun i hi => .inl hi⟩
  have h1 : mAdd L x = L := by unfold mAdd; rw [if_neg (by rw [he]; exact h0)]
  rw [h1]
  exact HM.out.keep (fun _ _ => rfl) (Nat.le_refl _))
 have HTK : Hid (∀ wr, Kept F w wr → IntsIn wr A n x.T ∧ IntsIn wr C m x.S) := Lib.hid (fun wr hk =>
  ⟨⟨hTI.1, hTI.2.1.keep fun ad e h0 => hk.block _ (hTI.2.2.2 ad e h0) (hAF ad e h0), hTI.2.2.1, fun ad e h0 => Nat.lt_of_lt_of_le (hTI.2.2.2 ad e h0) hk.size⟩,
   ⟨hSI.1, hSI.2.1.keep fun ad e h0 => hk.block _ (hSI.2.2.2 ad e h0) (hCF ad e h0), hSI.2.2.1, fun ad e h0 => Nat.lt_of_lt_of_le (hSI.2.2.2 ad e h0) hk.size⟩⟩)
 have hn63 := hTI.1
 have hm63 := hSI.1
 unfold maxLen at hn63 hm63
 have hdl := hd.1
 have hdh := hd.2
 have c1 := hB.cell 1
 have c2 := hB.cell 2
 simp only [lz0, lz1, lz2] at c1 c2
 obtain ⟨doc, hdoc⟩ : ∃ d, d = x.doc := ⟨_, rfl⟩
 obtain ⟨N, hN⟩ : ∃ N, N = L.length := ⟨_, rfl⟩
 obtain ⟨nx, hnx⟩ : ∃ d, d = lastM L + 1 := ⟨_, rfl⟩
 have hbl := hB.lt
 have HB0 := Lib.hid hB
 have HP0 := Lib.hid hP
 have HFLT := Lib.hid hFlt
 have HFB := Lib.hid hFb
 have HDOC := Lib.hid hdoc
 have HN := Lib.hid hN
 have HNX := Lib.hid hnx
 have HW := Lib.hid hW
 rw [← hdoc] at hdl hdh HERR ⊢
 rw [← hN] at hfew HERR c1 HB0
 rw [← hnx] at HERR c2 HB0
 have hlow2 : 0 ≤ nx ∧ nx ≤ 4294967297 := by omega
 clear hlow
 clear hTI hSI hAF hCF hd hP hFlt hFb hdoc hN hnx htl hsl hB hW
 go_enter Tryz.func75, Tryz.ntmps75
 have cross : ∀ q, (w.drewN q).heap = w.heap := fun _ => rfl
 clear cross
 by_cases hN4 : N = 4096
 ·have e1 : ((N : Int) == 4096) = true := by simp; omega
  go_wp2
  go_ret
  exact HNO.out 2 (by rw [HERR.out, if_pos (.inl hN4)]) (by omega) 0
 ·have e1 : ((N : Int) == 4096) = false := by simp; omega
  by_cases hn4 : 4096 < n
  ·have e2 : decide ((4096 : Int) < (n : Int)) = true := by simp; omega
   go_wp2
   go_ret
   exact HNO.out 2 (by rw [HERR.out, if_pos (.inr hn4)]) (by omega) 0
  ·have e2 : decide ((4096 : Int) < (n : Int)) = false := by simp; omega
   have HE2 := Lib.hid (show ¬ (N = 4096 ∨ 4096 < n) by omega)
   by_cases hdn : doc < nx
   ·have e3 : decide (doc < nx) = true := by simpa using hdn
    go_wp2
    go_ret
    exact HNO.out 1 (by rw [HERR.out, if_neg HE2.out, if_pos (.inl hdn)]) (by omega) 0
   ·have e3 : decide (doc < nx) = false := by simpa using hdn
    by_cases hdg : 4294967296 < doc
    ·have e4 : decide ((4294967296 : Int) < doc) = true := by simpa using hdg
     go_wp2
     go_ret
     exact HNO.out 1 (by rw [HERR.out, if_neg HE2.out, if_pos (.inr (.inl hdg))]) (by omega) 0
    ·have e4 : decide ((4294967296 : Int) < doc) = false := by simpa using hdg
     obtain ⟨ok, hok⟩ : ∃ ok : Bool, ok = decide (n = m ∧ badTo x n = false) := ⟨_, rfl⟩
     rw [← hok] at HSP
     have HOK := Lib.hid hok.symm
     clear hok
     cases ok with
     | false =>
      go_wp2_with (go_at_call 126; refine HSP.out.mono ?_; rintro e w1 ⟨rfl, q, rfl⟩)
      go_ret
      refine HNO.out 1 ?_ (by omega) q
      have h1 := of_decide_eq_false HOK.out
      rw [HERR.out, if_neg HE2.out, if_pos]
      by_cases h2 : n = m
      ·refine .inr (.inr (.inr ?_))
       cases h3 : badTo x n with
       | true => rfl
       | false => exact absurd ⟨h2, h3⟩ h1
      ·exact .inr (.inr (.inl h2))
     | true =>
      obtain ⟨hnm, hbad⟩ := of_decide_eq_true HOK.out
      subst hnm
      have HZ : Hid (mErr L x = 0) := Lib.hid (by
       rw [HERR.out, if_neg HE2.out, if_neg]
       rintro (h | h | h | h)
       ·exact hdn h
       ·exact hdg h
       ·exact h rfl
       ·rw [hbad] at h; cases h)
      have HSX : Hid (∀ k, k < n → 0 ≤ x.T.getD k 0) := Lib.hid (fun k hk => (badAt_iff.1 (badTo_iff.1 hbad k hk)).1)
      clear HERR HOK hbad
      go_wp2_with (go_at_call 126; refine HSP.out.mono ?_; rintro e w1 ⟨rfl, q, rfl⟩)
      clear HSP
      go_loopw [40] (fun iv wr => ∃ (i : Nat) (G : Nat → Prop), i ≤ n ∧ iv = .int .i64 i ∧ PMap wr mb (totT L + i) (plAdd L x i) G ∧ Kept F w wr ∧ Blk wr b 156 #[.map (some mb), .int .i64 (N : Int), .int .i64 nx] ∧ ∀ j, G j → ((F j ∧ j ≠ b) ∨ w.heap.size ≤ j) ∧ j < wr.heap.size) (fun iv _ => n - (Go.RowKit.intOf iv).toNat)
      case atStart =>
       refine ⟨0, fun i => F i ∧ i ≠ b, by omega, rfl, ((HP0.out.keep (w' := w.drewN q) (fun _ _ => rfl)).lets (g := plAdd L x 0) (fun t => by unfold plAdd plUp; simp [spotUp]) (fun _ h => h)).more (by omega), ⟨rfl, rfl, rfl, Nat.le_refl _, fun _ _ _ => rfl⟩, HB0.out, fun j hj => ⟨.inl hj, HFLT.out j hj.1⟩⟩
      case round =>
       obtain ⟨i, G, hi1, rfl, hPm, hKw, hBw, hGw⟩ := hrel
       have HPM := Lib.hid hPm
       have HKW := Lib.hid hKw
       have HBW := Lib.hid hBw
       have HGW := Lib.hid hGw
       clear c1 c2
       have k1 := hBw.cell 1
       have fz1 := hBw.frozen 1
       simp only [lz0, lz1, lz2] at k1
       obtain ⟨hITw, hISw⟩ := HTK.out wr hKw
       have HIT := Lib.hid hITw
       have HIS := Lib.hid hISw
       clear hPm hKw hBw hGw hITw hISw
       rcases Nat.lt_or_ge i n with hlt | hge
       ·have d1 : decide ((i : Int) < (n : Int)) = true := by simpa using hlt
        have p0 : (0 : Int) ≤ (i : Int) := by omega
        have p1 : (i : Int) < (n : Int) := by omega
        have hw5 : IntKind.i64.wrap ((i : Int) + 1) = (i : Int) + 1 := IntWalk.i64_in _ (by omega)
        obtain ⟨pa, y, rfl, hy, cy, hyl, hyh⟩ := HIT.out.at i hlt
        obtain ⟨pc, z, rfl, hz, cz, hzl, hzh⟩ := HIS.out.at i hlt
        have HY := Lib.hid (show x.T.getD i 0 = y from by rw [List.getD_eq_getElem?_getD, hy]; rfl)
        have HZZ := Lib.hid (show x.S.getD i 0 = z from by rw [List.getD_eq_getElem?_getD, hz]; rfl)
        have HYF : Hid (fits64 y) := Lib.hid ⟨hyl, hyh⟩
        obtain ⟨f, hf⟩ : ∃ f, f = plAdd L x i := ⟨_, rfl⟩
        have HNXT : Hid (∀ t, plAdd L x (i + 1) t = plPut f y (doc, (i : Int), z) t) := Lib.hid (fun t => by rw [hf, HDOC.out]; exact plAdd_next HY.out HZZ.out t)
        have hfl : (f y).length ≤ 24096 := by have := plAdd_len L x i y; rw [← hf] at this; omega
        rw [← hf] at HPM
        have hroom : totT L + i < maxLen := by unfold maxLen; omega
        have HROOM := Lib.hid hroom
        obtain ⟨wo, hwo⟩ : ∃ z, z = wr := ⟨_, rfl⟩
        subst hwo
        obtain ⟨sb, hsb⟩ : ∃ z, z = wo.heap.size := ⟨_, rfl⟩
        obtain ⟨wi0, hwi0⟩ : ∃ s, s = wo.alloc (.cells #[.int .i64 (i : Int), .int .i64 z] 64) := ⟨_, rfl⟩
        have hb0 : Below wo.heap.size wo wi0 := by rw [hwi0]; exact (Below.refl _ wo).alloc (Nat.le_refl _) _
        have HSB := Lib.hid hsb
        have hbs : b < sb := by rw [hsb]; exact HBW.out.lt
        have HMB : Hid (G mb ∧ mb ≠ b ∧ mb ≠ sb ∧ (F mb ∨ w.heap.size ≤ mb)) := Lib.hid (by
         have h1 := HGW.out mb HPM.out.inG
         refine ⟨HPM.out.inG, by rcases h1.1 with h | h; exact h.2; omega, by omega, h1.1.imp (fun h => h.1) id⟩)
        have HGR : Hid (∀ g, G g → g ≠ b ∧ g ≠ sb ∧ (F g ∨ w.heap.size ≤ g)) := Lib.hid (fun g hg => by
         have h1 := HGW.out g hg
         refine ⟨by rcases h1.1 with h | h; exact h.2; omega, by omega, h1.1.imp (fun h => h.1) id⟩)
        have HP1 := Lib.hid (HPM.out.keep (w' := wi0) fun j hj => hb0.block j (HGW.out j hj).2)
        have HK1 := Lib.hid (show Kept F w wi0 from by rw [hwi0]; exact HKW.out.alloc _)
        have HB1 := Lib.hid (HBW.out.below hb0 HBW.out.lt)
        have HN1 : Hid (Blk wi0 sb 64 #[.int .i64 (i : Int), .int .i64 z]) := Lib.hid (by rw [hwi0, hsb]; exact Blk.new _ _ _)
        have HSZ1 : Hid (sb < wi0.heap.size ∧ w.heap.size ≤ sb) := Lib.hid (by rw [hwi0, hsb]; exact ⟨by simp, HKW.out.size⟩)
        have HWI0 := Lib.hid hwi0
        clear hy hz hf hroom hb0 hsb hwi0 k1 fz1
        go_upto_region 9 with fail
        rw [← HWI0.out, ← HSB.out]
        refine wp_region_held_drew (S := fun w' => w'.cell? ⟨b, 0, none⟩ = some (.map (some mb)) ∧ w'.cell? ⟨sb, 0, none⟩ = some (.int .i64 (i : Int)) ∧ w'.cell? ⟨sb, 1, none⟩ = some (.int .i64 z)) (by kernel_rfl) ⟨HB1.out.cell 0, HN1.out.cell 0, HN1.out.cell 1⟩ (fun hHeld => ?_)
        obtain ⟨u0, hu0⟩ : ∃ z, z = wi0.drew := ⟨_, rfl⟩
        rw [← hu0] at hHeld ⊢
        have HP2 := Lib.hid (show PMap u0 mb (totT L + i) f G from HP1.out.keep fun j _ => by rw [hu0]; rfl)
        have HK2 := Lib.hid (show Kept F w u0 from by rw [hu0]; exact HK1.out.drew)
        have HB2 := Lib.hid (show Blk u0 b _ _ from by rw [hu0]; exact HB1.out.drew)
        have HN2 := Lib.hid (show Blk u0 sb _ _ from by rw [hu0]; exact HN1.out.drew)
        have HSZ2 : Hid (sb < u0.heap.size) := Lib.hid (by rw [hu0]; exact HSZ1.out.1)
        have hS0 : (fun w' : World => w'.cell? ⟨b, 0, none⟩ = some (.map (some mb)) ∧ w'.cell? ⟨sb, 0, none⟩ = some (.int .i64 (i : Int)) ∧ w'.cell? ⟨sb, 1, none⟩ = some (.int .i64 z)) u0 := ⟨HB2.out.cell 0, HN2.out.cell 0, HN2.out.cell 1⟩
        clear hu0
        refine wpAnyH_take (i := 0) (oi := ?oiz10) (v := ?vz10) ?hiz10 (by kernel_rfl) (by kernel_rfl) (by kernel_rfl) ?hQz10 (Or.inl ⟨?hwz10, ?hyz10⟩) (by assumption) ?restz10
        case hiz10 => (first | (simp only [lz0, lz1, lz2]; rfl) | rfl)
        case hQz10 => exact fun _ _ _ h => h
        case hwz10 => rfl
        case hyz10 => ((intro w hSw; go_simp); first | done | with_reducible rfl)
        try simp only [Act.put, lz3, lz4, lz5]
        refine wpAnyH_take (i := 4) (oi := ?oiz24) (v := ?vz24) ?hiz24 (by kernel_rfl) (by kernel_rfl) (by kernel_rfl) ?hQz24 (Or.inl ⟨?hwz24, ?hyz24⟩) (by assumption) ?restz24
        case hiz24 => (first | (simp only [lz0, lz1, lz2]; rfl) | rfl)
        case hQz24 => exact fun _ _ _ h => h
        case hwz24 => rfl
        case hyz24 => ((intro w hSw; go_simp); first | done | with_reducible rfl)
        try simp only [Act.put, lz3, lz4, lz5]
        refine wpAnyH_take (i := 5) (oi := ?oiz35) (v := ?vz35) ?hiz35 (by kernel_rfl) (by kernel_rfl) (by kernel_rfl) ?hQz35 (Or.inl ⟨?hwz35, ?hyz35⟩) (by assumption) ?restz35
        case hiz35 => (first | (simp only [lz0, lz1, lz2]; rfl) | rfl)
        case hQz35 => exact fun _ _ _ h => h
        case hwz35 => rfl
        case hyz35 => ((intro w hSw; go_simp); first | done | with_reducible rfl)
        try simp only [Act.put, lz3, lz4, lz5]
        refine wpAnyH_take (i := 9) (oi := ?oiz49) (v := ?vz49) ?hiz49 (by kernel_rfl) (by kernel_rfl) (by kernel_rfl) ?hQz49 (Or.inl ⟨?hwz49, ?hyz49⟩) (by assumption) ?restz49
        case hiz49 => (first | (simp only [lz0, lz1, lz2]; rfl) | rfl)
        case hQz49 => exact fun _ _ _ h => h
        case hwz49 => rfl
        case hyz49 => ((intro w hSw; go_simp); first | done | with_reducible rfl)
        try simp only [Act.put, lz3, lz4, lz5]
        refine wpAnyH_take (i := 11) (oi := ?oiz511) (v := ?vz511) ?hiz511 (by kernel_rfl) (by kernel_rfl) (by kernel_rfl) ?hQz511 (Or.inl ⟨?hwz511, ?hyz511⟩) (by assumption) ?restz511
        case hiz511 => (first | (simp only [lz0, lz1, lz2]; rfl) | rfl)
        case hQz511 => exact fun _ _ _ h => h
        case hwz511 => rfl
        case hyz511 => ((intro w hSw; go_simp); first | done | with_reducible rfl)
        try simp only [Act.put, lz3, lz4, lz5]
        refine wpAnyH_take (i := 12) (oi := ?oiz612) (v := ?vz612) ?hiz612 (by kernel_rfl) (by kernel_rfl) (by kernel_rfl) ?hQz612 (Or.inl ⟨?hwz612, ?hyz612⟩) (by assumption) ?restz612
        case hiz612 => (first | (simp only [lz0, lz1, lz2]; rfl) | rfl)
        case hQz612 => exact fun _ _ _ h => h
        case hwz612 => rfl
        case hyz612 => ((intro w hSw; go_simp); first | done | with_reducible rfl)
        try simp only [Act.put, lz3, lz4, lz5]
        refine wpAnyH_take (i := 1) (oi := ?oiz71) (v := ?vz71) ?hiz71 (by kernel_rfl) (by kernel_rfl) (by kernel_rfl) ?hQz71 (Or.inl ⟨?hwz71, ?hyz71⟩) (by assumption) ?restz71
        case hiz71 => (first | (simp only [lz0, lz1, lz2]; rfl) | rfl)
        case hQz71 => exact fun _ _ _ h => h
        case hwz71 => rfl
        case hyz71 => ((intro w hSw; go_simp); first | done | with_reducible rfl)
        try simp only [Act.put, lz3, lz4, lz5]
        refine wpAnyH_take (i := 6) (oi := ?oiz86) (v := ?vz86) ?hiz86 (by kernel_rfl) (by kernel_rfl) (by kernel_rfl) ?hQz86 (Or.inl ⟨?hwz86, ?hyz86⟩) (by assumption) ?restz86
        case hiz86 => (first | (simp only [lz0, lz1, lz2]; rfl) | rfl)
        case hQz86 => exact fun _ _ _ h => h
        case hwz86 => rfl
        case hyz86 => ((intro w hSw; go_simp); first | done | with_reducible rfl)
        try simp only [Act.put, lz3, lz4, lz5]
        refine wpAnyH_take (i := 13) (oi := ?oiz913) (v := ?vz913) ?hiz913 (by kernel_rfl) (by kernel_rfl) (by kernel_rfl) ?hQz913 (Or.inl ⟨?hwz913, ?hyz913⟩) (by assumption) ?restz913
        case hiz913 => (first | (simp only [lz0, lz1, lz2]; rfl) | rfl)
        case hQz913 => exact fun _ _ _ h => h
        case hwz913 => rfl
        case hyz913 => ((intro w hSw; go_simp); first | done | with_reducible rfl)
        try simp only [Act.put, lz3, lz4, lz5]
        refine wpAnyH_take (i := 2) (oi := ?oiz102) (v := ?vz102) ?hiz102 (by kernel_rfl) (by kernel_rfl) (by kernel_rfl) ?hQz102 (Or.inl ⟨?hwz102, ?hyz102⟩) (by assumption) ?restz102
        case hiz102 => (first | (simp only [lz0, lz1, lz2]; rfl) | rfl)
        case hQz102 => exact fun _ _ _ h => h
        case hwz102 => rfl
        case hyz102 => ((intro w hSw; go_simp); first | done | with_reducible rfl)
        try simp only [Act.put, lz3, lz4, lz5]
        refine wpAnyH_take (i := 7) (oi := ?oiz117) (v := ?vz117) ?hiz117 (by kernel_rfl) (by kernel_rfl) (by kernel_rfl) ?hQz117 (Or.inl ⟨?hwz117, ?hyz117⟩) (by assumption) ?restz117
        case hiz117 => (first | (simp only [lz0, lz1, lz2]; rfl) | rfl)
        case hQz117 => exact fun _ _ _ h => h
        case hwz117 => rfl
        case hyz117 => ((intro w hSw; go_simp); first | done | with_reducible rfl)
        try simp only [Act.put, lz3, lz4, lz5]
        refine wpAnyH_take (i := 3) (oi := ?oiz123) (v := ?vz123) ?hiz123 (by kernel_rfl) (by kernel_rfl) (by kernel_rfl) ?hQz123 (Or.inl ⟨?hwz123, ?hyz123⟩) (by assumption) ?restz123
        case hiz123 => (first | (simp only [lz0, lz1, lz2]; rfl) | rfl)
        case hQz123 => exact fun _ _ _ h => h
        case hwz123 => rfl
        case hyz123 => ((intro w hSw; go_simp); first | done | with_reducible rfl)
        try simp only [Act.put, lz3, lz4, lz5]
        refine wpAnyH_take (i := 8) (oi := ?oiz138) (v := ?vz138) ?hiz138 (by kernel_rfl) (by kernel_rfl) (by kernel_rfl) ?hQz138 (Or.inl ⟨?hwz138, ?hyz138⟩) (by assumption) ?restz138
        case hiz138 => (first | (simp only [lz0, lz1, lz2]; rfl) | rfl)
        case hQz138 => exact fun _ _ _ h => h
        case hwz138 => rfl
        case hyz138 => ((intro w hSw; go_simp); first | done | with_reducible rfl)
        try simp only [Act.put, lz3, lz4, lz5]
        refine wpAnyH_ready (rs := [10, 14]) (by kernel_rfl) (by simp) ?_
        refine AllReadyH.cons (o := ?oz14) ?hz14 ?sz14 (AllReadyH.cons (o := ?oz15) ?hz15 ?sz15 AllReadyH.nil)
        case hz14 => (simp only [lz0, lz1, lz2]; rfl)
        case hz15 => (simp only [lz0, lz1, lz2]; rfl)
        case sz14 =>
         intro K hK
         obtain ⟨vq1, hrq2, hOq3, hVGq4, hBKq5⟩ := HP2.out.step HROOM.out HYF.out
         obtain ⟨Avq1, cvq1, rfl⟩ := own_slice hOq3
         go_simp
         clear hrq2
         have Oq3 := Lib.hid hOq3
         have VGq4 := Lib.hid hVGq4
         have BKq5 := Lib.hid hBKq5
         have LGq6 := Lib.hid (World.grownBy.refl u0 (Value.slice Avq1 (f y).length cvq1).ownBlock)
         clear hOq3 hVGq4 hBKq5
         have LWSq7 := Lib.hid (show w.heap.size ≤ u0.heap.size from HK2.out.size)
         refine hK.out _ _ ⟨HB2.out.cell 0, HN2.out.cell 0, HN2.out.cell 1⟩ (fun hz16 => ?_)
         clear hK K
         try simp only [Act.put, lz3, lz4, lz5]
         refine wpAnyH_ready (rs := [14]) (by kernel_rfl) (by simp) ?_
         refine AllReadyH.cons (o := ?oz17) ?hz17 ?sz17 AllReadyH.nil
         case hz17 => (simp only [lz0, lz1, lz2]; rfl)
         case sz17 =>
          intro K hK
          go_simp
          obtain ⟨uq8, huq9⟩ : ∃ zz, zz = u0.alloc (.cells #[.int .i64 doc, .int .i64 (i : Int), .int .i64 z] 165) := ⟨_, rfl⟩
          have Mq14 : Hid (Blk uq8 u0.heap.size 165 #[.int .i64 doc, .int .i64 (i : Int), .int .i64 z]) := Lib.hid (by rw [huq9]; exact Blk.new _ _ _)
          rw [← huq9]
          have hBq10 : Below u0.heap.size u0 uq8 := by rw [huq9]; exact (Below.refl _ u0).alloc (Nat.le_refl _) _
          have Bq10 := Lib.hid (HB2.out.below hBq10 HB2.out.lt)
          have Nq11 := Lib.hid (HN2.out.below hBq10 HN2.out.lt)
          have Kq12 := Lib.hid (show Kept F w uq8 from by rw [huq9]; exact HK2.out.alloc _)
          have Zq15 : Hid (sb < uq8.heap.size) := Lib.hid (Nat.lt_of_lt_of_le HSZ2.out hBq10.size)
          have Oq16 := Lib.hid (ownsRow_block Oq3.out (fun g hg => hBq10.block g (World.ownsRow.lt Oq3.out g hg).2))
          have LGq17 := Lib.hid (LGq6.out.trans (show World.grownBy u0 uq8 _ from by rw [huq9]; exact World.grownBy_alloc _ _ _))
          clear huq9 hBq10
          refine hK.out _ _ ⟨Bq10.out.cell 0, Nq11.out.cell 0, Nq11.out.cell 1⟩ (fun hz18 => ?_)
          clear hK K
          try simp only [Act.put, lz3, lz4, lz5]
          refine wpAnyH_ready (rs := [15]) (by kernel_rfl) (by simp) ?_
          refine AllReadyH.cons (o := ?oz19) ?hz19 ?sz19 AllReadyH.nil
          case hz19 => (simp only [lz0, lz1, lz2]; rfl)
          case sz19 =>
           intro K hK
           refine step_append_recK _ rfl (.tmp 61) (.tmp 65) 154 rfl (mb + 1) 165 i0 _ 3 24 Tryz.underlying154 hi hz0 hz1 hz2 rfl (by decide) _ (f y).length _ rfl Oq16.out ⟨u0.heap.size, 0, none⟩ 1 1 (plCells (doc, (i : Int), z)) rfl rfl (pl_new (p := (doc, (i : Int), z)) Mq14.out) (pl_one _) (by unfold maxLen; omega) (by omega) (Nat.le_of_lt (Nat.lt_of_le_of_lt (by have := HMB.out.1; have := (HGW.out mb this).2; have := HSB.out; omega) Zq15.out)) ?_
           intro vq22 uq18 hwq19 hgq20 hlq21
           have Bq23 := Lib.hid (Bq10.out.grown hgq20 (fun e => (HGR.out b ((VGq4.out b e.symm).1)).1 rfl))
           have Nq24 := Lib.hid (Nq11.out.grown hgq20 (fun e => (HGR.out sb ((VGq4.out sb e.symm).1)).2.1 rfl))
           have Kq25 := Lib.hid (Kq12.out.grown hgq20 (fun g hg => (HGR.out g ((VGq4.out g hg).1)).2.2))
           have LGq26 := Lib.hid (LGq17.out.trans hgq20)
           have Zq28 : Hid (sb < uq18.heap.size) := Lib.hid (Nat.lt_of_lt_of_le Zq15.out hgq20.size)
           have LCq29 := Lib.hid (show vq22.ownBlock = (Value.slice Avq1 (f y).length cvq1).ownBlock ∨ ∃ g, vq22.ownBlock = some g ∧ u0.heap.size ≤ g from hlq21.imp id (fun e => ⟨_, e, LGq17.out.size⟩))
           have Oq27 := Lib.hid hwq19
           clear hwq19 hgq20 hlq21
           refine hK.out _ _ ⟨Bq23.out.cell 0, Nq24.out.cell 0, Nq24.out.cell 1⟩ (fun hz20 => ?_)
           clear hK K
           try simp only [Act.put, lz3, lz4, lz5]
           refine wpAnyH_ready (rs := [16]) (by kernel_rfl) (by simp) ?_
           refine AllReadyH.cons (o := ?oz21) ?hz21 ?sz21 AllReadyH.nil
           case hz21 => (simp only [lz0, lz1, lz2]; rfl)
           case sz21 =>
            intro K hK
            obtain ⟨uq30, hrq31, hpq32, hgq33⟩ := BKq5.out uq18 vq22 (doc, (i : Int), z) LGq26.out Oq27.out LCq29.out
            go_simp
            clear hrq31
            have Bq34 := Lib.hid (Bq23.out.grown hgq33 (fun e => HMB.out.2.1 (Option.some.inj e).symm))
            have Nq35 := Lib.hid (Nq24.out.grown hgq33 (fun e => HMB.out.2.2.1 (Option.some.inj e).symm))
            have Kq36 := Lib.hid (Kq25.out.grown hgq33 (fun g hg => by cases hg; exact HMB.out.2.2.2))
            have Pq37 := Lib.hid hpq32
            have Zq38 := Lib.hid (show u0.heap.size ≤ uq30.heap.size ∧ sb < uq30.heap.size from ⟨Nat.le_trans LGq26.out.size hgq33.size, Nat.lt_of_lt_of_le Zq28.out hgq33.size⟩)
            clear hpq32 hgq33
            refine hK.out _ _ ⟨Bq34.out.cell 0, Nq35.out.cell 0, Nq35.out.cell 1⟩ (fun hz22 => ?_)
            clear hK K
            try simp only [Act.put, lz3, lz4, lz5]
            refine wpAnyH_done (by kernel_rfl) ?_ _
            go_wp2
            go_roundw
            case rel =>
             refine ⟨i + 1, fun j => G j ∨ (u0.heap.size ≤ j ∧ j < uq30.heap.size), by omega, by go_num, (Pq37.out.lets HNXT.out (fun _ h => h)).more (by omega), Kq36.out, Bq34.out, fun j hj => ?_⟩
             have h1 := HSZ1.out
             have h2 := HSB.out
             have h3 := Zq38.out
             rcases hj with hj | hj
             ·have h4 := HGW.out j hj
              exact ⟨h4.1, by omega⟩
             ·exact ⟨.inr (Nat.le_trans LWSq7.out hj.1), hj.2⟩
            case measure => simp [Go.RowKit.intOf]; omega
        case sz15 =>
         intro K hK
         go_simp
         obtain ⟨uq39, huq40⟩ : ∃ zz, zz = u0.alloc (.cells #[.int .i64 doc, .int .i64 (i : Int), .int .i64 z] 165) := ⟨_, rfl⟩
         have Mq45 : Hid (Blk uq39 u0.heap.size 165 #[.int .i64 doc, .int .i64 (i : Int), .int .i64 z]) := Lib.hid (by rw [huq40]; exact Blk.new _ _ _)
         rw [← huq40]
         have hBq41 : Below u0.heap.size u0 uq39 := by rw [huq40]; exact (Below.refl _ u0).alloc (Nat.le_refl _) _
         have Bq41 := Lib.hid (HB2.out.below hBq41 HB2.out.lt)
         have Nq42 := Lib.hid (HN2.out.below hBq41 HN2.out.lt)
         have Kq43 := Lib.hid (show Kept F w uq39 from by rw [huq40]; exact HK2.out.alloc _)
         have Zq46 : Hid (sb < uq39.heap.size) := Lib.hid (Nat.lt_of_lt_of_le HSZ2.out hBq41.size)
         have Pq44 := Lib.hid (HP2.out.keep (w' := uq39) fun j hj => hBq41.block j (Nat.lt_of_lt_of_le (HGW.out j hj).2 (by have := HSZ2.out; have := HSB.out; omega)))
         clear huq40 hBq41
         refine hK.out _ _ ⟨Bq41.out.cell 0, Nq42.out.cell 0, Nq42.out.cell 1⟩ (fun hz23 => ?_)
         clear hK K
         try simp only [Act.put, lz3, lz4, lz5]
         refine wpAnyH_ready (rs := [10]) (by kernel_rfl) (by simp) ?_
         refine AllReadyH.cons (o := ?oz24) ?hz24 ?sz24 AllReadyH.nil
         case hz24 => (simp only [lz0, lz1, lz2]; rfl)
         case sz24 =>
          intro K hK
          obtain ⟨vq47, hrq48, hOq49, hVGq50, hBKq51⟩ := Pq44.out.step HROOM.out HYF.out
          obtain ⟨Avq47, cvq47, rfl⟩ := own_slice hOq49
          go_simp
          clear hrq48
          have Oq49 := Lib.hid hOq49
          have VGq50 := Lib.hid hVGq50
          have BKq51 := Lib.hid hBKq51
          have LGq52 := Lib.hid (World.grownBy.refl uq39 (Value.slice Avq47 (f y).length cvq47).ownBlock)
          clear hOq49 hVGq50 hBKq51
          have LWSq53 := Lib.hid (show w.heap.size ≤ uq39.heap.size from Kq43.out.size)
          refine hK.out _ _ ⟨Bq41.out.cell 0, Nq42.out.cell 0, Nq42.out.cell 1⟩ (fun hz25 => ?_)
          clear hK K
          try simp only [Act.put, lz3, lz4, lz5]
          refine wpAnyH_ready (rs := [15]) (by kernel_rfl) (by simp) ?_
          refine AllReadyH.cons (o := ?oz26) ?hz26 ?sz26 AllReadyH.nil
          case hz26 => (simp only [lz0, lz1, lz2]; rfl)
          case sz26 =>
           intro K hK
           refine step_append_recK _ rfl (.tmp 61) (.tmp 65) 154 rfl (mb + 1) 165 i0 _ 3 24 Tryz.underlying154 hi hz0 hz1 hz2 rfl (by decide) _ (f y).length _ rfl Oq49.out ⟨u0.heap.size, 0, none⟩ 1 1 (plCells (doc, (i : Int), z)) rfl rfl (pl_new (p := (doc, (i : Int), z)) Mq45.out) (pl_one _) (by unfold maxLen; omega) (by omega) (Nat.le_of_lt (Nat.lt_of_le_of_lt (by have := HMB.out.1; have := (HGW.out mb this).2; have := HSB.out; omega) Zq46.out)) ?_
           intro vq58 uq54 hwq55 hgq56 hlq57
           have Bq59 := Lib.hid (Bq41.out.grown hgq56 (fun e => (HGR.out b ((VGq50.out b e.symm).1)).1 rfl))
           have Nq60 := Lib.hid (Nq42.out.grown hgq56 (fun e => (HGR.out sb ((VGq50.out sb e.symm).1)).2.1 rfl))
           have Kq61 := Lib.hid (Kq43.out.grown hgq56 (fun g hg => (HGR.out g ((VGq50.out g hg).1)).2.2))
           have LGq62 := Lib.hid (LGq52.out.trans hgq56)
           have Zq64 : Hid (sb < uq54.heap.size) := Lib.hid (Nat.lt_of_lt_of_le Zq46.out hgq56.size)
           have LCq65 := Lib.hid (show vq58.ownBlock = (Value.slice Avq47 (f y).length cvq47).ownBlock ∨ ∃ g, vq58.ownBlock = some g ∧ uq39.heap.size ≤ g from hlq57.imp id (fun e => ⟨_, e, LGq52.out.size⟩))
           have Oq63 := Lib.hid hwq55
           clear hwq55 hgq56 hlq57
           refine hK.out _ _ ⟨Bq59.out.cell 0, Nq60.out.cell 0, Nq60.out.cell 1⟩ (fun hz27 => ?_)
           clear hK K
           try simp only [Act.put, lz3, lz4, lz5]
           refine wpAnyH_ready (rs := [16]) (by kernel_rfl) (by simp) ?_
           refine AllReadyH.cons (o := ?oz28) ?hz28 ?sz28 AllReadyH.nil
           case hz28 => (simp only [lz0, lz1, lz2]; rfl)
           case sz28 =>
            intro K hK
            obtain ⟨uq66, hrq67, hpq68, hgq69⟩ := BKq51.out uq54 vq58 (doc, (i : Int), z) LGq62.out Oq63.out LCq65.out
            go_simp
            clear hrq67
            have Bq70 := Lib.hid (Bq59.out.grown hgq69 (fun e => HMB.out.2.1 (Option.some.inj e).symm))
            have Nq71 := Lib.hid (Nq60.out.grown hgq69 (fun e => HMB.out.2.2.1 (Option.some.inj e).symm))
            have Kq72 := Lib.hid (Kq61.out.grown hgq69 (fun g hg => by cases hg; exact HMB.out.2.2.2))
            have Pq73 := Lib.hid hpq68
            have Zq74 := Lib.hid (show uq39.heap.size ≤ uq66.heap.size ∧ sb < uq66.heap.size from ⟨Nat.le_trans LGq62.out.size hgq69.size, Nat.lt_of_lt_of_le Zq64.out hgq69.size⟩)
            clear hpq68 hgq69
            refine hK.out _ _ ⟨Bq70.out.cell 0, Nq71.out.cell 0, Nq71.out.cell 1⟩ (fun hz29 => ?_)
            clear hK K
            try simp only [Act.put, lz3, lz4, lz5]
            refine wpAnyH_done (by kernel_rfl) ?_ _
            go_wp2
            go_roundw
            case rel =>
             refine ⟨i + 1, fun j => G j ∨ (uq39.heap.size ≤ j ∧ j < uq66.heap.size), by omega, by go_num, (Pq73.out.lets HNXT.out (fun _ h => h)).more (by omega), Kq72.out, Bq70.out, fun j hj => ?_⟩
             have h1 := HSZ1.out
             have h2 := HSB.out
             have h3 := Zq74.out
             rcases hj with hj | hj
             ·have h4 := HGW.out j hj
              exact ⟨h4.1, by omega⟩
             ·exact ⟨.inr (Nat.le_trans LWSq53.out hj.1), hj.2⟩
            case measure => simp [Go.RowKit.intOf]; omega
       ·obtain rfl : i = n := by omega
        have hlz : ¬ ((i : Int) < (i : Int)) := by omega
        have d1 : decide ((i : Int) < (i : Int)) = false := by simp
        have hwN : IntKind.i64.wrap ((N : Int) + 1) = (N : Int) + 1 := IntWalk.i64_in _ (by omega)
        have hwD : IntKind.i64.wrap (doc + 1) = doc + 1 := IntWalk.i64_in _ (by omega)
        have hB3 := HBW.out.set_ 1 (.int .i64 ((N : Int) + 1))
        have k2 := hB3.cell 2
        have fz2 := hB3.frozen 2
        simp only [lz3, lz5, lz4, lz0, lz1, lz2] at k2
        have hB4 := hB3.set_ 2 (.int .i64 (doc + 1))
        have HB4 := Lib.hid hB4
        clear hB3 hB4
        go_wp2
        go_ret
        obtain ⟨wf, hwf⟩ : ∃ z, z = (wr.setCell ⟨b, 1, none⟩ (.int .i64 ((N : Int) + 1))).setCell ⟨b, 2, none⟩ (.int .i64 (doc + 1)) := ⟨_, rfl⟩
        have hb4 := HB4.out
        rw [← hwf] at hb4 ⊢
        have hsz : wf.heap.size = wr.heap.size := by rw [hwf, size_setCell', size_setCell']
        have hoth : ∀ j, j ≠ b → wf.heap[j]? = wr.heap[j]? := fun j hj => by rw [hwf]; exact (heap_setCell_other _ _ _ hj).trans (heap_setCell_other _ _ _ hj)
        have hk4 : Kept F w wf := by rw [hwf]; exact (HKW.out.setCell (p := ⟨b, 1, none⟩) (.inl HFB.out) _).setCell (p := ⟨b, 2, none⟩) (.inl HFB.out) _
        have hadd : mAdd L x = L ++ [x] := by unfold mAdd; rw [if_pos HZ.out]
        have hjb : ∀ j, G j → j ≠ b := fun j hj => by
         have h1 := HGW.out j hj
         rcases h1.1 with h | h
         ·exact h.2
         ·omega
        refine ⟨by rw [HZ.out]; rfl, fun j => j = b ∨ G j, ?_, hk4, fun j hj => ?_⟩
        ·rw [hadd]
         refine ⟨.inl rfl, fun j hj => ?_, mb, ?_, ?_⟩
         ·rw [hsz]
          rcases hj with rfl | hj
          ·exact HBW.out.lt
          ·exact (HGW.out j hj).2
         ·rw [lastM_next, List.length_append, List.length_singleton, ← HN.out, ← HDOC.out]
          exact hb4
         ·refine ((HPM.out.keep fun j hj => hoth j (hjb j hj)).lets (fun t => ?_) (fun j hj => ⟨.inr hj, hjb j hj⟩)).more ?_
          ·rw [plOf_append, HTL.out]
           rfl
          ·rw [totT_append]
           simp [totT, HTL.out]
        ·rcases hj with rfl | hj
         ·exact .inl HFB.out
         ·exact (HGW.out j hj).1.imp (fun h => h.1) id
theorem m0Terms_any {w : World} {F : Nat → Prop} {b : Nat} {L : List MDoc} (h : M0 w F b L) (hW : MWF L) (hT : totT L ≤ 20000) : Calls Tryz.prog 31 #[.pointer (some ⟨b, 0, none⟩)] w (IntsBack w (mTerms L)) := by
 obtain ⟨h1, h2, mb, h3, h4⟩ := h
 obtain ⟨D, hM, hD⟩ := h4.own
 have c0 := h3.cell 0
 simp only [lz0, lz1] at c0
 have hmax : Maps.size D ≤ maxLen := by have := hM.size_le; unfold maxLen; omega
 have hbytes : Maps.size D * 8 ≤ 140737488355328 := by have := hM.size_le; omega
 have hup := terms_up L
 have hlen := terms_len L
 have hfit : ∀ x ∈ mTerms L, -9223372036854775808 ≤ x ∧ x ≤ 9223372036854775807 := fun x hx => by
  obtain ⟨y, hy, h5⟩ := terms_mem.1 hx
  have h6 := (hW.ok y hy).fit.1 x h5
  obtain ⟨i, hi, rfl⟩ := List.getElem_of_mem h5
  have h7 := ((hW.ok y hy).tok hi).1
  rw [List.getD_eq_getElem?_getD, List.getElem?_eq_getElem hi] at h7
  simp only [Option.getD_some] at h7
  omega
 have HKE := Lib.hid ((callsIn_wide (n := 5)).1 (Tryz.imaps_Keys (some mb) w))
 have hso : Calls Tryz.prog 69 #[.func (.func 127) #[] #[.pointer (some ⟨w.heap.size, 0, none⟩)]] (w.alloc (.cells #[.map (some mb)] 153)) (IntsBack w (mTerms L)) := by
  refine ((callsIn_wide (n := 5)).1 (Tryz.islices_Sorted_keys mb (totT L) D _ w hM hmax hbytes)).mono ?_
  rintro e2 w2 ⟨v, ss, rfl, hP, hrow, hnil, hb⟩
  have hk1 : ss.mergeSort leI = mTerms L := PMap.keys hM hD hup (fun t => plOf_some.symm) hP
  have hrow' : w2.ownsRow (w.alloc (.cells #[.map (some mb)] 153)).heap.size 3 1 v ss.length ((ss.mergeSort leI).map i64V) := hrow
  have hsl : ss.length = (mTerms L).length := by rw [← hk1]; exact (List.mergeSort_perm ss leI).length_eq.symm
  rw [hk1, hsl] at hrow'
  obtain ⟨A, c, rfl, hc⟩ := own_cap hrow'
  exact ⟨A, c, rfl, IntsIn.own hrow' (by unfold maxLen; omega) hfit, hc, ((Below.refl _ w).alloc (Nat.le_refl _) _).trans (hb.mono (by simp))⟩
 have HSO := Lib.hid hso
 clear hso hmax hbytes hfit hup hM hD h4 h3 h2 h1
 go_enter Tryz.func31, Tryz.ntmps31
 go_wp2_with (first
  | (go_at_call 76; refine HKE.out.mono ?_; rintro e2 w2 ⟨rfl, rfl⟩)
  | (go_at_call 69; refine HSO.out.mono ?_; rintro e2 w2 ⟨Ak, ck, rfl, hki, hck, hb2⟩))
 go_ret
 exact ⟨Ak, ck, rfl, hki, hck, hb2⟩
end Go.Proofs.YthcjikpabpgpfaaGreat
