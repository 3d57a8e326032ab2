/- ManifestTells: what the program says is what the document says. -/
import Derived.Test.YtmhiekbpmoikfaaGreatDoorMqSide2
import Derived.Test.YtmhiekbpmoikfaaGreatDoorZp1
import Derived.Test.YtmhiekbpmoikfaaGreatDoorSame
import Derived.Test.YtmhiekbpmoikfaaGreatDoorMnRef2
import Derived.Test.YtmhiekbpmoikfaaGreatDoorMnRef3
import Derived.Test.YtmhiekbpmoikfaaGreatDoorMnRef4
import Derived.Test.YtmhiekbpmoikfaaGreatDoorZp10
import Derived.Deep.RegionHeld3
namespace Go.Proofs.YtmhiekbpmoikfaaGreatDoor
open Go.RowKit Go.Maps Go.WideMaps
set_option linter.unusedSimpArgs false

def putQ (m : Mf) : Nm := if mErr m = 0 then mPutB m else []
def getG (x : Nm) : Mf × Int := match mGetB x with | none => (⟨0, 0, []⟩, 3) | some m => (m, 0)
theorem putQ_len (m : Mf) : (putQ m).length ≤ 1004 := by
  unfold putQ
  split
  · rename_i h; exact (mErr_put h).1
  · simp
theorem put_says {w w' : World} {m : Mf} {e : Ending} (h : MPutOut w m e w') : ∃ A c, e = .returned (.tuple #[.slice A (putQ m).length c, .int .i64 (mErr m)]) ∧ BytesIn w' A (putQ m).length (putQ m) ∧ Below w.heap.size w w' := by
  obtain ⟨hb, hy, hn⟩ := h
  by_cases hm : mOk m
  · obtain ⟨A, c, rfl, ho⟩ := hy hm
    have h0 := mErr_zero hm
    have hq : putQ m = mPutB m := by unfold putQ; rw [if_pos h0]
    refine ⟨A, c, by rw [hq, h0], ?_, hb⟩
    rw [hq]
    exact BytesIn.own ho (by have := (mErr_put h0).1; unfold maxLen; omega)
  · have h1 := mErr_one hm
    have hq : putQ m = [] := by unfold putQ; rw [if_neg (by omega)]
    refine ⟨none, 0, by rw [hq, h1, hn hm]; rfl, ?_, hb⟩
    rw [hq]
    exact BytesIn.nil _
theorem get_says {w w' : World} {x : Nm} {e : Ending} (h : MGetOut w x e w') : ∃ A c, e = .returned (.tuple #[.agg #[.int .i64 (getG x).1.gen, .int .i64 (getG x).1.next, .slice A (getG x).1.refs.length c], .int .i64 (getG x).2]) ∧ RefsIn w' A (getG x).1.refs.length (getG x).1.refs ∧ Below w.heap.size w w' := by
  obtain ⟨hb, h⟩ := h
  cases hg : mGetB x with
  | none =>
    rw [hg] at h
    have hq : getG x = (⟨0, 0, []⟩, 3) := by unfold getG; rw [hg]
    rw [hq]
    exact ⟨none, 0, h, RefsIn.none_ _, hb⟩
  | some m =>
    rw [hg] at h
    have hq : getG x = (m, 0) := by unfold getG; rw [hg]
    rw [hq]
    obtain ⟨v, rfl, ho⟩ := h
    obtain ⟨A, c, rfl⟩ := own_slice ho
    have hmo := (mGet_back hg).1
    exact ⟨A, c, rfl, RefsIn.own ho rfl (by show m.refs.length ≤ maxLen; have := hmo.1; unfold mTop at this; unfold maxLen; omega) (refs_bound_ok hmo), hb⟩

set_option maxHeartbeats 16000000 in
set_option maxRecDepth 100000 in
theorem manifestTells_any (W : World) (HP : Pow10 W) (m : Mf) (A : Option Addr) (n c : Nat) (hr : RefsIn W A n m.refs) (hc : n ≤ c) (B : Option Addr) (k d : Nat) (l : Nm) (hb : BytesIn W B k l) (hd : k ≤ d) (num : Int) (hnum : -9223372036854775808 ≤ num ∧ num ≤ 9223372036854775807) :
    Calls Tryz.prog 3 #[.agg #[.int .i64 m.gen, .int .i64 m.next, .slice A n c], .slice B k d, .int .i64 num] W fun e w' => e = .returned (.bool true) ∧ Below W.heap.size W w' := by
  have HPW := Lib.hid HP
  have hnm := hr.fit
  have hkm := hb.1
  unfold maxLen at hnm hkm
  obtain ⟨w1, hw1⟩ : ∃ w1, w1 = W.alloc (.cells #[.int .i64 m.gen, .int .i64 m.next, .slice A n c] 24) := ⟨_, rfl⟩
  obtain ⟨p, hp⟩ : ∃ p, p = W.heap.size := ⟨_, rfl⟩
  have hb1 : Below W.heap.size W w1 := by rw [hw1]; exact (Below.refl _ W).alloc (Nat.le_refl _) _
  have hk0 : Blk w1 p 24 #[.int .i64 m.gen, .int .i64 m.next, .slice A n c] := by rw [hw1, hp]; exact Blk.new _ _ _
  have HB1 := Lib.hid hb1
  have HALL : Hid (∀ u : World, Below w1.heap.size w1 u → Blk u p 24 #[.int .i64 m.gen, .int .i64 m.next, .slice A n c] ∧ BytesIn u B k l ∧ RefsIn u A n m.refs ∧ Pow10 u ∧ Below W.heap.size W u) := Lib.hid (fun u hu => by
    have h2 := below_then hb1 hu hb1.size
    exact ⟨hk0.below hu hk0.lt, hb.below h2, hr.below h2, HP.later h2 (Nat.le_refl _), h2⟩)
  have HW1 := Lib.hid hw1
  have HPP := Lib.hid hp
  have HNUM := Lib.hid hnum
  have HC := Lib.hid hc
  have HD := Lib.hid hd
  clear hw1 hp hb1 hk0 hr hb HP hnum hc hd
  go_enter Tryz.func3, Tryz.ntmps3
  go_upto_region 1 with fail
  rw [← HW1.out, ← HPP.out]
  go_wp2_with fail
  refine (mqHead_any w1 (HPW.out.later HB1.out (Nat.le_refl _))).mono ?_
  rintro e w2 ⟨rfl, hb2⟩
  have HB2 := Lib.hid hb2
  obtain ⟨k0, by0, r1, -, bw⟩ := HALL.out w2 hb2
  have HBF := Lib.hid bw
  have f0 := k0.cell 0
  have f1 := k0.cell 1
  have f2 := k0.cell 2
  simp only [List.getElem?_toArray, List.getElem?_cons_zero, List.getElem?_cons_succ] at f0 f1 f2
  have HPC := Lib.hid (pPut_any w2 m A n c r1)
  clear k0 r1 bw hb2 by0
  by_cases hn : n ≤ 200
  case neg =>
    have hn' : (200 : Int) < (n : Int) := by omega
    clear hn
    go_wp2
    go_ret
    exact ⟨rfl, HBF.out⟩
  have hn' : ¬ (200 : Int) < (n : Int) := by omega
  by_cases hk : k ≤ 20000
  case neg =>
    have hk' : (20000 : Int) < (k : Int) := by omega
    clear hn hk
    go_wp2
    go_ret
    exact ⟨rfl, HBF.out⟩
  have hk' : ¬ (20000 : Int) < (k : Int) := by omega
  have HKK := Lib.hid hk
  clear hn hk HBF
  go_wp2_with fail
  refine HPC.out.mono ?_
  intro e w3 h3
  obtain ⟨A3, c3, rfl, hi3, hb3⟩ := put_says h3
  obtain ⟨Q, hQ⟩ : ∃ Q, Q = putQ m := ⟨_, rfl⟩
  have hQl : Q.length ≤ 1004 := by rw [hQ]; exact putQ_len m
  rw [← hQ] at hi3 ⊢
  obtain ⟨qn, hqn⟩ : ∃ qn, qn = Q.length := ⟨_, rfl⟩
  rw [← hqn] at hi3 hQl ⊢
  have HQ := Lib.hid hQ
  have HQN := Lib.hid hqn
  have HI3 := Lib.hid hi3
  have HB3 := Lib.hid (below_then HB2.out hb3 HB2.out.size)
  obtain ⟨k0, by0, r1, -, bw⟩ := HALL.out w3 HB3.out
  clear f0 f1 f2
  have f0 := k0.cell 0
  have f1 := k0.cell 1
  have f2 := k0.cell 2
  simp only [List.getElem?_toArray, List.getElem?_cons_zero, List.getElem?_cons_succ] at f0 f1 f2
  have HRC := Lib.hid (r15Put_any w3 m A n c r1 HC.out)
  clear k0 r1 bw by0 h3 hQ hqn hi3 hb3 HPC
  go_wp2_with fail
  refine HRC.out.mono ?_
  intro e w4 h4
  obtain ⟨A4, c4, rfl, hi4, hb4⟩ := put_says h4
  rw [← HQ.out, ← HQN.out] at hi4 ⊢
  have HI4 := Lib.hid hi4
  have HI34 := Lib.hid (HI3.out.below hb4)
  have HB4 := Lib.hid (below_then HB3.out hb4 HB3.out.size)
  obtain ⟨k0, by0, r1, -, bw⟩ := HALL.out w4 HB4.out
  have HGC := Lib.hid (pGet_any w4 B k d l by0 HD.out (by have := HKK.out; omega))
  clear k0 r1 bw by0 h4 hi4 hb4 HRC f0 f1 f2
  go_wp2_with fail
  refine HGC.out.mono ?_
  intro e w5 h5
  obtain ⟨A5, c5, rfl, hr5, hb5⟩ := get_says h5
  obtain ⟨g, er, hG⟩ : ∃ g er, getG l = (g, er) := ⟨_, _, rfl⟩
  rw [hG] at hr5 ⊢
  simp only at hr5 ⊢
  obtain ⟨gen, nxt, gl⟩ := g
  simp only at hr5 ⊢
  obtain ⟨gn, hgn⟩ : ∃ gn, gn = gl.length := ⟨_, rfl⟩
  rw [← hgn] at hr5 ⊢
  have HG := Lib.hid hG
  have HGN := Lib.hid hgn
  obtain ⟨bx, hbx⟩ : ∃ z, z = w5.heap.size := ⟨_, rfl⟩
  obtain ⟨w5a, hw5a⟩ : ∃ z, z = w5.alloc (.cells #[.int .i64 gen, .int .i64 nxt, .slice A5 gn c5] 24) := ⟨_, rfl⟩
  have hb5a : Below w5.heap.size w5 w5a := by rw [hw5a]; exact (Below.refl _ w5).alloc (Nat.le_refl _) _
  have HX := Lib.hid (show Blk w5a bx 24 #[.int .i64 gen, .int .i64 nxt, .slice A5 gn c5] by rw [hw5a, hbx]; exact Blk.new _ _ _)
  have HB45 := Lib.hid (below_then hb5 hb5a hb5.size)
  have HR5 := Lib.hid (hr5.below hb5a)
  have HB5 := Lib.hid (below_then HB4.out HB45.out HB4.out.size)
  obtain ⟨k0, by0, r1, -, bw⟩ := HALL.out w5a HB5.out
  have HGC2 := Lib.hid (r15Get_any w5a B k d l by0 HD.out (by have := HKK.out; omega))
  have HW5 := Lib.hid hw5a
  have HBX := Lib.hid hbx
  clear k0 r1 bw by0 h5 hr5 hb5 HGC hG hgn hbx hw5a hb5a
  go_upto_region 7 with fail
  rw [← HW5.out, ← HBX.out]
  go_wp2_with fail
  refine HGC2.out.mono ?_
  intro e w6 h6
  obtain ⟨A6, c6, rfl, hr6, hb6⟩ := get_says h6
  rw [HG.out] at hr6 ⊢
  simp only at hr6 ⊢
  rw [← HGN.out] at hr6 ⊢
  obtain ⟨bz, hbz⟩ : ∃ z, z = w6.heap.size := ⟨_, rfl⟩
  obtain ⟨w7, hw7⟩ : ∃ z, z = w6.alloc (.cells #[.int .i64 gen, .int .i64 nxt, .slice A6 gn c6] 24) := ⟨_, rfl⟩
  have hb7 : Below w6.heap.size w6 w7 := by rw [hw7]; exact (Below.refl _ w6).alloc (Nat.le_refl _) _
  have HZ := Lib.hid (show Blk w7 bz 24 #[.int .i64 gen, .int .i64 nxt, .slice A6 gn c6] by rw [hw7, hbz]; exact Blk.new _ _ _)
  have HB57 := Lib.hid (below_then hb6 hb7 hb6.size)
  have HB7 := Lib.hid (below_then HB5.out HB57.out HB5.out.size)
  have HB47 := Lib.hid (below_then HB45.out HB57.out HB45.out.size)
  have HR6 := Lib.hid (hr6.below hb7)
  have HR57 := Lib.hid (HR5.out.below HB57.out)
  have HX7 := Lib.hid (HX.out.below HB57.out HX.out.lt)
  have HI37 := Lib.hid (HI34.out.below HB47.out)
  have HI47 := Lib.hid (HI4.out.below HB47.out)
  have HW7 := Lib.hid hw7
  have HBZ := Lib.hid hbz
  clear h6 hr6 hb6 hb7 hw7 hbz HGC2
  have HS : Hid (∀ u, Below w7.heap.size w7 u → (fun u => u.cell? ⟨p, 0, none⟩ = some (.int .i64 m.gen) ∧ u.cell? ⟨p, 1, none⟩ = some (.int .i64 m.next) ∧ u.cell? ⟨p, 2, none⟩ = some (.slice A n c) ∧ u.cell? ⟨bx, 0, none⟩ = some (.int .i64 gen) ∧ u.cell? ⟨bx, 1, none⟩ = some (.int .i64 nxt) ∧ u.cell? ⟨bx, 2, none⟩ = some (.slice A5 gn c5) ∧ u.cell? ⟨bz, 0, none⟩ = some (.int .i64 gen) ∧ u.cell? ⟨bz, 1, none⟩ = some (.int .i64 nxt) ∧ u.cell? ⟨bz, 2, none⟩ = some (.slice A6 gn c6) ∧ (convert 25 9 (.slice A3 qn c3)).run Tryz.prog u = .ok (.string ⟨Q.toArray⟩) u ∧ (convert 25 9 (.slice A4 qn c4)).run Tryz.prog u = .ok (.string ⟨Q.toArray⟩) u) u) := Lib.hid (fun u hu => by
    have k0 := (HALL.out w7 HB7.out).1.below hu (HALL.out w7 HB7.out).1.lt
    have k1 := HX7.out.below hu HX7.out.lt
    have k2 := HZ.out.below hu HZ.out.lt
    exact ⟨k0.cell 0, k0.cell 1, k0.cell 2, k1.cell 0, k1.cell 1, k1.cell 2, k2.cell 0, k2.cell 1, k2.cell 2, str_of (HI37.out.below hu) c3, str_of (HI47.out.below hu) c4⟩)
  have HREF : Hid (∀ u, Below w7.heap.size w7 u → RefsIn u A n m.refs ∧ Pow10 u ∧ Below W.heap.size W u ∧ RefsIn u A5 gn gl ∧ RefsIn u A6 gn gl) := Lib.hid (fun u hu => by
    obtain ⟨-, -, r1, pw, bw⟩ := HALL.out u (below_then HB7.out hu HB7.out.size)
    exact ⟨r1, pw, bw, HR57.out.below hu, HR6.out.below hu⟩)
  go_upto_region 8 with fail
  rw [← HW7.out, ← HBZ.out]
  clear HALL HB1 HB2 HB3 HB4 HB5 HB7 HB45 HB47 HB57 HI3 HI4 HI34 HI37 HI47 HR5 HR6 HR57 HX HX7 HZ HW1 HW5 HW7 HBX HBZ HPP
  go_wp2_with fail
  refine wp_region_held_drew (S := (fun u => u.cell? ⟨p, 0, none⟩ = some (.int .i64 m.gen) ∧ u.cell? ⟨p, 1, none⟩ = some (.int .i64 m.next) ∧ u.cell? ⟨p, 2, none⟩ = some (.slice A n c) ∧ u.cell? ⟨bx, 0, none⟩ = some (.int .i64 gen) ∧ u.cell? ⟨bx, 1, none⟩ = some (.int .i64 nxt) ∧ u.cell? ⟨bx, 2, none⟩ = some (.slice A5 gn c5) ∧ u.cell? ⟨bz, 0, none⟩ = some (.int .i64 gen) ∧ u.cell? ⟨bz, 1, none⟩ = some (.int .i64 nxt) ∧ u.cell? ⟨bz, 2, none⟩ = some (.slice A6 gn c6) ∧ (convert 25 9 (.slice A3 qn c3)).run Tryz.prog u = .ok (.string ⟨Q.toArray⟩) u ∧ (convert 25 9 (.slice A4 qn c4)).run Tryz.prog u = .ok (.string ⟨Q.toArray⟩) u)) (by kernel_rfl) ?_ (fun hHeld => ?_)
  · exact HS.out _ (below_drewN (Below.refl _ w7) 1)
  have HU0 := Lib.hid (below_drewN (Below.refl w7.heap.size w7) 1)
  refine wpAnyH_take (i := 0) (oi := ?oia10) (v := ?va10) ?hia10 (by kernel_rfl) (by kernel_rfl) (by kernel_rfl) ?hQa10 (Or.inl ⟨?hwa10, ?hya10⟩) (by assumption) ?resta10
  case hia10 => (first | (simp only [List.getElem?_toArray, List.getElem?_cons_zero, List.getElem?_cons_succ]; rfl) | rfl)
  case hQa10 => exact fun _ _ _ h => h
  case hwa10 => rfl
  case hya10 => ((intro w hSw; obtain ⟨hs1, hs2, hs3, hs4, hs5, hs6, hs7, hs8, hs9, hsA, hsB⟩ := hSw; go_simp); first | done | with_reducible rfl)
  try simp only [Act.put, List.setIfInBounds_toArray, List.set_cons_zero, List.set_cons_succ]
  refine wpAnyH_take (i := 1) (oi := ?oia21) (v := ?va21) ?hia21 (by kernel_rfl) (by kernel_rfl) (by kernel_rfl) ?hQa21 (Or.inl ⟨?hwa21, ?hya21⟩) (by assumption) ?resta21
  case hia21 => (first | (simp only [List.getElem?_toArray, List.getElem?_cons_zero, List.getElem?_cons_succ]; rfl) | rfl)
  case hQa21 => exact fun _ _ _ h => h
  case hwa21 => rfl
  case hya21 => ((intro w hSw; obtain ⟨hs1, hs2, hs3, hs4, hs5, hs6, hs7, hs8, hs9, hsA, hsB⟩ := hSw; go_simp); first | done | with_reducible rfl)
  try simp only [Act.put, List.setIfInBounds_toArray, List.set_cons_zero, List.set_cons_succ]
  refine wpAnyH_take (i := 2) (oi := ?oia32) (v := ?va32) ?hia32 (by kernel_rfl) (by kernel_rfl) (by kernel_rfl) ?hQa32 (Or.inl ⟨?hwa32, ?hya32⟩) (by assumption) ?resta32
  case hia32 => (first | (simp only [List.getElem?_toArray, List.getElem?_cons_zero, List.getElem?_cons_succ]; rfl) | rfl)
  case hQa32 => exact fun _ _ _ h => h
  case hwa32 => rfl
  case hya32 => ((intro w hSw; obtain ⟨hs1, hs2, hs3, hs4, hs5, hs6, hs7, hs8, hs9, hsA, hsB⟩ := hSw; go_simp); first | done | with_reducible rfl)
  try simp only [Act.put, List.setIfInBounds_toArray, List.set_cons_zero, List.set_cons_succ]
  refine wpAnyH_take (i := 4) (oi := ?oia44) (v := ?va44) ?hia44 (by kernel_rfl) (by kernel_rfl) (by kernel_rfl) ?hQa44 (Or.inl ⟨?hwa44, ?hya44⟩) (by assumption) ?resta44
  case hia44 => (first | (simp only [List.getElem?_toArray, List.getElem?_cons_zero, List.getElem?_cons_succ]; rfl) | rfl)
  case hQa44 => exact fun _ _ _ h => h
  case hwa44 => rfl
  case hya44 => ((intro w hSw; obtain ⟨hs1, hs2, hs3, hs4, hs5, hs6, hs7, hs8, hs9, hsA, hsB⟩ := hSw; go_simp); first | done | with_reducible rfl)
  try simp only [Act.put, List.setIfInBounds_toArray, List.set_cons_zero, List.set_cons_succ]
  refine wpAnyH_ready (rs := [3]) (by kernel_rfl) (by simp) ?_
  refine AllReadyH.cons (o := ?oc3) ?hcc3 ?stc3 AllReadyH.nil
  case hcc3 => (simp only [List.getElem?_toArray, List.getElem?_cons_zero, List.getElem?_cons_succ]; rfl)
  intro K hK
  go_simp
  refine (pCheck_any _ m A n c (HREF.out _ HU0.out).1).mono ?_
  rintro e uv1 ⟨rfl, hb1⟩
  have HU1 := Lib.hid (below_then HU0.out hb1 HU0.out.size)
  clear hb1
  go_wp2_with fail
  refine hK.out _ _ (HS.out _ HU1.out) (fun _ => ?_)
  clear hK K
  try simp only [Act.put, List.setIfInBounds_toArray, List.set_cons_zero, List.set_cons_succ]
  refine wpAnyH_ready (rs := [5]) (by kernel_rfl) (by simp) ?_
  refine AllReadyH.cons (o := ?oc5) ?hcc5 ?stc5 AllReadyH.nil
  case hcc5 => (simp only [List.getElem?_toArray, List.getElem?_cons_zero, List.getElem?_cons_succ]; rfl)
  intro K hK
  go_simp
  refine (r15Check_any _ m A n c (HREF.out _ HU1.out).1 HC.out).mono ?_
  rintro e uv2 ⟨rfl, hb2⟩
  have HU2 := Lib.hid (below_then HU1.out hb2 HU1.out.size)
  clear hb2
  go_wp2_with fail
  refine hK.out _ _ (HS.out _ HU2.out) (fun _ => ?_)
  clear hK K
  try simp only [Act.put, List.setIfInBounds_toArray, List.set_cons_zero, List.set_cons_succ]
  refine wpAnyH_take (i := 6) (oi := ?oia56) (v := ?va56) ?hia56 (by kernel_rfl) (by kernel_rfl) (by kernel_rfl) ?hQa56 (Or.inl ⟨?hwa56, ?hya56⟩) (by assumption) ?resta56
  case hia56 => (first | (simp only [List.getElem?_toArray, List.getElem?_cons_zero, List.getElem?_cons_succ]; rfl) | rfl)
  case hQa56 => exact fun _ _ _ h => h
  case hwa56 => rfl
  case hya56 => ((intro w hSw; obtain ⟨hs1, hs2, hs3, hs4, hs5, hs6, hs7, hs8, hs9, hsA, hsB⟩ := hSw; go_simp); first | done | with_reducible rfl)
  try simp only [Act.put, List.setIfInBounds_toArray, List.set_cons_zero, List.set_cons_succ]
  refine wpAnyH_take (i := 7) (oi := ?oia67) (v := ?va67) ?hia67 (by kernel_rfl) (by kernel_rfl) (by kernel_rfl) ?hQa67 (Or.inl ⟨?hwa67, ?hya67⟩) (by assumption) ?resta67
  case hia67 => (first | (simp only [List.getElem?_toArray, List.getElem?_cons_zero, List.getElem?_cons_succ]; rfl) | rfl)
  case hQa67 => exact fun _ _ _ h => h
  case hwa67 => rfl
  case hya67 => ((intro w hSw; obtain ⟨hs1, hs2, hs3, hs4, hs5, hs6, hs7, hs8, hs9, hsA, hsB⟩ := hSw; go_simp); first | done | with_reducible rfl)
  try simp only [Act.put, List.setIfInBounds_toArray, List.set_cons_zero, List.set_cons_succ]
  refine wpAnyH_take (i := 8) (oi := ?oia78) (v := ?va78) ?hia78 (by kernel_rfl) (by kernel_rfl) (by kernel_rfl) ?hQa78 (Or.inl ⟨?hwa78, ?hya78⟩) (by assumption) ?resta78
  case hia78 => (first | (simp only [List.getElem?_toArray, List.getElem?_cons_zero, List.getElem?_cons_succ]; rfl) | rfl)
  case hQa78 => exact fun _ _ _ h => h
  case hwa78 => rfl
  case hya78 => ((intro w hSw; obtain ⟨hs1, hs2, hs3, hs4, hs5, hs6, hs7, hs8, hs9, hsA, hsB⟩ := hSw; go_simp); first | done | with_reducible rfl)
  try simp only [Act.put, List.setIfInBounds_toArray, List.set_cons_zero, List.set_cons_succ]
  refine wpAnyH_take (i := 9) (oi := ?oia89) (v := ?va89) ?hia89 (by kernel_rfl) (by kernel_rfl) (by kernel_rfl) ?hQa89 (Or.inl ⟨?hwa89, ?hya89⟩) (by assumption) ?resta89
  case hia89 => (first | (simp only [List.getElem?_toArray, List.getElem?_cons_zero, List.getElem?_cons_succ]; rfl) | rfl)
  case hQa89 => exact fun _ _ _ h => h
  case hwa89 => rfl
  case hya89 => ((intro w hSw; obtain ⟨hs1, hs2, hs3, hs4, hs5, hs6, hs7, hs8, hs9, hsA, hsB⟩ := hSw; go_simp); first | done | with_reducible rfl)
  try simp only [Act.put, List.setIfInBounds_toArray, List.set_cons_zero, List.set_cons_succ]
  refine wpAnyH_take (i := 10) (oi := ?oia910) (v := ?va910) ?hia910 (by kernel_rfl) (by kernel_rfl) (by kernel_rfl) ?hQa910 (Or.inl ⟨?hwa910, ?hya910⟩) (by assumption) ?resta910
  case hia910 => (first | (simp only [List.getElem?_toArray, List.getElem?_cons_zero, List.getElem?_cons_succ]; rfl) | rfl)
  case hQa910 => exact fun _ _ _ h => h
  case hwa910 => rfl
  case hya910 => ((intro w hSw; obtain ⟨hs1, hs2, hs3, hs4, hs5, hs6, hs7, hs8, hs9, hsA, hsB⟩ := hSw; go_simp); first | done | with_reducible rfl)
  try simp only [Act.put, List.setIfInBounds_toArray, List.set_cons_zero, List.set_cons_succ]
  refine wpAnyH_take (i := 11) (oi := ?oia1011) (v := ?va1011) ?hia1011 (by kernel_rfl) (by kernel_rfl) (by kernel_rfl) ?hQa1011 (Or.inl ⟨?hwa1011, ?hya1011⟩) (by assumption) ?resta1011
  case hia1011 => (first | (simp only [List.getElem?_toArray, List.getElem?_cons_zero, List.getElem?_cons_succ]; rfl) | rfl)
  case hQa1011 => exact fun _ _ _ h => h
  case hwa1011 => rfl
  case hya1011 => ((intro w hSw; obtain ⟨hs1, hs2, hs3, hs4, hs5, hs6, hs7, hs8, hs9, hsA, hsB⟩ := hSw; go_simp); first | done | with_reducible rfl)
  try simp only [Act.put, List.setIfInBounds_toArray, List.set_cons_zero, List.set_cons_succ]
  refine wpAnyH_take (i := 12) (oi := ?oia1112) (v := ?va1112) ?hia1112 (by kernel_rfl) (by kernel_rfl) (by kernel_rfl) ?hQa1112 (Or.inl ⟨?hwa1112, ?hya1112⟩) (by assumption) ?resta1112
  case hia1112 => (first | (simp only [List.getElem?_toArray, List.getElem?_cons_zero, List.getElem?_cons_succ]; rfl) | rfl)
  case hQa1112 => exact fun _ _ _ h => h
  case hwa1112 => rfl
  case hya1112 => ((intro w hSw; obtain ⟨hs1, hs2, hs3, hs4, hs5, hs6, hs7, hs8, hs9, hsA, hsB⟩ := hSw; go_simp); first | done | with_reducible rfl)
  try simp only [Act.put, List.setIfInBounds_toArray, List.set_cons_zero, List.set_cons_succ]
  refine wpAnyH_take (i := 13) (oi := ?oia1213) (v := ?va1213) ?hia1213 (by kernel_rfl) (by kernel_rfl) (by kernel_rfl) ?hQa1213 (Or.inl ⟨?hwa1213, ?hya1213⟩) (by assumption) ?resta1213
  case hia1213 => (first | (simp only [List.getElem?_toArray, List.getElem?_cons_zero, List.getElem?_cons_succ]; rfl) | rfl)
  case hQa1213 => exact fun _ _ _ h => h
  case hwa1213 => rfl
  case hya1213 => ((intro w hSw; obtain ⟨hs1, hs2, hs3, hs4, hs5, hs6, hs7, hs8, hs9, hsA, hsB⟩ := hSw; go_simp); first | done | with_reducible rfl)
  try simp only [Act.put, List.setIfInBounds_toArray, List.set_cons_zero, List.set_cons_succ]
  refine wpAnyH_take (i := 14) (oi := ?oia1314) (v := ?va1314) ?hia1314 (by kernel_rfl) (by kernel_rfl) (by kernel_rfl) ?hQa1314 (Or.inl ⟨?hwa1314, ?hya1314⟩) (by assumption) ?resta1314
  case hia1314 => (first | (simp only [List.getElem?_toArray, List.getElem?_cons_zero, List.getElem?_cons_succ]; rfl) | rfl)
  case hQa1314 => exact fun _ _ _ h => h
  case hwa1314 => rfl
  case hya1314 => ((intro w hSw; obtain ⟨hs1, hs2, hs3, hs4, hs5, hs6, hs7, hs8, hs9, hsA, hsB⟩ := hSw; go_simp); first | done | with_reducible rfl)
  try simp only [Act.put, List.setIfInBounds_toArray, List.set_cons_zero, List.set_cons_succ]
  refine wpAnyH_take (i := 15) (oi := ?oia1415) (v := ?va1415) ?hia1415 (by kernel_rfl) (by kernel_rfl) (by kernel_rfl) ?hQa1415 (Or.inl ⟨?hwa1415, ?hya1415⟩) (by assumption) ?resta1415
  case hia1415 => (first | (simp only [List.getElem?_toArray, List.getElem?_cons_zero, List.getElem?_cons_succ]; rfl) | rfl)
  case hQa1415 => exact fun _ _ _ h => h
  case hwa1415 => rfl
  case hya1415 => ((intro w hSw; obtain ⟨hs1, hs2, hs3, hs4, hs5, hs6, hs7, hs8, hs9, hsA, hsB⟩ := hSw; go_simp); first | done | with_reducible rfl)
  try simp only [Act.put, List.setIfInBounds_toArray, List.set_cons_zero, List.set_cons_succ]
  refine wpAnyH_take (i := 16) (oi := ?oia1516) (v := ?va1516) ?hia1516 (by kernel_rfl) (by kernel_rfl) (by kernel_rfl) ?hQa1516 (Or.inl ⟨?hwa1516, ?hya1516⟩) (by assumption) ?resta1516
  case hia1516 => (first | (simp only [List.getElem?_toArray, List.getElem?_cons_zero, List.getElem?_cons_succ]; rfl) | rfl)
  case hQa1516 => exact fun _ _ _ h => h
  case hwa1516 => rfl
  case hya1516 => ((intro w hSw; obtain ⟨hs1, hs2, hs3, hs4, hs5, hs6, hs7, hs8, hs9, hsA, hsB⟩ := hSw; go_simp); first | done | with_reducible rfl)
  try simp only [Act.put, List.setIfInBounds_toArray, List.set_cons_zero, List.set_cons_succ]
  refine wpAnyH_take (i := 17) (oi := ?oia1617) (v := ?va1617) ?hia1617 (by kernel_rfl) (by kernel_rfl) (by kernel_rfl) ?hQa1617 (Or.inl ⟨?hwa1617, ?hya1617⟩) (by assumption) ?resta1617
  case hia1617 => (first | (simp only [List.getElem?_toArray, List.getElem?_cons_zero, List.getElem?_cons_succ]; rfl) | rfl)
  case hQa1617 => exact fun _ _ _ h => h
  case hwa1617 => rfl
  case hya1617 => ((intro w hSw; obtain ⟨hs1, hs2, hs3, hs4, hs5, hs6, hs7, hs8, hs9, hsA, hsB⟩ := hSw; go_simp); first | done | with_reducible rfl)
  try simp only [Act.put, List.setIfInBounds_toArray, List.set_cons_zero, List.set_cons_succ]
  refine wpAnyH_take (i := 18) (oi := ?oia1718) (v := ?va1718) ?hia1718 (by kernel_rfl) (by kernel_rfl) (by kernel_rfl) ?hQa1718 (Or.inl ⟨?hwa1718, ?hya1718⟩) (by assumption) ?resta1718
  case hia1718 => (first | (simp only [List.getElem?_toArray, List.getElem?_cons_zero, List.getElem?_cons_succ]; rfl) | rfl)
  case hQa1718 => exact fun _ _ _ h => h
  case hwa1718 => rfl
  case hya1718 => ((intro w hSw; obtain ⟨hs1, hs2, hs3, hs4, hs5, hs6, hs7, hs8, hs9, hsA, hsB⟩ := hSw; go_simp); first | done | with_reducible rfl)
  try simp only [Act.put, List.setIfInBounds_toArray, List.set_cons_zero, List.set_cons_succ]
  refine wpAnyH_take (i := 19) (oi := ?oia1819) (v := ?va1819) ?hia1819 (by kernel_rfl) (by kernel_rfl) (by kernel_rfl) ?hQa1819 (Or.inl ⟨?hwa1819, ?hya1819⟩) (by assumption) ?resta1819
  case hia1819 => (first | (simp only [List.getElem?_toArray, List.getElem?_cons_zero, List.getElem?_cons_succ]; rfl) | rfl)
  case hQa1819 => exact fun _ _ _ h => h
  case hwa1819 => rfl
  case hya1819 => ((intro w hSw; obtain ⟨hs1, hs2, hs3, hs4, hs5, hs6, hs7, hs8, hs9, hsA, hsB⟩ := hSw; go_simp); first | done | with_reducible rfl)
  try simp only [Act.put, List.setIfInBounds_toArray, List.set_cons_zero, List.set_cons_succ]
  refine wpAnyH_take (i := 20) (oi := ?oia1920) (v := ?va1920) ?hia1920 (by kernel_rfl) (by kernel_rfl) (by kernel_rfl) ?hQa1920 (Or.inl ⟨?hwa1920, ?hya1920⟩) (by assumption) ?resta1920
  case hia1920 => (first | (simp only [List.getElem?_toArray, List.getElem?_cons_zero, List.getElem?_cons_succ]; rfl) | rfl)
  case hQa1920 => exact fun _ _ _ h => h
  case hwa1920 => rfl
  case hya1920 => ((intro w hSw; obtain ⟨hs1, hs2, hs3, hs4, hs5, hs6, hs7, hs8, hs9, hsA, hsB⟩ := hSw; go_simp); first | done | with_reducible rfl)
  try simp only [Act.put, List.setIfInBounds_toArray, List.set_cons_zero, List.set_cons_succ]
  refine wpAnyH_take (i := 21) (oi := ?oia2021) (v := ?va2021) ?hia2021 (by kernel_rfl) (by kernel_rfl) (by kernel_rfl) ?hQa2021 (Or.inl ⟨?hwa2021, ?hya2021⟩) (by assumption) ?resta2021
  case hia2021 => (first | (simp only [List.getElem?_toArray, List.getElem?_cons_zero, List.getElem?_cons_succ]; rfl) | rfl)
  case hQa2021 => exact fun _ _ _ h => h
  case hwa2021 => rfl
  case hya2021 => ((intro w hSw; obtain ⟨hs1, hs2, hs3, hs4, hs5, hs6, hs7, hs8, hs9, hsA, hsB⟩ := hSw; go_simp); first | done | with_reducible rfl)
  try simp only [Act.put, List.setIfInBounds_toArray, List.set_cons_zero, List.set_cons_succ]
  refine wpAnyH_take (i := 22) (oi := ?oia2122) (v := ?va2122) ?hia2122 (by kernel_rfl) (by kernel_rfl) (by kernel_rfl) ?hQa2122 (Or.inl ⟨?hwa2122, ?hya2122⟩) (by assumption) ?resta2122
  case hia2122 => (first | (simp only [List.getElem?_toArray, List.getElem?_cons_zero, List.getElem?_cons_succ]; rfl) | rfl)
  case hQa2122 => exact fun _ _ _ h => h
  case hwa2122 => rfl
  case hya2122 => ((intro w hSw; obtain ⟨hs1, hs2, hs3, hs4, hs5, hs6, hs7, hs8, hs9, hsA, hsB⟩ := hSw; go_simp); first | done | with_reducible rfl)
  try simp only [Act.put, List.setIfInBounds_toArray, List.set_cons_zero, List.set_cons_succ]
  refine wpAnyH_ready (rs := [23]) (by kernel_rfl) (by simp) ?_
  refine AllReadyH.cons (o := ?oc23) ?hcc23 ?stc23 AllReadyH.nil
  case hcc23 => (simp only [List.getElem?_toArray, List.getElem?_cons_zero, List.getElem?_cons_succ]; rfl)
  intro K hK
  go_simp
  refine (r15Same_any _ ⟨gen, nxt, gl⟩ ⟨gen, nxt, gl⟩ A5 gn c5 (HREF.out _ HU2.out).2.2.2.1 A6 gn c6 (HREF.out _ HU2.out).2.2.2.2).mono ?_
  rintro e uv3 ⟨rfl, hb3⟩
  have HU3 := Lib.hid (below_then HU2.out hb3 HU2.out.size)
  clear hb3
  go_wp2_with fail
  refine hK.out _ _ (HS.out _ HU3.out) (fun _ => ?_)
  clear hK K
  try simp only [Act.put, List.setIfInBounds_toArray, List.set_cons_zero, List.set_cons_succ]
  refine wpAnyH_take (i := 24) (oi := ?oia2224) (v := ?va2224) ?hia2224 (by kernel_rfl) (by kernel_rfl) (by kernel_rfl) ?hQa2224 (Or.inl ⟨?hwa2224, ?hya2224⟩) (by assumption) ?resta2224
  case hia2224 => (first | (simp only [List.getElem?_toArray, List.getElem?_cons_zero, List.getElem?_cons_succ]; rfl) | rfl)
  case hQa2224 => exact fun _ _ _ h => h
  case hwa2224 => rfl
  case hya2224 => ((intro w hSw; obtain ⟨hs1, hs2, hs3, hs4, hs5, hs6, hs7, hs8, hs9, hsA, hsB⟩ := hSw; go_simp); first | done | with_reducible rfl)
  try simp only [Act.put, List.setIfInBounds_toArray, List.set_cons_zero, List.set_cons_succ]
  refine wpAnyH_take (i := 25) (oi := ?oia2325) (v := ?va2325) ?hia2325 (by kernel_rfl) (by kernel_rfl) (by kernel_rfl) ?hQa2325 (Or.inl ⟨?hwa2325, ?hya2325⟩) (by assumption) ?resta2325
  case hia2325 => (first | (simp only [List.getElem?_toArray, List.getElem?_cons_zero, List.getElem?_cons_succ]; rfl) | rfl)
  case hQa2325 => exact fun _ _ _ h => h
  case hwa2325 => rfl
  case hya2325 => ((intro w hSw; obtain ⟨hs1, hs2, hs3, hs4, hs5, hs6, hs7, hs8, hs9, hsA, hsB⟩ := hSw; go_simp); first | done | with_reducible rfl)
  try simp only [Act.put, List.setIfInBounds_toArray, List.set_cons_zero, List.set_cons_succ]
  refine wpAnyH_take (i := 26) (oi := ?oia2426) (v := ?va2426) ?hia2426 (by kernel_rfl) (by kernel_rfl) (by kernel_rfl) ?hQa2426 (Or.inl ⟨?hwa2426, ?hya2426⟩) (by assumption) ?resta2426
  case hia2426 => (first | (simp only [List.getElem?_toArray, List.getElem?_cons_zero, List.getElem?_cons_succ]; rfl) | rfl)
  case hQa2426 => exact fun _ _ _ h => h
  case hwa2426 => rfl
  case hya2426 => ((intro w hSw; obtain ⟨hs1, hs2, hs3, hs4, hs5, hs6, hs7, hs8, hs9, hsA, hsB⟩ := hSw; go_simp); first | done | with_reducible rfl)
  try simp only [Act.put, List.setIfInBounds_toArray, List.set_cons_zero, List.set_cons_succ]
  refine wpAnyH_take (i := 27) (oi := ?oia2527) (v := ?va2527) ?hia2527 (by kernel_rfl) (by kernel_rfl) (by kernel_rfl) ?hQa2527 (Or.inl ⟨?hwa2527, ?hya2527⟩) (by assumption) ?resta2527
  case hia2527 => (first | (simp only [List.getElem?_toArray, List.getElem?_cons_zero, List.getElem?_cons_succ]; rfl) | rfl)
  case hQa2527 => exact fun _ _ _ h => h
  case hwa2527 => rfl
  case hya2527 => ((intro w hSw; obtain ⟨hs1, hs2, hs3, hs4, hs5, hs6, hs7, hs8, hs9, hsA, hsB⟩ := hSw; go_simp); first | done | with_reducible rfl)
  try simp only [Act.put, List.setIfInBounds_toArray, List.set_cons_zero, List.set_cons_succ]
  refine wpAnyH_take (i := 28) (oi := ?oia2628) (v := ?va2628) ?hia2628 (by kernel_rfl) (by kernel_rfl) (by kernel_rfl) ?hQa2628 (Or.inl ⟨?hwa2628, ?hya2628⟩) (by assumption) ?resta2628
  case hia2628 => (first | (simp only [List.getElem?_toArray, List.getElem?_cons_zero, List.getElem?_cons_succ]; rfl) | rfl)
  case hQa2628 => exact fun _ _ _ h => h
  case hwa2628 => rfl
  case hya2628 => ((intro w hSw; obtain ⟨hs1, hs2, hs3, hs4, hs5, hs6, hs7, hs8, hs9, hsA, hsB⟩ := hSw; go_simp); first | done | with_reducible rfl)
  try simp only [Act.put, List.setIfInBounds_toArray, List.set_cons_zero, List.set_cons_succ]
  refine wpAnyH_take (i := 29) (oi := ?oia2729) (v := ?va2729) ?hia2729 (by kernel_rfl) (by kernel_rfl) (by kernel_rfl) ?hQa2729 (Or.inl ⟨?hwa2729, ?hya2729⟩) (by assumption) ?resta2729
  case hia2729 => (first | (simp only [List.getElem?_toArray, List.getElem?_cons_zero, List.getElem?_cons_succ]; rfl) | rfl)
  case hQa2729 => exact fun _ _ _ h => h
  case hwa2729 => rfl
  case hya2729 => ((intro w hSw; obtain ⟨hs1, hs2, hs3, hs4, hs5, hs6, hs7, hs8, hs9, hsA, hsB⟩ := hSw; go_simp); first | done | with_reducible rfl)
  try simp only [Act.put, List.setIfInBounds_toArray, List.set_cons_zero, List.set_cons_succ]
  refine wpAnyH_take (i := 30) (oi := ?oia2830) (v := ?va2830) ?hia2830 (by kernel_rfl) (by kernel_rfl) (by kernel_rfl) ?hQa2830 (Or.inl ⟨?hwa2830, ?hya2830⟩) (by assumption) ?resta2830
  case hia2830 => (first | (simp only [List.getElem?_toArray, List.getElem?_cons_zero, List.getElem?_cons_succ]; rfl) | rfl)
  case hQa2830 => exact fun _ _ _ h => h
  case hwa2830 => rfl
  case hya2830 => ((intro w hSw; obtain ⟨hs1, hs2, hs3, hs4, hs5, hs6, hs7, hs8, hs9, hsA, hsB⟩ := hSw; go_simp); first | done | with_reducible rfl)
  try simp only [Act.put, List.setIfInBounds_toArray, List.set_cons_zero, List.set_cons_succ]
  refine wpAnyH_take (i := 31) (oi := ?oia2931) (v := ?va2931) ?hia2931 (by kernel_rfl) (by kernel_rfl) (by kernel_rfl) ?hQa2931 (Or.inl ⟨?hwa2931, ?hya2931⟩) (by assumption) ?resta2931
  case hia2931 => (first | (simp only [List.getElem?_toArray, List.getElem?_cons_zero, List.getElem?_cons_succ]; rfl) | rfl)
  case hQa2931 => exact fun _ _ _ h => h
  case hwa2931 => rfl
  case hya2931 => ((intro w hSw; obtain ⟨hs1, hs2, hs3, hs4, hs5, hs6, hs7, hs8, hs9, hsA, hsB⟩ := hSw; go_simp); first | done | with_reducible rfl)
  try simp only [Act.put, List.setIfInBounds_toArray, List.set_cons_zero, List.set_cons_succ]
  refine wpAnyH_take (i := 33) (oi := ?oia3033) (v := ?va3033) ?hia3033 (by kernel_rfl) (by kernel_rfl) (by kernel_rfl) ?hQa3033 (Or.inl ⟨?hwa3033, ?hya3033⟩) (by assumption) ?resta3033
  case hia3033 => (first | (simp only [List.getElem?_toArray, List.getElem?_cons_zero, List.getElem?_cons_succ]; rfl) | rfl)
  case hQa3033 => exact fun _ _ _ h => h
  case hwa3033 => rfl
  case hya3033 => ((intro w hSw; obtain ⟨hs1, hs2, hs3, hs4, hs5, hs6, hs7, hs8, hs9, hsA, hsB⟩ := hSw; go_simp); first | done | with_reducible rfl)
  try simp only [Act.put, List.setIfInBounds_toArray, List.set_cons_zero, List.set_cons_succ]
  refine wpAnyH_ready (rs := [32]) (by kernel_rfl) (by simp) ?_
  refine AllReadyH.cons (o := ?oc32) ?hcc32 ?stc32 AllReadyH.nil
  case hcc32 => (simp only [List.getElem?_toArray, List.getElem?_cons_zero, List.getElem?_cons_succ]; rfl)
  intro K hK
  go_simp
  refine (pSeg_any _ num HNUM.out (HREF.out _ HU3.out).2.1).mono ?_
  rintro e uv4 ⟨rfl, hb4⟩
  have HU4 := Lib.hid (below_then HU3.out hb4 HU3.out.size)
  clear hb4
  go_wp2_with fail
  refine hK.out _ _ (HS.out _ HU4.out) (fun _ => ?_)
  clear hK K
  try simp only [Act.put, List.setIfInBounds_toArray, List.set_cons_zero, List.set_cons_succ]
  refine wpAnyH_ready (rs := [34]) (by kernel_rfl) (by simp) ?_
  refine AllReadyH.cons (o := ?oc34) ?hcc34 ?stc34 AllReadyH.nil
  case hcc34 => (simp only [List.getElem?_toArray, List.getElem?_cons_zero, List.getElem?_cons_succ]; rfl)
  intro K hK
  go_simp
  refine (r15Seg_any _ num HNUM.out (HREF.out _ HU4.out).2.1).mono ?_
  rintro e uv5 ⟨rfl, hb5⟩
  have HU5 := Lib.hid (below_then HU4.out hb5 HU4.out.size)
  clear hb5
  go_wp2_with fail
  refine hK.out _ _ (HS.out _ HU5.out) (fun _ => ?_)
  clear hK K
  try simp only [Act.put, List.setIfInBounds_toArray, List.set_cons_zero, List.set_cons_succ]
  refine wpAnyH_take (i := 35) (oi := ?oia3135) (v := ?va3135) ?hia3135 (by kernel_rfl) (by kernel_rfl) (by kernel_rfl) ?hQa3135 (Or.inl ⟨?hwa3135, ?hya3135⟩) (by assumption) ?resta3135
  case hia3135 => (first | (simp only [List.getElem?_toArray, List.getElem?_cons_zero, List.getElem?_cons_succ]; rfl) | rfl)
  case hQa3135 => exact fun _ _ _ h => h
  case hwa3135 => rfl
  case hya3135 => ((intro w hSw; obtain ⟨hs1, hs2, hs3, hs4, hs5, hs6, hs7, hs8, hs9, hsA, hsB⟩ := hSw; go_simp); first | done | with_reducible rfl)
  try simp only [Act.put, List.setIfInBounds_toArray, List.set_cons_zero, List.set_cons_succ]
  refine wpAnyH_take (i := 36) (oi := ?oia3236) (v := ?va3236) ?hia3236 (by kernel_rfl) (by kernel_rfl) (by kernel_rfl) ?hQa3236 (Or.inl ⟨?hwa3236, ?hya3236⟩) (by assumption) ?resta3236
  case hia3236 => (first | (simp only [List.getElem?_toArray, List.getElem?_cons_zero, List.getElem?_cons_succ]; rfl) | rfl)
  case hQa3236 => exact fun _ _ _ h => h
  case hwa3236 => rfl
  case hya3236 => ((intro w hSw; obtain ⟨hs1, hs2, hs3, hs4, hs5, hs6, hs7, hs8, hs9, hsA, hsB⟩ := hSw; go_simp); first | done | with_reducible rfl)
  try simp only [Act.put, List.setIfInBounds_toArray, List.set_cons_zero, List.set_cons_succ]
  refine wpAnyH_take (i := 37) (oi := ?oia3337) (v := ?va3337) ?hia3337 (by kernel_rfl) (by kernel_rfl) (by kernel_rfl) ?hQa3337 (Or.inl ⟨?hwa3337, ?hya3337⟩) (by assumption) ?resta3337
  case hia3337 => (first | (simp only [List.getElem?_toArray, List.getElem?_cons_zero, List.getElem?_cons_succ]; rfl) | rfl)
  case hQa3337 => exact fun _ _ _ h => h
  case hwa3337 => rfl
  case hya3337 => ((intro w hSw; obtain ⟨hs1, hs2, hs3, hs4, hs5, hs6, hs7, hs8, hs9, hsA, hsB⟩ := hSw; go_simp); first | done | with_reducible rfl)
  try simp only [Act.put, List.setIfInBounds_toArray, List.set_cons_zero, List.set_cons_succ]
  refine wpAnyH_take (i := 38) (oi := ?oia3438) (v := ?va3438) ?hia3438 (by kernel_rfl) (by kernel_rfl) (by kernel_rfl) ?hQa3438 (Or.inl ⟨?hwa3438, ?hya3438⟩) (by assumption) ?resta3438
  case hia3438 => (first | (simp only [List.getElem?_toArray, List.getElem?_cons_zero, List.getElem?_cons_succ]; rfl) | rfl)
  case hQa3438 => exact fun _ _ _ h => h
  case hwa3438 => rfl
  case hya3438 => ((intro w hSw; obtain ⟨hs1, hs2, hs3, hs4, hs5, hs6, hs7, hs8, hs9, hsA, hsB⟩ := hSw; go_simp); first | done | with_reducible rfl)
  try simp only [Act.put, List.setIfInBounds_toArray, List.set_cons_zero, List.set_cons_succ]
  refine wpAnyH_take (i := 40) (oi := ?oia3540) (v := ?va3540) ?hia3540 (by kernel_rfl) (by kernel_rfl) (by kernel_rfl) ?hQa3540 (Or.inl ⟨?hwa3540, ?hya3540⟩) (by assumption) ?resta3540
  case hia3540 => (first | (simp only [List.getElem?_toArray, List.getElem?_cons_zero, List.getElem?_cons_succ]; rfl) | rfl)
  case hQa3540 => exact fun _ _ _ h => h
  case hwa3540 => rfl
  case hya3540 => ((intro w hSw; obtain ⟨hs1, hs2, hs3, hs4, hs5, hs6, hs7, hs8, hs9, hsA, hsB⟩ := hSw; go_simp); first | done | with_reducible rfl)
  try simp only [Act.put, List.setIfInBounds_toArray, List.set_cons_zero, List.set_cons_succ]
  refine wpAnyH_ready (rs := [39]) (by kernel_rfl) (by simp) ?_
  refine AllReadyH.cons (o := ?oc39) ?hcc39 ?stc39 AllReadyH.nil
  case hcc39 => (simp only [List.getElem?_toArray, List.getElem?_cons_zero, List.getElem?_cons_succ]; rfl)
  intro K hK
  go_simp
  refine (pDels_any _ num HNUM.out (HREF.out _ HU5.out).2.1).mono ?_
  rintro e uv6 ⟨rfl, hb6⟩
  have HU6 := Lib.hid (below_then HU5.out hb6 HU5.out.size)
  clear hb6
  go_wp2_with fail
  refine hK.out _ _ (HS.out _ HU6.out) (fun _ => ?_)
  clear hK K
  try simp only [Act.put, List.setIfInBounds_toArray, List.set_cons_zero, List.set_cons_succ]
  refine wpAnyH_ready (rs := [41]) (by kernel_rfl) (by simp) ?_
  refine AllReadyH.cons (o := ?oc41) ?hcc41 ?stc41 AllReadyH.nil
  case hcc41 => (simp only [List.getElem?_toArray, List.getElem?_cons_zero, List.getElem?_cons_succ]; rfl)
  intro K hK
  go_simp
  refine (r15Dels_any _ num HNUM.out (HREF.out _ HU6.out).2.1).mono ?_
  rintro e uv7 ⟨rfl, hb7⟩
  have HU7 := Lib.hid (below_then HU6.out hb7 HU6.out.size)
  clear hb7
  go_wp2_with fail
  refine hK.out _ _ (HS.out _ HU7.out) (fun _ => ?_)
  clear hK K
  try simp only [Act.put, List.setIfInBounds_toArray, List.set_cons_zero, List.set_cons_succ]
  refine wpAnyH_take (i := 42) (oi := ?oia3642) (v := ?va3642) ?hia3642 (by kernel_rfl) (by kernel_rfl) (by kernel_rfl) ?hQa3642 (Or.inl ⟨?hwa3642, ?hya3642⟩) (by assumption) ?resta3642
  case hia3642 => (first | (simp only [List.getElem?_toArray, List.getElem?_cons_zero, List.getElem?_cons_succ]; rfl) | rfl)
  case hQa3642 => exact fun _ _ _ h => h
  case hwa3642 => rfl
  case hya3642 => ((intro w hSw; obtain ⟨hs1, hs2, hs3, hs4, hs5, hs6, hs7, hs8, hs9, hsA, hsB⟩ := hSw; go_simp); first | done | with_reducible rfl)
  try simp only [Act.put, List.setIfInBounds_toArray, List.set_cons_zero, List.set_cons_succ]
  refine wpAnyH_take (i := 43) (oi := ?oia3743) (v := ?va3743) ?hia3743 (by kernel_rfl) (by kernel_rfl) (by kernel_rfl) ?hQa3743 (Or.inl ⟨?hwa3743, ?hya3743⟩) (by assumption) ?resta3743
  case hia3743 => (first | (simp only [List.getElem?_toArray, List.getElem?_cons_zero, List.getElem?_cons_succ]; rfl) | rfl)
  case hQa3743 => exact fun _ _ _ h => h
  case hwa3743 => rfl
  case hya3743 => ((intro w hSw; obtain ⟨hs1, hs2, hs3, hs4, hs5, hs6, hs7, hs8, hs9, hsA, hsB⟩ := hSw; go_simp); first | done | with_reducible rfl)
  try simp only [Act.put, List.setIfInBounds_toArray, List.set_cons_zero, List.set_cons_succ]
  refine wpAnyH_take (i := 44) (oi := ?oia3844) (v := ?va3844) ?hia3844 (by kernel_rfl) (by kernel_rfl) (by kernel_rfl) ?hQa3844 (Or.inl ⟨?hwa3844, ?hya3844⟩) (by assumption) ?resta3844
  case hia3844 => (first | (simp only [List.getElem?_toArray, List.getElem?_cons_zero, List.getElem?_cons_succ]; rfl) | rfl)
  case hQa3844 => exact fun _ _ _ h => h
  case hwa3844 => rfl
  case hya3844 => ((intro w hSw; obtain ⟨hs1, hs2, hs3, hs4, hs5, hs6, hs7, hs8, hs9, hsA, hsB⟩ := hSw; go_simp); first | done | with_reducible rfl)
  try simp only [Act.put, List.setIfInBounds_toArray, List.set_cons_zero, List.set_cons_succ]
  refine wpAnyH_done (by kernel_rfl) ?_ _
  go_wp2
  go_ret
  exact ⟨rfl, (HREF.out _ HU7.out).2.2.1⟩
end Go.Proofs.YtmhiekbpmoikfaaGreatDoor
