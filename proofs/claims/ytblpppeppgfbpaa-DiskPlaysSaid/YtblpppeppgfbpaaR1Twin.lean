/- One call of the laws' scripts, done on the document's disk. -/
import Derived.Test.YtblpppeppgfbpaaDoes
import Derived.Test.YtblpppeppgfbpaaR1Names
import Derived.Test.YtblpppeppgfbpaaR1Crash
namespace Go.Proofs.Ytblpppeppgfbpaa
open Go.RowKit Go.Maps Go.WideMaps

def rTwin (r : RSt) (o : OpV) : Int × RSt :=
  if o.what = 0 then rCreate r o.key else if o.what = 1 ∨ o.what = 2 then rAppend r o.key o.bs else if o.what = 3 then rSync r o.key else if o.what = 4 then rRename r o.key o.bs else if o.what = 5 then rRemove r o.key
  else if o.what = 6 then rSyncDir r else if o.what = 7 then (0, rFuse r o.n) else if o.what = 8 then (0, rCrashed r o.acts o.cs) else (0, r)
set_option maxHeartbeats 4000000 in
set_option maxRecDepth 100000 in
theorem twin_any {w : World} {F : Nat → Prop} {b : Nat} {r : RSt} (hR : R1At w F b r) (hnd : r.dir.length < 100000) (hnc : r.chs.length < 100000) (hni : r.ino.length < 100000) (hdn : r.done < 100000) (hsum : r.old.length + r.chs.length ≤ 100000) (o : OpV) (ho : OpIn w o) (h1 : Away F o.B o.bn) (h2 : Away F o.C o.k) :
    Calls Try.prog 10 #[at0 b, .agg o.cells.toArray] w (R1Left w F b (rTwin r o).1 (rTwin r o).2) := by
  obtain ⟨what, a, B, bn, bc, bs, n, acts, C, k, cc, cs⟩ := o
  have hcase : what = 0 ∨ what = 1 ∨ what = 2 ∨ what = 3 ∨ what = 4 ∨ what = 5 ∨ what = 6 ∨ what = 7 ∨ what = 8 ∨ (what < 0 ∨ 8 < what) := by omega
  have hc1 : a.size ≤ maxLen := ho.a
  obtain ⟨ky, hky⟩ : ∃ ky : Nm, a = ⟨ky.toArray⟩ := ⟨a.data.toList, by simp⟩
  have hkl : ky.length ≤ maxLen := by rw [hky] at hc1; rw [show (⟨ky.toArray⟩ : ByteArray).size = ky.length by simp [ByteArray.size]] at hc1; exact hc1
  have hlt : ∀ i, F i → i < w.heap.size := by obtain ⟨G, vi, vc, A, c, B, cb, svs, h1, h2, h3⟩ := hR; exact h3
  have hR1 : R1At (w.alloc (.cells #[.int .i64 what, .string a, .slice B bn bc, .int .i64 n, .int .i64 acts, .slice C k cc] 38)) F b r := hR.same (fun i hi => Below.heap_alloc w _ i (hlt i hi)) (by simp)
  have hk1 := (Kept.refl F w).alloc (.cells #[.int .i64 what, .string a, .slice B bn bc, .int .i64 n, .int .i64 acts, .slice C k cc] 38)
  have sB := srcAt ho.b.2.1 ho.b.2.2 hk1 h1
  have sC := srcAt ho.c.2.1 ho.c.2.2.2 hk1 h2
  have na : a.size ≤ 140737488351232 := ho.na
  have nb : bn ≤ 140737488351232 := ho.nb
  have bB : BytesIn (w.alloc (.cells #[.int .i64 what, .string a, .slice B bn bc, .int .i64 n, .int .i64 acts, .slice C k cc] 38)) B bn bs := ⟨by unfold maxLen; omega, sB, fun ad e hn => Nat.lt_of_lt_of_le (ho.b.2.2 ad e hn) hk1.size⟩
  have lC : ∀ ad, C = some ad → 0 < k → ad.block < (w.alloc (.cells #[.int .i64 what, .string a, .slice B bn bc, .int .i64 n, .int .i64 acts, .slice C k cc] 38)).heap.size ∧ ¬ F ad.block := fun ad e hn => ⟨by have := ho.c.2.2.2 ad e hn; simp; omega, h2 ad e hn⟩
  have hcv := string_of_src (n := bn) (d := bs) sB bn bc (Nat.le_refl _)
  have hbl : bs.length = bn := by have := sB.len; simpa using this
  rw [List.take_of_length_le (by omega)] at hcv
  have kB : bs.length ≤ maxLen := by unfold maxLen; omega
  have fin : ∀ n' r' e w', R1Left (w.alloc (.cells #[.int .i64 what, .string a, .slice B bn bc, .int .i64 n, .int .i64 acts, .slice C k cc] 38)) F b n' r' e w' → R1Left w F b n' r' e w' := fun n' r' e w' h => by
    obtain ⟨h1, F', h2, h3, h4⟩ := h
    exact ⟨h1, F', h2, hk1.trans h3 (fun _ _ h => h), fun i hi => (h4 i hi).imp id (Nat.le_trans hk1.size)⟩
  have hkey : (OpV.mk what a B bn bc bs n acts C k cc cs).key = ky := by unfold OpV.key; rw [hky]
  obtain ⟨T, hT⟩ : ∃ T, T = rTwin r (OpV.mk what a B bn bc bs n acts C k cc cs) := ⟨_, rfl⟩
  rw [← hT]
  unfold rTwin at hT
  rw [hkey] at hT
  simp only at hT
  have C0 := r1Create_any _ F b r hR1 hnd hnc hni hdn ky hkl
  have C1 := r1Append_any _ F b r hR1 hdn ky B bn bc bs bB h1
  have C3 := r1Sync_any _ F b r hR1 hdn ky
  have C4 := r1Rename_any _ F b r hR1 hnd hnc hdn ky bs kB
  have C5 := r1Remove_any _ F b r hR1 hnd hnc hdn ky
  have C6 := r1SyncDir_any _ F b r hR1 hdn
  have C7 := r1Fuse_any _ F b r hR1 n ho.n
  have C8 := r1Crash_any _ F b r hR1 hsum acts ho.acts C k cc cs sC lC ho.c.2.2.1
  rw [← hky] at C0 C1 C3 C4 C5
  have HK := Lib.hid hk1
  have D1 := Lib.hid hR1
  have K0 := Lib.hid C0
  have K1 := Lib.hid C1
  have K3 := Lib.hid C3
  have K4 := Lib.hid C4
  have K5 := Lib.hid C5
  have K6 := Lib.hid C6
  have K7 := Lib.hid C7
  have K8 := Lib.hid C8
  have FIN := Lib.hid fin
  clear C0 C1 C3 C4 C5 C6 C7 C8 fin hk1 hR1 sB sC bB lC hbl na nb kB h1 h2 hnd hnc hni hdn hsum hc1 ho hR hkey hky hkl hlt
  unfold at0
  simp only [OpV.cells]
  rcases hcase with e | e | e | e | e | e | e | e | e | e
  · obtain rfl := e
    have hT' : rCreate r ky = T := by rw [hT]; simp
    have HT := Lib.hid hT'
    clear hT hT'
    go_enter Try.func10, Try.ntmps10
    go_wp2_with fail
    refine (Hid.out K0).mono ?_
    intro e w' h
    rw [HT.out] at h
    obtain ⟨rfl, hr⟩ := FIN.out _ _ _ _ h
    have HR := Lib.hid hr
    clear h hr
    go_wp2
    go_ret
    exact ⟨rfl, HR.out⟩
  · obtain rfl := e
    have hT' : rAppend r ky bs = T := by rw [hT]; simp
    have HT := Lib.hid hT'
    clear hT hT'
    go_enter Try.func10, Try.ntmps10
    go_wp2_with fail
    refine (Hid.out K1).mono ?_
    intro e w' h
    rw [HT.out] at h
    obtain ⟨rfl, hr⟩ := FIN.out _ _ _ _ h
    have HR := Lib.hid hr
    clear h hr
    go_wp2
    go_ret
    exact ⟨rfl, HR.out⟩
  · obtain rfl := e
    have hT' : rAppend r ky bs = T := by rw [hT]; simp
    have HT := Lib.hid hT'
    clear hT hT'
    go_enter Try.func10, Try.ntmps10
    go_wp2_with fail
    refine (Hid.out K1).mono ?_
    intro e w' h
    rw [HT.out] at h
    obtain ⟨rfl, hr⟩ := FIN.out _ _ _ _ h
    have HR := Lib.hid hr
    clear h hr
    go_wp2
    go_ret
    exact ⟨rfl, HR.out⟩
  · obtain rfl := e
    have hT' : rSync r ky = T := by rw [hT]; simp
    have HT := Lib.hid hT'
    clear hT hT'
    go_enter Try.func10, Try.ntmps10
    go_wp2_with fail
    refine (Hid.out K3).mono ?_
    intro e w' h
    rw [HT.out] at h
    obtain ⟨rfl, hr⟩ := FIN.out _ _ _ _ h
    have HR := Lib.hid hr
    clear h hr
    go_wp2
    go_ret
    exact ⟨rfl, HR.out⟩
  · obtain rfl := e
    have hT' : rRename r ky bs = T := by rw [hT]; simp
    have HT := Lib.hid hT'
    clear hT hT'
    go_enter Try.func10, Try.ntmps10
    go_wp2_with fail
    refine (Hid.out K4).mono ?_
    intro e w' h
    rw [HT.out] at h
    obtain ⟨rfl, hr⟩ := FIN.out _ _ _ _ h
    have HR := Lib.hid hr
    clear h hr
    go_wp2
    go_ret
    exact ⟨rfl, HR.out⟩
  · obtain rfl := e
    have hT' : rRemove r ky = T := by rw [hT]; simp
    have HT := Lib.hid hT'
    clear hT hT'
    go_enter Try.func10, Try.ntmps10
    go_wp2_with fail
    refine (Hid.out K5).mono ?_
    intro e w' h
    rw [HT.out] at h
    obtain ⟨rfl, hr⟩ := FIN.out _ _ _ _ h
    have HR := Lib.hid hr
    clear h hr
    go_wp2
    go_ret
    exact ⟨rfl, HR.out⟩
  · obtain rfl := e
    have hT' : rSyncDir r = T := by rw [hT]; simp
    have HT := Lib.hid hT'
    clear hT hT'
    go_enter Try.func10, Try.ntmps10
    go_wp2_with fail
    refine (Hid.out K6).mono ?_
    intro e w' h
    rw [HT.out] at h
    obtain ⟨rfl, hr⟩ := FIN.out _ _ _ _ h
    have HR := Lib.hid hr
    clear h hr
    go_wp2
    go_ret
    exact ⟨rfl, HR.out⟩
  · obtain rfl := e
    have hT' : (0, rFuse r n) = T := by rw [hT]; simp
    have HT := Lib.hid hT'
    clear hT hT'
    go_enter Try.func10, Try.ntmps10
    go_wp2_with fail
    refine (Hid.out K7).mono ?_
    rintro e w' ⟨rfl, hd, hk⟩
    have HL := Lib.hid (FIN.out _ _ _ _ (R1Left.stay (n := 0) hd hk))
    clear hd hk
    go_wp2
    go_ret
    rw [← HT.out]
    exact HL.out
  · obtain rfl := e
    have hT' : (0, rCrashed r acts cs) = T := by rw [hT]; simp
    have HT := Lib.hid hT'
    clear hT hT'
    go_enter Try.func10, Try.ntmps10
    go_wp2_with fail
    refine (Hid.out K8).mono ?_
    rintro e w' ⟨rfl, ⟨F1, hd, hF⟩, hk⟩
    have HL := Lib.hid (FIN.out 0 _ (.returned (.int .i64 0)) _ ⟨rfl, F1, hd, hk, hF⟩)
    clear hd hk hF
    go_wp2
    go_ret
    rw [← HT.out]
    exact HL.out
  · have b0 : (what == 0) = false := by simp; omega
    have b1 : (what == 1) = false := by simp; omega
    have b2 : (what == 2) = false := by simp; omega
    have b3 : (what == 3) = false := by simp; omega
    have b4 : (what == 4) = false := by simp; omega
    have b5 : (what == 5) = false := by simp; omega
    have b6 : (what == 6) = false := by simp; omega
    have b7 : (what == 7) = false := by simp; omega
    have b8 : (what == 8) = false := by simp; omega
    have hT' : (0, r) = T := by
      rw [hT, if_neg (by omega), if_neg (by omega), if_neg (by omega), if_neg (by omega), if_neg (by omega), if_neg (by omega), if_neg (by omega), if_neg (by omega)]
    have HT := Lib.hid hT'
    have HL := Lib.hid (FIN.out 0 _ (.returned (.int .i64 0)) _ ⟨rfl, F, D1.out, Kept.refl _ _, fun _ h => .inl h⟩)
    clear e hT hT'
    go_enter Try.func10, Try.ntmps10
    go_wp2
    go_ret
    rw [← HT.out]
    exact HL.out
end Go.Proofs.Ytblpppeppgfbpaa
