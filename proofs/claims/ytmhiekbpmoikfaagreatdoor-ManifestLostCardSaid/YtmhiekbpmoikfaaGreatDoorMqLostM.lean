/- The first Save, and a crash: nothing, or the manifest; another file stays. -/
import Derived.Test.YtmhiekbpmoikfaaGreatDoorMqCrashM
namespace Go.Proofs.YtmhiekbpmoikfaaGreatDoor
open Go.RowKit Go.Maps Go.WideMaps

theorem lost_math {m : Mf} (hm : mErr m = 0) {x b : Nm} (hx : okName x = true) (h1 : x ≠ manN) (h2 : x ≠ manNewN) (hb : b.length ≤ 1000) :
    ∃ q1 q2, rWrite (rNew 100000) x b = (0, q1) ∧ rSyncDir q1 = (0, q2) ∧ ∀ n : Int, ∃ e q3, rSave (rFuse q2 n) m = (e, q3) ∧ ∀ acts cs, rRead (rCrashed q3 acts cs) x = (b, 0) ∧ (rLoad (rCrashed q3 acts cs) = (some m, 0) ∨ rLoad (rCrashed q3 acts cs) = (none, 12) ∧ e ≠ 0) := by
  obtain ⟨l1, g1, k1⟩ := mErr_put hm
  obtain ⟨w1, w2⟩ := write_on (rNew_on 100000) (fun p hp => by cases hp) (bs := b) hx (by show 0 < 64; omega) (by omega) (by show b.length + rSum _ (ddel [] x) ≤ 100000; show b.length + 0 ≤ _; omega)
  obtain ⟨q1, hq1⟩ : ∃ q, q = (rWrite (rNew 100000) x b).2 := ⟨_, rfl⟩
  rw [← hq1] at w2
  have hd1 : q1.dir = [(x, 0)] := w2.dir
  have hi1 : q1.ino = [(b, b.length)] := w2.ino
  obtain ⟨q2, hq2⟩ : ∃ q, q = rDid { q1 with old := q1.dir, chs := [] } := ⟨_, rfl⟩
  have hs2 : rSyncDir q1 = (0, q2) := by rw [syncDir_on w2.on, hq2]
  have hd2 : q2.dir = [(x, 0)] := by rw [hq2]; exact hd1
  have ho2 : q2.old = [(x, 0)] := by rw [hq2]; exact hd1
  have hc2 : q2.chs = [] := by rw [hq2]; rfl
  have hi2 : q2.ino = [(b, b.length)] := by rw [hq2]; exact hi1
  have hr2 : q2.room = 100000 := by rw [hq2]; exact w2.room
  have hgx : ∀ k : Nm, x ≠ k → dget [(x, 0)] k = none := fun k hk => by
    unfold dget
    have : (x == k) = false := by simpa using hk
    simp [this]
  have hgm : dget [(x, 0)] manN = none := hgx _ h1
  refine ⟨q1, q2, Prod.ext w1 hq1.symm, hs2, fun n => ?_⟩
  obtain ⟨e, q3, he⟩ : ∃ e q, rSave (rFuse q2 n) m = (e, q) := ⟨_, _, rfl⟩
  refine ⟨e, q3, he, fun acts cs => ?_⟩
  have hs := save_safe (s := rFuse q2 n) hm hc2 (by show q2.old = q2.dir; rw [ho2, hd2]) (by show dget q2.dir _ = _; rw [hd2]; exact hgx _ h2) (by show q2.dir.length < 64; rw [hd2]; show 1 < 64; omega) (by
    intro p hp
    have hp : p ∈ q2.dir := hp
    rw [hd2, List.mem_singleton] at hp
    show p.2 < q2.ino.length
    rw [hp, hi2]
    exact Nat.one_pos) (by omega) (by
    show (mPutB m).length + rSum (rFuse q2 n) q2.dir ≤ q2.room
    have : rDat (rFuse q2 n) 0 = b := rDat_at (x := (b, b.length)) (by show q2.ino[0]? = _; rw [hi2]; rfl)
    rw [hd2, hr2]
    unfold rSum
    simp only [List.map_cons, List.map_nil, List.sum_cons, List.sum_nil]
    rw [this]
    omega)
  rw [he] at hs
  simp only at hs
  have hD : (rFuse q2 n).dir = [(x, 0)] := hd2
  rw [hD] at hs
  constructor
  · have q4 := hs.files 0 (by show 0 < q2.ino.length; rw [hi2]; exact Nat.one_pos)
    have q5 : q3.ino[0]? = some (b, b.length) := by rw [q4]; show q2.ino[0]? = _; rw [hi2]; rfl
    have q6 : dget (rBack q3 acts) x = some 0 := by
      rw [hs.other acts x h1 h2]
      unfold dget
      simp
    exact crash_read q6 q5 cs
  · rcases hs.man acts with ⟨p1, p2⟩ | ⟨p1, p2⟩
    · right
      refine ⟨?_, p1⟩
      unfold rLoad
      rw [crash_none (by rw [p2]; exact hgm) cs, if_pos (by simp)]
    · left
      unfold rLoad
      rw [crash_read p1 p2 cs, if_neg (by simp)]
      simp only
      rw [g1]
end Go.Proofs.YtmhiekbpmoikfaaGreatDoor
