/- The program's disk told by the document's state: a fuse, a crash. -/
import Derived.Test.YtmhiekbpmoikfaaGreatDoorZp13
import Derived.Test.YtmhiekbpmoikfaaGreatDoorMqCrashM
namespace Go.Proofs.YtmhiekbpmoikfaaGreatDoor
open Go.RowKit Go.Maps Go.WideMaps

section
variable {w : World} {F : Nat → Prop} {b : Nat} {r : RSt}
theorem pFuse_any (hP : PAt w F b r) (n : Int) (hn : n ≤ 9223372036854775807) :
    Calls Tryz.prog 36 #[at0 b, .int .i64 n] w fun e w' => e = .returned (.tuple #[]) ∧ PAt w' F b (rFuse r n) ∧ R1Mov w F w' F := by
  obtain ⟨s, f, hD, hm, hs⟩ := hP
  refine (Fuse_any hD n hn).mono fun e w' ⟨h1, h2, h3⟩ => ⟨h1, ⟨_, f, h2, hm, { hs with fuse := ?_ }⟩, h3, fun _ h => .inl h⟩
  show max n (-1) = if decide (0 ≤ n) = true then ((n.toNat : Nat) : Int) else -1
  by_cases h0 : 0 ≤ n
  · rw [if_pos (by simpa using h0)]; omega
  · rw [if_neg (by simpa using h0)]; omega
theorem pCrash_any (hP : PAt w F b r) (hc : RCan r 0) (acts : Int) (hacts : acts ≤ 9223372036854775807) (A : Option Addr) (n c : Nat) (cs : List Int) (hcs : CutsIn w A n cs) (hA : ∀ ad, A = some ad → 0 < n → ¬ F ad.block) :
    Calls Tryz.prog 34 #[at0 b, .agg #[.int .i64 acts, .slice A n c]] w fun e w' => e = .returned (.tuple #[]) ∧ ∃ F', PAt w' F' b (rCrashed r acts cs) ∧ R1Mov w F w' F' := by
  obtain ⟨s, f, hD, hm, hs⟩ := hP
  have h1 := hc.chs
  refine (Crash_any hD (by rw [← hs.len]; omega) acts hacts A n c cs hcs.2.1 (fun ad e h0 => ⟨hcs.2.2.2 ad e h0, hA ad e h0⟩) hcs.2.2.1).mono ?_
  rintro e w' ⟨h1, ⟨F', h2, h3⟩, h4⟩
  exact ⟨h1, F', ⟨_, f, h2, rfl, hs.crashed acts cs⟩, h4, h3⟩
end
theorem RCan.fuse {r : RSt} {k : Nat} (h : RCan r k) (n : Int) : RCan (rFuse r n) k := ⟨h.dir, h.chs, h.ino, h.done⟩
/-- Wherever the power goes in a Save, and whatever is left then: the old manifest, or the new one. -/
theorem once_math {old next : Mf} (ho : mErr old = 0) (hn : mErr next = 0) : ∃ r1, rSave (rNew 100000) old = (0, r1) ∧ ∀ n : Int, ∃ e r2, rSave (rFuse r1 n) next = (e, r2) ∧ ∀ acts cs, ∃ m', rLoad (rCrashed r2 acts cs) = (some m', 0) ∧ mOk m' ∧ (m' = next ∨ e ≠ 0 ∧ m' = old) := by
  obtain ⟨l1, g1, k1⟩ := mErr_put ho
  obtain ⟨l2, g2, k2⟩ := mErr_put hn
  obtain ⟨h1, h2⟩ := save_on (rNew_on 100000) (fun p hp => by cases hp) ho (by decide) (by omega) (by show (mPutB old).length + 0 ≤ 100000; omega)
  obtain ⟨r1, hr⟩ : ∃ r1, r1 = (rSave (rNew 100000) old).2 := ⟨_, rfl⟩
  rw [← hr] at h2
  refine ⟨r1, Prod.ext h1 hr.symm, fun n => ?_⟩
  obtain ⟨e, r2, he⟩ : ∃ e r2, rSave (rFuse r1 n) next = (e, r2) := ⟨_, _, rfl⟩
  refine ⟨e, r2, he, fun acts cs => ?_⟩
  have hd : r1.dir = [(manN, 0)] := h2.dir
  have hi : r1.ino = [(mPutB old, (mPutB old).length)] := h2.ino
  have hs := save_safe (s := rFuse r1 n) hn h2.chs h2.old (by show dget r1.dir _ = _; rw [hd]; decide) (by show r1.dir.length < 64; rw [hd]; decide) (h2.inoOk fun p hp => by cases hp) (by omega) (by
    show (mPutB next).length + rSum (rFuse r1 n) r1.dir ≤ r1.room
    have : rDat (rFuse r1 n) 0 = mPutB old := rDat_at (x := (mPutB old, (mPutB old).length)) (by show r1.ino[0]? = _; rw [hi]; rfl)
    rw [hd, h2.room]
    unfold rSum
    simp only [List.map_cons, List.map_nil, List.sum_cons, List.sum_nil]
    rw [this]
    show _ ≤ 100000
    omega)
  rw [he] at hs
  simp only at hs
  rcases hs.man acts with ⟨q1, q2⟩ | ⟨q1, q2⟩
  · refine ⟨old, ?_, k1, .inr ⟨q1, rfl⟩⟩
    have q3 : dget (rBack r2 acts) manN = some 0 := by rw [q2]; show dget r1.dir manN = _; rw [hd]; decide
    have q4 := hs.files 0 (by show 0 < r1.ino.length; rw [hi]; exact Nat.one_pos)
    have q5 : r2.ino[0]? = some (mPutB old, (mPutB old).length) := by rw [q4]; show r1.ino[0]? = _; rw [hi]; rfl
    unfold rLoad
    rw [crash_read q3 q5 cs, if_neg (by simp)]
    simp only
    rw [g1]
  · refine ⟨next, ?_, k2, .inl rfl⟩
    unfold rLoad
    rw [crash_read q1 q2 cs, if_neg (by simp)]
    simp only
    rw [g2]
end Go.Proofs.YtmhiekbpmoikfaaGreatDoor
