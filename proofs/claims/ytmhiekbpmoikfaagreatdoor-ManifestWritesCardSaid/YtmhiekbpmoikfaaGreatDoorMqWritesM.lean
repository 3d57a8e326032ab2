/- Two writes and two Saves on a new disk, as the document has them. -/
import Derived.Test.YtmhiekbpmoikfaaGreatDoorZp12
namespace Go.Proofs.YtmhiekbpmoikfaaGreatDoor
open Go.RowKit Go.Maps Go.WideMaps

theorem map_ins {f g : Nm × Nat → Nm × Nm} (k : Nm) (v v' : Nat) (hv : f (k, v) = g (k, v')) : ∀ {d : Dir}, (∀ p ∈ d, f p = g p) → (dins k v d).map f = (dins k v' d).map g
  | [], _ => by simp [dins, hv]
  | p :: d, h => by
    unfold dins
    have hp := h p (List.mem_cons_self ..)
    have hd : ∀ q ∈ d, f q = g q := fun q hq => h q (List.mem_cons_of_mem _ hq)
    split
    · rw [List.map_cons, List.map_cons, List.map_cons, List.map_cons, hv, hp, List.map_congr_left hd]
    · rw [List.map_cons, List.map_cons, hp, map_ins k v v' hv hd]
theorem rSum_del (r : RSt) (k : Nm) : ∀ d : Dir, rSum r (ddel d k) ≤ rSum r d
  | [] => Nat.le_refl _
  | p :: d => by
    have hc : ∀ (q : Nm × Nat) (e : Dir), rSum r (q :: e) = (rDat r q.2).length + rSum r e := fun q e => by simp [rSum]
    have ih := rSum_del r k d
    unfold ddel at *
    rw [List.filter_cons]
    split
    · rw [hc, hc]; omega
    · rw [hc]; omega
theorem len_del (k : Nm) (d : Dir) : (ddel d k).length ≤ d.length := List.length_filter_le _ _
theorem saves_math {m : Mf} (hm : mErr m = 0) {q : RSt} (hon : On q) (hi : InoOk q) (hr : q.room = 100000) (hl : q.dir.length ≤ 1) (hs : rSum q q.dir ≤ 1000) :
    ∃ q3 q4, rSave q m = (0, q3) ∧ rSave q3 m = (0, q4) ∧ rFiles q4 = rFiles q3 ∧ q4.dir.length ≤ 64 := by
  obtain ⟨l1, g1, k1⟩ := mErr_put hm
  have a1 := len_del manNewN q.dir
  have a2 := rSum_del q manNewN q.dir
  obtain ⟨h1, h2⟩ := save_on hon hi hm (by omega) (by omega) (by rw [hr]; omega)
  obtain ⟨q3, hq3⟩ : ∃ z, z = (rSave q m).2 := ⟨_, rfl⟩
  rw [← hq3] at h2
  obtain ⟨D, hD⟩ : ∃ z, z = ddel (ddel q.dir manNewN) manN := ⟨_, rfl⟩
  have hDi : ∀ p ∈ D, p.2 < q.ino.length := fun p hp => by rw [hD] at hp; exact hi p (mem_ddel.1 (mem_ddel.1 hp).1).1
  have hDn : ∀ p ∈ D, p.1 ≠ manN := fun p hp => by rw [hD] at hp; exact (mem_ddel.1 hp).2
  have hDl : D.length ≤ 1 := by rw [hD]; have := len_del manN (ddel q.dir manNewN); omega
  have hDs : rSum q D ≤ 1000 := by rw [hD]; have := rSum_del q manN (ddel q.dir manNewN); omega
  have hd3 : q3.dir = dins manN q.ino.length D := by rw [h2.dir, hD]; rfl
  have hdat3 : rDat q3 q.ino.length = mPutB m := rDat_at (x := (mPutB m, (mPutB m).length)) (by rw [h2.ino]; simp)
  have hn3 : dget q3.dir manNewN = none := by
    rw [h2.dir, qget_put_ne _ _ (by decide)]
    exact qget_del _ _
  have hdel3 : ddel q3.dir manNewN = q3.dir := qdel_none hn3
  have hs3 : rSum q3 q3.dir ≤ 2004 := by
    rw [hd3, rSum_ins, hdat3, rSum_congr (s := q) fun p hp => rDat_left h2.ino (hDi p hp)]
    omega
  have hl3 : q3.dir.length ≤ 2 := by rw [hd3, length_dins]; omega
  have hi3 := h2.inoOk hi
  obtain ⟨h3, h4⟩ := save_on h2.on hi3 hm (by rw [hdel3]; omega) (by omega) (by rw [hdel3, h2.room, hr]; omega)
  obtain ⟨q4, hq4⟩ : ∃ z, z = (rSave q3 m).2 := ⟨_, rfl⟩
  rw [← hq4] at h4
  have hd4 : q4.dir = dins manN q3.ino.length D := by
    rw [h4.dir, hdel3]
    unfold dput
    rw [hd3, qdel_ins _ hDn]
  have hdat4 : rDat q4 q3.ino.length = mPutB m := rDat_at (x := (mPutB m, (mPutB m).length)) (by rw [h4.ino]; simp)
  have hino3 : q3.ino.length = q.ino.length + 1 := by rw [h2.ino]; simp
  refine ⟨q3, q4, Prod.ext h1 hq3.symm, Prod.ext h3 hq4.symm, ?_, by rw [hd4, length_dins]; omega⟩
  unfold rFiles
  rw [hd3, hd4]
  refine map_ins _ _ _ (by rw [hdat3, hdat4]) fun p hp => ?_
  have hp1 := hDi p hp
  rw [rDat_left h4.ino (by omega), rDat_left h2.ino hp1]
/-- Two writes on a new disk: refused both, or both done and what was written last is read. -/
theorem writes_math {x a b : Nm} (ha : a.length ≤ 1000) (hb : b.length ≤ 1000) :
    ∃ (E : Int) (q1 q2 : RSt), rWrite (rNew 100000) x a = (E, q1) ∧ rWrite q1 x b = (E, q2) ∧ (okName x = true → E = 0 ∧ rRead q2 x = (b, 0)) ∧ (okName x = false → E = 1) ∧ On q2 ∧ InoOk q2 ∧ q2.room = 100000 ∧ q2.dir.length ≤ 1 ∧ rSum q2 q2.dir ≤ 1000 := by
  cases hx : okName x with
  | false =>
    have hw : ∀ y : Nm, rWrite (rNew 100000) x y = (1, rNew 100000) := fun y => by
      have hc : rCreate (rNew 100000) x = (1, rNew 100000) := by
        unfold rCreate
        rw [if_neg (by rw [(rNew_on 100000).power]; simp), if_pos hx]
      have ht : rThere (rNew 100000) x = false := rfl
      rw [rWrite_do]
      unfold wSteps
      rw [ht, if_neg (by simp), List.nil_append, rDo_cons]
      rw [hc, if_pos (by simp)]
    have hI : InoOk (rNew 100000) := fun p hp => by cases hp
    refine ⟨1, rNew 100000, rNew 100000, hw a, hw b, fun h => absurd h (by simp), fun _ => rfl, rNew_on _, hI, rfl, Nat.zero_le _, Nat.zero_le _⟩
  | true =>
    obtain ⟨w1, w2⟩ := write_on (rNew_on 100000) (fun p hp => by cases hp) (bs := a) hx (by show 0 < 64; omega) (by omega) (by show a.length + 0 ≤ 100000; omega)
    obtain ⟨q1, hq1⟩ : ∃ q, q = (rWrite (rNew 100000) x a).2 := ⟨_, rfl⟩
    rw [← hq1] at w2
    have hd1 : q1.dir = [(x, 0)] := w2.dir
    have hi1 : q1.ino = [(a, a.length)] := w2.ino
    have hdd : ddel q1.dir x = [] := by rw [hd1]; unfold ddel; simp
    obtain ⟨v1, v2⟩ := write_on w2.on (w2.inoOk fun p hp => by cases hp) (bs := b) hx (by rw [hdd]; show 0 < 64; omega) (by omega) (by rw [hdd, w2.room]; show b.length + 0 ≤ 100000; omega)
    obtain ⟨q2, hq2⟩ : ∃ q, q = (rWrite q1 x b).2 := ⟨_, rfl⟩
    rw [← hq2] at v2
    have hd2 : q2.dir = [(x, 1)] := by rw [v2.dir]; unfold dput; rw [hdd, hi1]; rfl
    have hi2 : q2.ino = [(a, a.length), (b, b.length)] := by rw [v2.ino, hi1]; rfl
    refine ⟨0, q1, q2, Prod.ext w1 hq1.symm, Prod.ext v1 hq2.symm, fun _ => ⟨rfl, v2.read⟩, fun h => absurd h (by simp), v2.on, v2.inoOk (w2.inoOk fun p hp => by cases hp), by rw [v2.room, w2.room]; rfl, by rw [hd2]; exact Nat.le_refl _, ?_⟩
    have : rDat q2 1 = b := rDat_at (x := (b, b.length)) (by rw [hi2]; rfl)
    rw [hd2]
    unfold rSum
    simp only [List.map_cons, List.map_nil, List.sum_cons, List.sum_nil]
    rw [this]
    omega
end Go.Proofs.YtmhiekbpmoikfaaGreatDoor
