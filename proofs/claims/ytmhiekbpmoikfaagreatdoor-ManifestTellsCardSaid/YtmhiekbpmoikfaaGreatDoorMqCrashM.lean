/- Save and crashes: the manifest that was, or the new one; all else stays. -/
import Derived.Test.YtmhiekbpmoikfaaGreatDoorZp12
namespace Go.Proofs.YtmhiekbpmoikfaaGreatDoor
open Go.RowKit Go.Maps Go.WideMaps

theorem back_none {r : RSt} (h : r.chs = []) (acts : Int) : rBack r acts = r.old := by
  unfold rBack
  rw [h, List.take_nil]
  rfl
theorem back_one {r : RSt} {c : RCh} (h : r.chs = [c]) (acts : Int) : rBack r acts = r.old ∨ rBack r acts = c.eff r.old := by
  unfold rBack
  rw [h]
  cases partN acts [c].length with
  | zero => exact .inl rfl
  | succ k => exact .inr (by rw [List.take_of_length_le (by simp)]; rfl)
/-- A file that is synced whole stays so. -/
theorem cutN_full {ino : List (Nm × Nat)} {j : Nat} {bs : Nm} (h : ino[j]? = some (bs, bs.length)) (cs : List Int) (d : Dir) : ∀ k, (rCutN ino cs d k)[j]? = some (bs, bs.length)
  | 0 => h
  | k + 1 => by
    have ih := cutN_full h cs d k
    simp only [rCutN]
    cases hd : d[k]? with
    | none => exact ih
    | some p =>
      simp only [rCutAt]
      cases hx : (rCutN ino cs d k)[p.2]? with
      | none => exact ih
      | some x =>
        simp only
        by_cases hp : p.2 = j
        · rw [hp] at hx ⊢
          rw [ih] at hx
          have hl := (List.getElem?_eq_some_iff.1 ih).1
          rw [List.getElem?_set_self hl]
          have e : x = (bs, bs.length) := (Option.some.inj hx).symm
          rw [e]
          have hk : rKeep (bs, bs.length) (cutOf cs k) = bs.length := by
            have := rKeep_le (bs, bs.length) (cutOf cs k) (Nat.le_refl _)
            simp only at this
            have h2 : bs.length ≤ rKeep (bs, bs.length) (cutOf cs k) := by unfold rKeep; simp
            omega
          unfold rCut
          rw [hk, List.take_length]
        · rw [List.getElem?_set_ne hp]
          exact ih
theorem crash_read {r : RSt} {acts : Int} {x : Nm} {j : Nat} {bs : Nm} (h : dget (rBack r acts) x = some j) (hi : r.ino[j]? = some (bs, bs.length)) (cs : List Int) : rRead (rCrashed r acts cs) x = (bs, 0) := by
  unfold rRead
  rw [if_neg (by show ¬ (false = true); simp)]
  rw [show (rCrashed r acts cs).dir = rBack r acts from rfl, h]
  simp only
  rw [rDat_at (x := (bs, bs.length)) (cutN_full hi cs _ _)]
theorem crash_none {r : RSt} {acts : Int} {x : Nm} (h : dget (rBack r acts) x = none) (cs : List Int) : rRead (rCrashed r acts cs) x = ([], 12) := by
  unfold rRead
  rw [if_neg (by show ¬ (false = true); simp)]
  rw [show (rCrashed r acts cs).dir = rBack r acts from rfl, h]
/-- What a Save may leave on a disk whose directory is D, with files I, at any crash. -/
structure Safe (D : Dir) (I : List (Nm × Nat)) (b2 : Nm) (n : Int) (r : RSt) : Prop where
  other : ∀ acts x, x ≠ manN → x ≠ manNewN → dget (rBack r acts) x = dget D x
  man : ∀ acts, (n ≠ 0 ∧ dget (rBack r acts) manN = dget D manN) ∨ (dget (rBack r acts) manN = some I.length ∧ r.ino[I.length]? = some (b2, b2.length))
  files : ∀ j, j < I.length → r.ino[j]? = I[j]?
theorem safe_fields {D : Dir} {I : List (Nm × Nat)} {b2 : Nm} {n : Int} {r s : RSt} (h : Safe D I b2 n r) (h1 : s.old = r.old) (h2 : s.chs = r.chs) (h3 : s.ino = r.ino) : Safe D I b2 n s := by
  have e : ∀ acts, rBack s acts = rBack r acts := fun acts => by unfold rBack; rw [h1, h2]
  exact ⟨fun a x => by rw [e]; exact h.other a x, fun a => by rw [e, h3]; exact h.man a, fun j hj => by rw [h3]; exact h.files j hj⟩
section
variable {D : Dir} {I : List (Nm × Nat)} {b2 : Nm}
theorem manNew_ne : manN ≠ manNewN := by decide
theorem app_files (y : Nm × Nat) : ∀ j, j < I.length → (I ++ [y])[j]? = I[j]? := fun _ hj => List.getElem?_append_left hj
theorem safe0 {r : RSt} (h1 : r.old = D) (h2 : r.chs = []) (h3 : ∀ j, j < I.length → r.ino[j]? = I[j]?) {n : Int} (hn : n ≠ 0) : Safe D I b2 n r :=
  ⟨fun a x _ _ => by rw [back_none h2, h1], fun a => .inl ⟨hn, by rw [back_none h2, h1]⟩, h3⟩
theorem safe1 {r : RSt} (h1 : r.old = D) (h2 : r.chs = [⟨[], manNewN, I.length⟩]) (h3 : ∀ j, j < I.length → r.ino[j]? = I[j]?) {n : Int} (hn : n ≠ 0) : Safe D I b2 n r := by
  have e : (⟨[], manNewN, I.length⟩ : RCh).eff D = dput D manNewN I.length := by
    unfold RCh.eff
    rw [if_neg (show ¬ manNewN = [] by decide), if_pos rfl]
  have key : ∀ a x, x ≠ manNewN → dget (rBack r a) x = dget D x := fun a x hx => by
    rcases back_one h2 a with h | h
    · rw [h, h1]
    · rw [h, h1, e, qget_put_ne _ _ hx]
  exact ⟨fun a x _ hx => key a x hx, fun a => .inl ⟨hn, key a _ manNew_ne⟩, h3⟩
theorem safe2 {r : RSt} (h1 : r.old = dput D manNewN I.length) (h2 : r.chs = []) (h3 : ∀ j, j < I.length → r.ino[j]? = I[j]?) {n : Int} (hn : n ≠ 0) : Safe D I b2 n r := by
  have key : ∀ a x, x ≠ manNewN → dget (rBack r a) x = dget D x := fun a x hx => by rw [back_none h2, h1, qget_put_ne _ _ hx]
  exact ⟨fun a x _ hx => key a x hx, fun a => .inl ⟨hn, key a _ manNew_ne⟩, h3⟩
theorem ren_eff (hD : dget D manNewN = none) : (⟨manNewN, manN, I.length⟩ : RCh).eff (dput D manNewN I.length) = dput D manN I.length := by
  unfold RCh.eff
  rw [if_neg (show ¬ manN = [] by decide), if_neg (show ¬ manNewN = [] by decide), qdel_put, qdel_none hD]
theorem safe3 {r : RSt} (hD : dget D manNewN = none) (h1 : r.old = dput D manNewN I.length) (h2 : r.chs = [⟨manNewN, manN, I.length⟩]) (h3 : r.ino = I ++ [(b2, b2.length)]) {n : Int} (hn : n ≠ 0) : Safe D I b2 n r := by
  refine ⟨fun a x hm hx => ?_, fun a => ?_, fun j hj => by rw [h3]; exact app_files _ j hj⟩
  · rcases back_one h2 a with h | h
    · rw [h, h1, qget_put_ne _ _ hx]
    · rw [h, h1, ren_eff hD, qget_put_ne _ _ hm]
  · rcases back_one h2 a with h | h
    · exact .inl ⟨hn, by rw [h, h1, qget_put_ne _ _ manNew_ne]⟩
    · exact .inr ⟨by rw [h, h1, ren_eff hD, qget_put], by rw [h3]; simp⟩
theorem safe4 {r : RSt} (h1 : r.old = dput D manN I.length) (h2 : r.chs = []) (h3 : r.ino = I ++ [(b2, b2.length)]) (n : Int) : Safe D I b2 n r :=
  ⟨fun a x hm _ => by rw [back_none h2, h1, qget_put_ne _ _ hm], fun a => .inr ⟨by rw [back_none h2, h1, qget_put], by rw [h3]; simp⟩, fun j hj => by rw [h3]; exact app_files _ j hj⟩
end
theorem rPower_off {r : RSt} (h : (rPower r).off = false) : r.off = false := by
  unfold rPower at h
  simp at h
  exact h.1
/-- A Save, the power gone wherever it may: at any crash behind it the manifest is the old one, or the new one. -/
theorem save_safe {s : RSt} {m : Mf} (hm : mErr m = 0) (hc : s.chs = []) (ho : s.old = s.dir) (hn : dget s.dir manNewN = none) (hl : s.dir.length < 64) (hi : InoOk s) (hb : (mPutB m).length ≤ 262144) (hr : (mPutB m).length + rSum s s.dir ≤ s.room) :
    Safe s.dir s.ino (mPutB m) (rSave s m).1 (rSave s m).2 := by
  obtain ⟨b2, hb2⟩ : ∃ b, b = mPutB m := ⟨_, rfl⟩
  rw [← hb2] at hb hr ⊢
  rw [rSave_do hm]
  unfold sSteps
  rw [← hb2, rDo_cons]
  try simp only
  have hw : rWrite s manNewN b2 = rDo [fun r => rCreate r manNewN, fun r => rAppend r manNewN b2, fun r => rSync r manNewN] s := by
    rw [rWrite_do]
    unfold wSteps
    rw [if_neg (fun h => there_iff.1 h hn), List.nil_append]
  rw [hw]
  clear hw
  obtain ⟨W, hW⟩ : ∃ W, W = rDo [fun r => rCreate r manNewN, fun r => rAppend r manNewN b2, fun r => rSync r manNewN] s := ⟨_, rfl⟩
  rw [← hW]
  rw [rDo_cons] at hW
  -- create
  by_cases p0 : (rPower s).off = true
  · have e : rCreate s manNewN = (14, rPower s) := by unfold rCreate; rw [if_pos p0]
    rw [e, if_pos (by simp)] at hW
    rw [hW, if_pos (by simp)]
    exact safe0 (r := rPower s) ho hc (fun _ _ => rfl) (by simp)
  have p0 : (rPower s).off = false := by simpa using p0
  have e1 : rCreate s manNewN = (0, rMore s manNewN) := by
    unfold rCreate
    rw [if_neg (by rw [p0]; simp), if_neg (by decide), hn]
    simp only
    rw [if_neg (by omega)]
    rfl
  obtain ⟨s1, hs1⟩ : ∃ z, z = rMore s manNewN := ⟨_, rfl⟩
  rw [← hs1] at e1
  have d1 : s1.dir = dput s.dir manNewN s.ino.length := by rw [hs1]; exact rMore_dir okManNew
  have o1 : s1.old = s.dir := by rw [hs1]; exact ho
  have c1 : s1.chs = [⟨[], manNewN, s.ino.length⟩] := by rw [hs1]; show s.chs ++ [_] = _; rw [hc]; rfl
  have i1 : s1.ino = s.ino ++ [([], 0)] := by rw [hs1]; rfl
  have r1 : s1.room = s.room := by rw [hs1]; rfl
  have g1 : dget s1.dir manNewN = some s.ino.length := by rw [d1]; exact qget_put _ _ _
  have f1 : ∀ j, j < s.ino.length → s1.ino[j]? = s.ino[j]? := fun j hj => by rw [i1]; exact app_files _ j hj
  have sum1 : rSum s1 s1.dir = rSum s s.dir := by
    rw [d1]
    unfold dput
    rw [rSum_ins, rDat_at (x := ([], 0)) (by rw [i1]; simp), qdel_none hn, rSum_congr (s := s) fun p hp => rDat_left i1 (hi p hp)]
    exact Nat.zero_add _
  rw [e1, if_neg (by simp), rDo_cons] at hW
  clear e1 hs1
  -- append
  by_cases p1 : (rPower s1).off = true
  · have e : rAppend s1 manNewN b2 = (14, rPower s1) := by unfold rAppend; rw [if_pos p1]
    rw [e, if_pos (by simp)] at hW
    rw [hW, if_pos (by simp)]
    exact safe1 (r := rPower s1) o1 c1 f1 (by simp)
  have p1 : (rPower s1).off = false := by simpa using p1
  have e2 : rAppend s1 manNewN b2 = (0, rDid { s1 with ino := s1.ino.set s.ino.length (b2, 0) }) := by
    unfold rAppend
    rw [if_neg (by rw [p1]; simp), g1]
    simp only
    rw [rDat_at (x := ([], 0)) (by rw [i1]; simp), sum1, r1, i1, if_neg (by simp; omega), if_neg (by omega)]
    simp
  obtain ⟨s2, hs2⟩ : ∃ z, z = rDid { s1 with ino := s1.ino.set s.ino.length (b2, 0) } := ⟨_, rfl⟩
  rw [← hs2] at e2
  have d2 : s2.dir = s1.dir := by rw [hs2]; rfl
  have o2 : s2.old = s.dir := by rw [hs2]; exact o1
  have c2 : s2.chs = [⟨[], manNewN, s.ino.length⟩] := by rw [hs2]; exact c1
  have i2 : s2.ino = s.ino ++ [(b2, 0)] := by rw [hs2]; show s1.ino.set _ _ = _; rw [i1]; simp
  have f2 : ∀ j, j < s.ino.length → s2.ino[j]? = s.ino[j]? := fun j hj => by rw [i2]; exact app_files _ j hj
  rw [e2, if_neg (by simp), rDo_last] at hW
  clear e2 hs2
  -- sync
  by_cases p2 : (rPower s2).off = true
  · have e : rSync s2 manNewN = (14, rPower s2) := by unfold rSync; rw [if_pos p2]
    rw [e] at hW
    rw [hW, if_pos (by simp)]
    exact safe1 (r := rPower s2) o2 c2 f2 (by simp)
  have p2 : (rPower s2).off = false := by simpa using p2
  have e3 : rSync s2 manNewN = (0, rDid { s2 with ino := s2.ino.set s.ino.length (b2, b2.length) }) := by
    unfold rSync
    rw [if_neg (by rw [p2]; simp), d2, g1]
    simp only
    rw [rDat_at (x := (b2, 0)) (by rw [i2]; simp)]
  obtain ⟨s3, hs3⟩ : ∃ z, z = rDid { s2 with ino := s2.ino.set s.ino.length (b2, b2.length) } := ⟨_, rfl⟩
  rw [← hs3] at e3
  have d3 : s3.dir = dput s.dir manNewN s.ino.length := by rw [hs3]; show s2.dir = _; rw [d2, d1]
  have o3 : s3.old = s.dir := by rw [hs3]; exact o2
  have c3 : s3.chs = [⟨[], manNewN, s.ino.length⟩] := by rw [hs3]; exact c2
  have i3 : s3.ino = s.ino ++ [(b2, b2.length)] := by rw [hs3]; show s2.ino.set _ _ = _; rw [i2]; simp
  have f3 : ∀ j, j < s.ino.length → s3.ino[j]? = s.ino[j]? := fun j hj => by rw [i3]; exact app_files _ j hj
  rw [e3] at hW
  rw [hW, if_neg (by simp), rDo_cons]
  clear e3 hs3 hW
  -- the directory
  by_cases p3 : (rPower s3).off = true
  · have e : rSyncDir s3 = (14, rPower s3) := by unfold rSyncDir; rw [if_pos p3]
    rw [e, if_pos (by simp)]
    exact safe1 (r := rPower s3) o3 c3 f3 (by simp)
  have p3 : (rPower s3).off = false := by simpa using p3
  have e4 : rSyncDir s3 = (0, rDid { s3 with old := s3.dir, chs := [] }) := by unfold rSyncDir; rw [if_neg (by rw [p3]; simp)]
  obtain ⟨s4, hs4⟩ : ∃ z, z = rDid { s3 with old := s3.dir, chs := [] } := ⟨_, rfl⟩
  rw [← hs4] at e4
  have d4 : s4.dir = dput s.dir manNewN s.ino.length := by rw [hs4]; exact d3
  have o4 : s4.old = dput s.dir manNewN s.ino.length := by rw [hs4]; exact d3
  have c4 : s4.chs = [] := by rw [hs4]; rfl
  have i4 : s4.ino = s.ino ++ [(b2, b2.length)] := by rw [hs4]; exact i3
  have f4 : ∀ j, j < s.ino.length → s4.ino[j]? = s.ino[j]? := fun j hj => by rw [i4]; exact app_files _ j hj
  rw [e4, if_neg (by simp), rDo_cons]
  try simp only
  clear e4 hs4
  -- the new name
  by_cases p4 : (rPower s4).off = true
  · have e : rRename s4 manNewN manN = (14, rPower s4) := by unfold rRename; rw [if_pos p4]
    rw [e, if_pos (by simp)]
    exact safe2 (r := rPower s4) o4 c4 f4 (by simp)
  have p4 : (rPower s4).off = false := by simpa using p4
  have e5 : rRename s4 manNewN manN = (0, rChange s4 ⟨manNewN, manN, s.ino.length⟩) := by
    unfold rRename
    rw [if_neg (by rw [p4]; simp), if_neg (by decide), d4, qget_put]
    simp only
    rw [if_neg (by decide)]
  obtain ⟨s5, hs5⟩ : ∃ z, z = rChange s4 ⟨manNewN, manN, s.ino.length⟩ := ⟨_, rfl⟩
  rw [← hs5] at e5
  have d5 : s5.dir = dput s.dir manN s.ino.length := by
    rw [hs5, show (rChange s4 ⟨manNewN, manN, s.ino.length⟩).dir = RCh.eff ⟨manNewN, manN, s.ino.length⟩ s4.dir from rfl]
    show RCh.eff ⟨manNewN, manN, s.ino.length⟩ s4.dir = _
    rw [d4, ren_eff hn]
  have o5 : s5.old = dput s.dir manNewN s.ino.length := by rw [hs5]; exact o4
  have c5 : s5.chs = [⟨manNewN, manN, s.ino.length⟩] := by rw [hs5]; show s4.chs ++ [_] = _; rw [c4]; rfl
  have i5 : s5.ino = s.ino ++ [(b2, b2.length)] := by rw [hs5]; exact i4
  rw [e5, if_neg (by simp), rDo_last]
  clear e5 hs5
  by_cases p5 : (rPower s5).off = true
  · have e : rSyncDir s5 = (14, rPower s5) := by unfold rSyncDir; rw [if_pos p5]
    rw [e]
    exact safe3 (r := rPower s5) hn o5 c5 i5 (by simp)
  have p5 : (rPower s5).off = false := by simpa using p5
  have e6 : rSyncDir s5 = (0, rDid { s5 with old := s5.dir, chs := [] }) := by unfold rSyncDir; rw [if_neg (by rw [p5]; simp)]
  rw [e6]
  exact safe4 (r := rDid { s5 with old := s5.dir, chs := [] }) d5 rfl i5 0
end Go.Proofs.YtmhiekbpmoikfaaGreatDoor
