/- The directory's files never use more than the room. -/
import Derived.Test.YteaeniopfbglnaaFuseMath
namespace Go.Proofs.Yteaeniopfbglnaa
open Go.RowKit Go.Maps Go.WideMaps

theorem dins_perm (k : Nm) (v : Nat) : ∀ d : Dir, (dins k v d).Perm ((k, v) :: d)
  | [] => List.Perm.refl _
  | p :: r => by
    simp only [dins]
    split
    · exact List.Perm.refl _
    · exact ((dins_perm k v r).cons p).trans (List.Perm.swap _ _ _)
theorem lenSum_perm (dat : Nat → Nm) {d e : Dir} (h : d.Perm e) : lenSum dat d = lenSum dat e := (h.map _).sum_nat
theorem lenSum_cons (dat : Nat → Nm) (p : Nm × Nat) (d : Dir) : lenSum dat (p :: d) = (dat p.2).length + lenSum dat d := by simp [lenSum]
theorem lenSum_dput (dat : Nat → Nm) (d : Dir) (k : Nm) (v : Nat) : lenSum dat (dput d k v) = (dat v).length + lenSum dat (ddel d k) := by
  rw [dput, lenSum_perm dat (dins_perm k v _), lenSum_cons]
theorem lenSum_filter (dat : Nat → Nm) (f : Nm × Nat → Bool) : ∀ d : Dir, lenSum dat (d.filter f) ≤ lenSum dat d
  | [] => Nat.le_refl _
  | p :: r => by
    have := lenSum_filter dat f r
    rw [List.filter_cons]
    split
    · rw [lenSum_cons, lenSum_cons]; omega
    · rw [lenSum_cons]; omega
theorem lenSum_ddel (dat : Nat → Nm) (d : Dir) (k : Nm) : lenSum dat (ddel d k) ≤ lenSum dat d := lenSum_filter dat _ d
theorem lenSum_mem (dat : Nat → Nm) {p : Nm × Nat} : ∀ {d : Dir}, p ∈ d → (dat p.2).length + lenSum dat (ddel d p.1) ≤ lenSum dat d
  | q :: r, h => by
    rcases List.mem_cons.1 h with e | e
    · subst e
      have : ddel (p :: r) p.1 = ddel r p.1 := by simp [ddel]
      rw [this, lenSum_cons]
      have := lenSum_ddel dat r p.1
      omega
    · have h1 := lenSum_mem dat e
      by_cases hq : q.1 = p.1
      · have : ddel (q :: r) p.1 = ddel r p.1 := by simp [ddel, hq]
        rw [this, lenSum_cons]
        omega
      · have : ddel (q :: r) p.1 = q :: ddel r p.1 := by simp [ddel, hq]
        rw [this, lenSum_cons, lenSum_cons]
        omega
theorem lenSum_upd (dat : Nat → Nm) (i : Nat) (v : Nm) : ∀ {d : Dir}, (∀ p ∈ d, p.2 ≠ i) → lenSum (upd dat i v) d = lenSum dat d
  | [], _ => rfl
  | p :: r, h => by
    rw [lenSum_cons, lenSum_cons, upd_other _ _ (h p (by simp)), lenSum_upd dat i v (fun q hq => h q (by simp [hq]))]
theorem lenSum_app (dat : Nat → Nm) (i : Nat) (bs : Nm) : ∀ {d : Dir}, (d.map (·.2)).Nodup → lenSum (upd dat i (dat i ++ bs)) d ≤ lenSum dat d + bs.length
  | [], _ => by simp [lenSum]
  | p :: r, h => by
    simp only [List.map_cons, List.nodup_cons] at h
    by_cases e : p.2 = i
    · have hr : ∀ q ∈ r, q.2 ≠ i := fun q hq e2 => h.1 (List.mem_map.2 ⟨q, hq, by rw [e2, e]⟩)
      rw [lenSum_cons, lenSum_cons, lenSum_upd dat i _ hr, e, upd_same]
      simp; omega
    · have := lenSum_app dat i bs h.2
      rw [lenSum_cons, lenSum_cons, upd_other _ _ e]
      omega
theorem upd_id {α : Type} (f : Nat → α) (i : Nat) : upd f i (f i) = f := by
  funext j
  by_cases e : j = i
  · subst e; simp [upd]
  · simp [upd, e]
theorem nodup_dput {d : Dir} {k : Nm} {v : Nat} (h : ((ddel d k).map (·.2)).Nodup) (hv : ∀ p ∈ ddel d k, p.2 ≠ v) : ((dput d k v).map (·.2)).Nodup := by
  refine ((dins_perm k v (ddel d k)).map (·.2)).nodup_iff.2 ?_
  simp only [List.map_cons, List.nodup_cons]
  exact ⟨fun hm => by
    obtain ⟨p, hp, e⟩ := List.mem_map.1 hm
    exact hv p hp e, h⟩
theorem nodup_ddel {d : Dir} {k : Nm} (h : (d.map (·.2)).Nodup) : ((ddel d k).map (·.2)).Nodup := (List.filter_sublist.map _).nodup h
theorem nodup_inj {d : Dir} (h : (d.map (·.2)).Nodup) {p q : Nm × Nat} (hp : p ∈ d) (hq : q ∈ d) (e : p.2 = q.2) : p = q := by
  induction d with
  | nil => cases hp
  | cons x r ih =>
    simp only [List.map_cons, List.nodup_cons] at h
    rcases List.mem_cons.1 hp with e1 | h1 <;> rcases List.mem_cons.1 hq with e2 | h2
    · rw [e1, e2]
    · exact absurd (List.mem_map.2 ⟨q, h2, by rw [← e, e1]⟩) h.1
    · exact absurd (List.mem_map.2 ⟨p, h1, by rw [e, e2]⟩) h.1
    · exact ih h.2 h1 h2

structure Roomy (R : Nat) (s : St) : Prop where
  room : s.room = R
  fits : lenSum s.dat s.now ≤ R
  ids : (s.now.map (·.2)).Nodup
theorem act_roomy {R : Nat} {s s' : St} {T : Int → St → Prop} {n : Int} (h : ActEnd s T n s') (hr : Roomy R s) (hT : ∀ n s1, T n s1 → Roomy R s1) : Roomy R s' := by
  rcases h with ⟨_, _, rfl⟩ | ⟨_, _, s1, h1, _, _, _, ⟨_, rfl⟩ | ⟨_, rfl⟩⟩
  · exact ⟨hr.room, hr.fits, hr.ids⟩
  · exact hT _ _ h1
  · have h2 := hT _ _ h1
    exact ⟨h2.room, h2.fits, h2.ids⟩
theorem Step.roomy {R : Nat} {s s' : St} {o : OpV} {n : Int} (h : Step s o n s') (h8 : o.what ≠ 8) (hw : WF s) (hr : Roomy R s) : Roomy R s' := by
  have h0 := hr.fits
  rcases h with ⟨_, h⟩ | ⟨_, h⟩ | ⟨_, h⟩ | ⟨_, h⟩ | ⟨_, h⟩ | ⟨_, h⟩ | ⟨_, _, rfl⟩ | ⟨e, _⟩ | ⟨_, _, rfl⟩
  · refine act_roomy h hr fun n s1 h1 => ?_
    rcases h1 with ⟨_, _, rfl⟩ | ⟨_, _, _, rfl⟩ | ⟨_, _, _, _, rfl⟩ | ⟨_, _, _, _, i, hi, rfl⟩
    · exact hr
    · exact hr
    · exact hr
    · have hni : ∀ p ∈ s.now, p.2 ≠ i := fun p hp e => hi (e ▸ hw.now_id p hp)
      have hnd : ∀ p ∈ ddel s.now o.key, p.2 ≠ i := fun p hp => hni p (mem_ddel.1 hp).1
      refine ⟨hr.room, ?_, nodup_dput (nodup_ddel hr.ids) hnd⟩
      show lenSum (upd s.dat i []) (dput s.now o.key i) ≤ R
      rw [lenSum_dput, upd_same, lenSum_upd _ _ _ hnd]
      have := lenSum_ddel s.dat s.now o.key
      simp; omega
  · refine act_roomy h hr fun n s1 h1 => ?_
    rcases h1 with ⟨_, _, rfl⟩ | ⟨_, _, _, _, _, rfl⟩ | ⟨_, _, _, _, _, _, rfl⟩ | ⟨i, _, _, _, hl, _, rfl⟩
    · exact hr
    · exact hr
    · exact hr
    · refine ⟨hr.room, ?_, hr.ids⟩
      have := lenSum_app s.dat i o.bs hr.ids
      have := hr.room
      show lenSum (upd s.dat i (s.dat i ++ o.bs)) s.now ≤ R
      omega
  · refine act_roomy h hr fun n s1 h1 => ?_
    rcases h1 with ⟨_, _, rfl⟩ | ⟨i, _, _, _, rfl⟩
    · exact hr
    · exact ⟨hr.room, by show lenSum (upd s.dat i (s.dat i)) s.now ≤ R; rw [upd_id]; exact h0, hr.ids⟩
  · refine act_roomy h hr fun n s1 h1 => ?_
    rcases h1 with ⟨_, _, rfl⟩ | ⟨_, _, _, rfl⟩ | ⟨_, _, _, _, rfl⟩ | ⟨_, hne, _, i, hg, rfl⟩
    · exact hr
    · exact hr
    · exact hr
    · have hm := dget_mem hg
      have h1 := lenSum_mem s.dat hm
      refine ⟨hr.room, ?_, ?_⟩
      · show lenSum s.dat (ddel (dput s.now o.bs i) o.key) ≤ R
        have e : (ddel (dput s.now o.bs i) o.key).Perm ((o.bs, i) :: ddel (ddel s.now o.bs) o.key) := by
          unfold dput
          conv => lhs; unfold ddel
          refine ((dins_perm o.bs i (ddel s.now o.bs)).filter _).trans ?_
          rw [List.filter_cons]
          have : (!(o.bs == o.key)) = true := by simp; exact fun e => hne e.symm
          rw [if_pos this]
          exact List.Perm.refl _
        rw [lenSum_perm _ e, lenSum_cons]
        have e2 : ddel (ddel s.now o.bs) o.key = ddel (ddel s.now o.key) o.bs := by simp only [ddel, List.filter_filter, Bool.and_comm]
        rw [e2]
        have := lenSum_ddel s.dat (ddel s.now o.key) o.bs
        simp only at h1
        show (s.dat i).length + _ ≤ R
        omega
      · have e : (ddel (dput s.now o.bs i) o.key).Perm ((o.bs, i) :: ddel (ddel s.now o.bs) o.key) := by
          unfold dput
          conv => lhs; unfold ddel
          refine ((dins_perm o.bs i (ddel s.now o.bs)).filter _).trans ?_
          rw [List.filter_cons]
          have : (!(o.bs == o.key)) = true := by simp; exact fun e => hne e.symm
          rw [if_pos this]
          exact List.Perm.refl _
        refine (e.map (·.2)).nodup_iff.2 ?_
        simp only [List.map_cons, List.nodup_cons]
        refine ⟨fun hx => ?_, nodup_ddel (nodup_ddel hr.ids)⟩
        obtain ⟨p, hp, e3⟩ := List.mem_map.1 hx
        have h2 := mem_ddel.1 hp
        have h3 := (mem_ddel.1 h2.1).1
        have := nodup_inj hr.ids h3 hm e3
        exact h2.2 (by rw [this])
  · refine act_roomy h hr fun n s1 h1 => ?_
    rcases h1 with ⟨_, _, rfl⟩ | ⟨_, _, rfl⟩
    · exact hr
    · refine ⟨hr.room, ?_, nodup_ddel hr.ids⟩
      show lenSum s.dat (ddel s.now o.key) ≤ R
      have := lenSum_ddel s.dat s.now o.key
      omega
  · refine act_roomy h hr fun n s1 h1 => ?_
    obtain ⟨_, rfl⟩ := h1
    exact ⟨hr.room, h0, hr.ids⟩
  · exact ⟨hr.room, h0, hr.ids⟩
  · omega
  · exact hr

def lenF (L : List (Nm × Nm)) : Nat := (L.map (·.2.length)).sum
theorem lenF_files (s : St) : lenF (filesOf s) = lenSum s.dat s.now := by simp [lenF, filesOf, lenSum, Function.comp_def]
theorem lenF_snoc (L : List (Nm × Nm)) (x : Nm × Nm) : lenF (L ++ [x]) = lenF L + x.2.length := by simp [lenF]
theorem files_sorted {s : St} (h : s.now.Pairwise (fun p q => p.1 < q.1)) {q : Nat} {x y : Nm × Nm} (hx : (filesOf s)[q]? = some x) (hy : (filesOf s)[q + 1]? = some y) : x.1 < y.1 := by
  have hl := (List.getElem?_eq_some_iff.1 hy).1
  simp only [filesOf, List.length_map] at hl
  simp only [filesOf, List.getElem?_map] at hx hy
  rw [List.getElem?_eq_getElem (by omega)] at hx hy
  simp only [Option.map_some, Option.some.injEq] at hx hy
  rw [← hx, ← hy]
  exact List.pairwise_iff_getElem.1 h q (q + 1) (by omega) (by omega) (by omega)
end Go.Proofs.Yteaeniopfbglnaa
