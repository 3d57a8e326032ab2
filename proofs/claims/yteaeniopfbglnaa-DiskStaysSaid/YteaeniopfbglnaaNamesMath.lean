/- Names that come and go: the plain part; the document's own test of a name. -/
import Derived.Test.YteaeniopfbglnaaRoomMath
namespace Go.Proofs.Yteaeniopfbglnaa
open Go.RowKit Go.Maps Go.WideMaps

set_option maxHeartbeats 1000000 in
set_option maxRecDepth 100000 in
theorem Right_any (s : ByteArray) (w : World) (hs : s.size ≤ maxLen) :
    Calls Try.prog 37 #[.string s] w fun e w' => e = .returned (.bool (okName s.data.toList)) ∧ w = w' := by
  unfold maxLen at hs
  have hsz : s.data.toList.length = s.size := by simp
  by_cases h1 : s.size < 1
  · have hf : okName s.data.toList = false := by simp [okName, hsz]; omega
    rw [hf]
    clear hsz hf
    go_enter Try.func37, Try.ntmps37
    go_wp2
    go_ret
    exact ⟨rfl, rfl⟩
  by_cases h2 : 24 < s.size
  · have hf : okName s.data.toList = false := by simp [okName, hsz]; omega
    rw [hf]
    clear hsz hf
    go_enter Try.func37, Try.ntmps37
    go_wp2
    go_ret
    exact ⟨rfl, rfl⟩
  have hall : okName s.data.toList = s.data.toList.all fun c => okByte c.toNat := by simp [okName, hsz]; omega
  have HALL := Lib.hid hall; clear hall
  have HSZ := Lib.hid hsz; clear hsz
  go_enter Try.func37, Try.ntmps37
  go_wp2
  go_loop [3] (fun i => ∃ k : Nat, k ≤ s.size ∧ i = .int .i64 k ∧ ((s.data.toList.take k).all fun c => okByte c.toNat) = true) (fun i => s.size - (intOf i).toNat)
  case atStart => exact ⟨0, Nat.zero_le _, rfl, by simp⟩
  case round =>
    obtain ⟨k, hk, rfl, hp⟩ := hrel
    have HP := Lib.hid hp; clear hp
    by_cases hlt : k < s.size
    · have hsn := Lib.hid (all_take_snoc s k hlt fun c => okByte c.toNat)
      have key : ∀ b : Bool, okByte (s[k]).toNat = b → (b = false → okName s.data.toList = false) ∧ (b = true → ((s.data.toList.take (k + 1)).all fun c => okByte c.toNat) = true) := fun b hb => by
        refine ⟨fun e => ?_, fun e => by rw [hsn.out, HP.out, hb, e]; rfl⟩
        rw [HALL.out, ← List.take_append_drop (k + 1) s.data.toList, List.all_append, hsn.out, HP.out, hb, e]; rfl
      have KEY := Lib.hid key
      clear key
      by_cases h5 : (s[k]).toNat = 46
      · have hv : okByte (s[k]).toNat = true := by simp [okByte, h5]
        have KV := Lib.hid ((KEY.out _ hv).2 rfl)
        have t5 : (((s[k]).toNat : Int) != 46) = false := by simp; omega
        clear hv h5
        go_wp2
        go_round
        case rel => exact ⟨k + 1, by omega, by go_num, KV.out⟩
        case measure => simp [intOf]; omega
      · have t5 : (((s[k]).toNat : Int) != 46) = true := by simp; omega
        by_cases hL : (s[k]).toNat < 97 ∨ 122 < (s[k]).toNat
        · by_cases hD : (s[k]).toNat < 48 ∨ 57 < (s[k]).toNat
          · have hv : okByte (s[k]).toNat = false := by simp [okByte, h5]; omega
            have KV := Lib.hid ((KEY.out _ hv).1 rfl)
            clear hv h5
            rcases hL with hL | hL <;> rcases hD with hD | hD
            all_goals
              first | omega | skip
            all_goals
              go_wp2
              go_ret
              exact ⟨by rw [KV.out]; rfl, rfl⟩
          · have hv : okByte (s[k]).toNat = true := by simp [okByte]; omega
            have KV := Lib.hid ((KEY.out _ hv).2 rfl)
            have d1 : ¬ (s[k]).toNat < 48 := by omega
            have d2 : ¬ 57 < (s[k]).toNat := by omega
            clear hv h5 hD
            rcases hL with hL | hL
            all_goals
              first | omega | skip
            all_goals
              go_wp2
              go_round
              case rel => exact ⟨k + 1, by omega, by go_num, KV.out⟩
              case measure => simp [intOf]; omega
        · have hv : okByte (s[k]).toNat = true := by simp [okByte]; omega
          have KV := Lib.hid ((KEY.out _ hv).2 rfl)
          have d1 : ¬ (s[k]).toNat < 97 := by omega
          have d2 : ¬ 122 < (s[k]).toNat := by omega
          clear hv h5 hL
          go_wp2
          go_round
          case rel => exact ⟨k + 1, by omega, by go_num, KV.out⟩
          case measure => simp [intOf]; omega
    · go_wp2
      go_ret
      refine ⟨?_, rfl⟩
      have e : s.data.toList.take k = s.data.toList := List.take_of_length_le (by rw [HSZ.out]; omega)
      have h := HP.out
      rw [e] at h
      rw [HALL.out, h]; rfl

/-- With the power on, and no fuse. -/
structure Live (s : St) : Prop where
  fuse : s.fuse = -1
  down : s.down = false
theorem Live.act {s s' : St} {T : Int → St → Prop} {n : Int} (hl : Live s) (h : ActEnd s T n s') : Live s' := by
  rcases h with ⟨h1, _⟩ | ⟨_, _, s1, _, ea, ef, ed, ⟨_, rfl⟩ | ⟨_, rfl⟩⟩
  · rcases h1 with h1 | h1
    · have := hl.fuse; omega
    · rw [hl.down] at h1; cases h1
  · exact ⟨by rw [ef, hl.fuse], by rw [ed, hl.down]⟩
  · refine ⟨?_, by show s1.down = false; rw [ed, hl.down]⟩
    show (if 0 < s1.fuse then s1.fuse - 1 else s1.fuse) = -1
    rw [ef, hl.fuse]; rfl
theorem Live.step {s s' : St} {o : OpV} {n : Int} (hl : Live s) (h : Step s o n s') (hw : o.what < 7) : Live s' := by
  rcases h with ⟨_, h⟩ | ⟨_, h⟩ | ⟨_, h⟩ | ⟨_, h⟩ | ⟨_, h⟩ | ⟨_, h⟩ | ⟨e, _⟩ | ⟨e, _⟩ | ⟨_, _, rfl⟩
  all_goals first | exact hl.act h | omega | exact hl

/-- How much the directory's files are, at most. -/
structure Summed (B : Nat) (s : St) : Prop where
  fits : lenSum s.dat s.now ≤ B
  ids : (s.now.map (·.2)).Nodup
theorem Summed.more {B B' : Nat} {s : St} (h : Summed B s) (hb : B ≤ B') : Summed B' s := ⟨Nat.le_trans h.fits hb, h.ids⟩
theorem act_summed {B : Nat} {s s' : St} {T : Int → St → Prop} {n : Int} (h : ActEnd s T n s') (hr : Summed B s) (hT : ∀ n s1, T n s1 → Summed B s1) : Summed B s' := by
  rcases h with ⟨_, _, rfl⟩ | ⟨_, _, s1, h1, _, _, _, ⟨_, rfl⟩ | ⟨_, rfl⟩⟩
  · exact ⟨hr.fits, hr.ids⟩
  · exact hT _ _ h1
  · have h2 := hT _ _ h1
    exact ⟨h2.fits, h2.ids⟩
theorem Summed.remove {B : Nat} {s s1 : St} {k : Nm} {n : Int} (h1 : TRemove s k n s1) (hr : Summed B s) : Summed B s1 := by
  rcases h1 with ⟨_, _, rfl⟩ | ⟨_, _, rfl⟩
  · exact hr
  · refine ⟨?_, nodup_ddel hr.ids⟩
    show lenSum s.dat (ddel s.now k) ≤ B
    have := lenSum_ddel s.dat s.now k
    have := hr.fits
    omega
theorem Summed.create {B : Nat} {s s1 : St} {k : Nm} {n : Int} (hw : WF s) (h1 : TCreate s k n s1) (hr : Summed B s) : Summed B s1 := by
  rcases h1 with ⟨_, _, rfl⟩ | ⟨_, _, _, rfl⟩ | ⟨_, _, _, _, rfl⟩ | ⟨_, _, _, _, i, hi, rfl⟩
  · exact hr
  · exact hr
  · exact hr
  · have hni : ∀ p ∈ s.now, p.2 ≠ i := fun p hp e => hi (e ▸ hw.now_id p hp)
    have hnd : ∀ p ∈ ddel s.now k, p.2 ≠ i := fun p hp => hni p (mem_ddel.1 hp).1
    refine ⟨?_, nodup_dput (nodup_ddel hr.ids) hnd⟩
    show lenSum (upd s.dat i []) (dput s.now k i) ≤ B
    rw [lenSum_dput, upd_same, lenSum_upd _ _ _ hnd]
    have := lenSum_ddel s.dat s.now k
    have := hr.fits
    simp; omega
theorem rename_perm {d : Dir} {x y : Nm} {i : Nat} (hne : x ≠ y) : (ddel (dput d y i) x).Perm ((y, i) :: ddel (ddel d y) x) := by
  unfold dput
  conv => lhs; unfold ddel
  refine ((dins_perm y i (ddel d y)).filter _).trans ?_
  rw [List.filter_cons]
  have : (!(y == x)) = true := by simp; exact fun e => hne e.symm
  rw [if_pos this]
  exact List.Perm.refl _
theorem Step.summed {B : Nat} {s s' : St} {o : OpV} {n : Int} (h : Step s o n s') (h8 : o.what ≠ 8) (hw : WF s) (hr : Summed B s) : Summed (B + o.bs.length) s' := by
  have h0 := hr.fits
  have hm := hr.more (Nat.le_add_right B o.bs.length)
  rcases h with ⟨_, h⟩ | ⟨_, h⟩ | ⟨_, h⟩ | ⟨_, h⟩ | ⟨_, h⟩ | ⟨_, h⟩ | ⟨_, _, rfl⟩ | ⟨e, _⟩ | ⟨_, _, rfl⟩
  · exact act_summed h hm fun n s1 h1 => hm.create hw h1
  · refine act_summed h hm fun n s1 h1 => ?_
    rcases h1 with ⟨_, _, rfl⟩ | ⟨_, _, _, _, _, rfl⟩ | ⟨_, _, _, _, _, _, rfl⟩ | ⟨i, _, _, _, hl, _, rfl⟩
    · exact hm
    · exact hm
    · exact hm
    · refine ⟨?_, hr.ids⟩
      have := lenSum_app s.dat i o.bs hr.ids
      show lenSum (upd s.dat i (s.dat i ++ o.bs)) s.now ≤ _
      omega
  · refine act_summed h hm fun n s1 h1 => ?_
    rcases h1 with ⟨_, _, rfl⟩ | ⟨i, _, _, _, rfl⟩
    · exact hm
    · exact ⟨by show lenSum (upd s.dat i (s.dat i)) s.now ≤ _; rw [upd_id]; omega, hr.ids⟩
  · refine act_summed h hm fun n s1 h1 => ?_
    rcases h1 with ⟨_, _, rfl⟩ | ⟨_, _, _, rfl⟩ | ⟨_, _, _, _, rfl⟩ | ⟨_, hne, _, i, hg, rfl⟩
    · exact hm
    · exact hm
    · exact hm
    · have hme := dget_mem hg
      have h1 := lenSum_mem s.dat hme
      have e := rename_perm (d := s.now) (i := i) hne
      refine ⟨?_, ?_⟩
      · show lenSum s.dat (ddel (dput s.now o.bs i) o.key) ≤ _
        rw [lenSum_perm _ e, lenSum_cons]
        have e2 : ddel (ddel s.now o.bs) o.key = ddel (ddel s.now o.key) o.bs := by simp only [ddel, List.filter_filter, Bool.and_comm]
        rw [e2]
        have := lenSum_ddel s.dat (ddel s.now o.key) o.bs
        simp only at h1
        show (s.dat i).length + _ ≤ _
        omega
      · refine (e.map (·.2)).nodup_iff.2 ?_
        simp only [List.map_cons, List.nodup_cons]
        refine ⟨fun hx => ?_, nodup_ddel (nodup_ddel hr.ids)⟩
        obtain ⟨p, hp, e3⟩ := List.mem_map.1 hx
        have h2 := mem_ddel.1 hp
        have h3 := (mem_ddel.1 h2.1).1
        have := nodup_inj hr.ids h3 hme e3
        exact h2.2 (by rw [this])
  · exact act_summed h hm fun n s1 h1 => hm.remove h1
  · refine act_summed h hm fun n s1 h1 => ?_
    obtain ⟨_, rfl⟩ := h1
    exact ⟨hm.fits, hm.ids⟩
  · exact ⟨hm.fits, hm.ids⟩
  · omega
  · exact hm

theorem dget_none {d : Dir} {k : Nm} (h : ∀ p ∈ d, p.1 ≠ k) : dget d k = none := by
  unfold dget
  rw [List.find?_eq_none.2 (fun p hp => by simpa using h p hp)]
  rfl
theorem dget_ddel (d : Dir) (k : Nm) : dget (ddel d k) k = none := dget_none fun _ hp => (mem_ddel.1 hp).2
theorem dget_ddel_ne (d : Dir) {k j : Nm} (h : j ≠ k) : dget (ddel d k) j = dget d j := by
  induction d with
  | nil => rfl
  | cons p r ih =>
    by_cases hp : p.1 = k
    · have e1 : ddel (p :: r) k = ddel r k := by simp [ddel, hp]
      have e2 : dget (p :: r) j = dget r j := by
        have : (p.1 == j) = false := by simp [hp]; exact fun e => h e.symm
        simp [dget, this]
      rw [e1, e2, ih]
    · have e1 : ddel (p :: r) k = p :: ddel r k := by simp [ddel, hp]
      rw [e1]
      cases hj : (p.1 == j)
      · have : dget (p :: ddel r k) j = dget (ddel r k) j := by simp [dget, hj]
        rw [this, ih]
        simp [dget, hj]
      · simp [dget, hj]
theorem dget_dins (k : Nm) (v : Nat) : ∀ {d : Dir}, (∀ p ∈ d, p.1 ≠ k) → dget (dins k v d) k = some v
  | [], _ => by simp [dins, dget]
  | p :: r, h => by
    simp only [dins]
    split
    · simp [dget]
    · have hp : (p.1 == k) = false := by simpa using h p (by simp)
      have := dget_dins k v (d := r) (fun q hq => h q (by simp [hq]))
      simpa [dget, List.find?_cons, hp] using this
theorem dget_dput (d : Dir) (k : Nm) (v : Nat) : dget (dput d k v) k = some v := dget_dins k v fun _ hp => (mem_ddel.1 hp).2
end Go.Proofs.Yteaeniopfbglnaa
