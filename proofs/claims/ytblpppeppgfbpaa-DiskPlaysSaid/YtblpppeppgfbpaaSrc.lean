/- append onto a row of the call's own, from whatever source: nil, empty or not. -/
import Derived.Test.YtblpppeppgfbpaaUsed
import Derived.RegionTactic
import Derived.Deep.RegionHeld3
import Derived.Deep.RegionLaw
namespace Go.Proofs.Ytblpppeppgfbpaa
open Go.RowKit Go.Maps Go.WideMaps

/-- What Append's own part comes to. -/
def TAppend (s : St) (k bs : Nm) (n : Int) (s' : St) : Prop :=
  (dget s.now k = none ∧ n = 12 ∧ s' = s) ∨
  (∃ i, dget s.now k = some i ∧ i ∈ s.ids ∧ 262144 < bs.length + (s.dat i).length ∧ n = 2 ∧ s' = s) ∨
  (∃ i, dget s.now k = some i ∧ i ∈ s.ids ∧ bs.length + (s.dat i).length ≤ 262144 ∧ s.room < lenSum s.dat s.now + bs.length ∧ n = 11 ∧ s' = s) ∨
  (∃ i, dget s.now k = some i ∧ i ∈ s.ids ∧ bs.length + (s.dat i).length ≤ 262144 ∧ lenSum s.dat s.now + bs.length ≤ s.room ∧ n = 0 ∧ s' = { s with dat := upd s.dat i (s.dat i ++ bs), syn := upd s.syn i (s.syn i) })

theorem append_end {w w1 w2 w3 : World} {F : Nat → Prop} {b : Nat} {s : St} {bn bo : Nat} {cv : Value} {cls : List Value} {fv : Nat → Value} (hd : IsDisk w F b s bn bo cv cls fv) {i : Nat} (hi : i ∈ s.ids) {k bs : Nm} (hg : dget s.now k = some i)
    (hl : bs.length + (s.dat i).length ≤ 262144) (hr : lenSum s.dat s.now + bs.length ≤ s.room) (hB : Below w.heap.size w w1) (hw2 : w2.heap = w1.heap) {v v' : Value} (hv : v = fv i) (hg2 : w2.grownBy w3 v.ownBlock)
    (hown : w3.ownsRow 0 5 1 v' ((s.dat i).length + bs.length) ((s.dat i).map byteV ++ bs.map byteV)) (hloc : v'.ownBlock = v.ownBlock ∨ v'.ownBlock = some w2.heap.size) (hb4 : Blk w3 i 65 #[v, .int .i64 (s.syn i)]) (hos : w2.os = w1.os) (hta : w2.tape = w1.tape) (hou : w2.output = w1.output) :
    Left w F b (fun n s' => TAppend s k bs n s' ∧ s'.acts = s.acts ∧ s'.fuse = s.fuse ∧ s'.down = s.down) (.returned (.int .i64 0)) (w3.setCell ⟨i, 0, none⟩ v') := by
  subst hv
  have hfi := hd.files i hi
  have hs1 : w.heap.size ≤ w2.heap.size := by rw [hw2]; exact hB.size
  have hno : (fv i).ownBlock ≠ some i := own_blk_ne hfi.2 hfi.1 (by decide)
  have hk2 : Kept F w w2 := ⟨hos.trans hB.os, hta.trans hB.tape, hou.trans hB.output, hs1, fun j hj _ => by rw [hw2]; exact hB.block j hj⟩
  have hk3 : Kept F w (w3.setCell ⟨i, 0, none⟩ v') := (hk2.grown hg2 (fun g hg => .inl (hd.fd i hi g hg))).setCell (.inl (hd.fi i hi)) _
  have hno' : v'.ownBlock ≠ some i := own_blk_ne hown hb4 (by decide)
  refine ⟨0, _, Own F w (w3.setCell ⟨i, 0, none⟩ v'), rfl, ⟨.inr (.inr (.inr ⟨i, hg, hi, hl, hr, rfl, rfl⟩)), rfl, rfl, rfl⟩, ⟨bn, bo, cv, cls, _, hd.file (v' := v') hi (fun _ h => .inl h) ?_ ?_ ?_ ?_ ?_ ?_⟩, hk3, Own.sub⟩
  · intro j hj
    rcases hj with h | h
    · exact Nat.lt_of_lt_of_le (hd.lt j h) hk3.size
    · exact h.2
  · intro j hj h1 h2
    rw [heap_setCell_other _ _ _ h1, hg2.block j (by omega) (fun e => h2 e.symm), hw2, hB.block j hj]
  · refine ⟨by simpa using hb4.set_ 0 v', ?_⟩
    have : w3.ownsRow 0 5 1 v' (s.dat i ++ bs).length ((s.dat i ++ bs).map byteV) := by simpa using hown
    exact ownsRow_block this fun g hg => heap_setCell_other _ _ _ fun e => hno' (by rw [hg, e])
  · have := hd.wf.fit i hi
    simp
    omega
  · intro g hg
    rcases hloc with h | h
    · exact .inl (by rw [← h]; exact hg)
    · rw [h] at hg
      have : g = w2.heap.size := by simpa using hg.symm
      exact .inr (by omega)
  · intro g hg
    rcases hloc with h | h
    · exact .inl (hd.fd i hi g (by rw [← h]; exact hg))
    · have h1 := (hown.lt g hg).2
      rw [h] at hg
      have : g = w2.heap.size := by simpa using hg.symm
      exact .inr ⟨by omega, by rw [size_setCell']; exact h1⟩

set_option maxHeartbeats 4000000 in
set_option maxRecDepth 100000 in
theorem append1_any {w : World} {F : Nat → Prop} {b : Nat} {s : St} (hD : Disk w F b s) (k : ByteArray) (hk : k.size ≤ maxLen) (A : Option Addr) (n c : Nat) (bs : Nm) (hsrc : Src w A n (bs.map byteV)) (hn : n ≤ 140737488355328) (hA : ∀ ad, A = some ad → 0 < n → ad.block < w.heap.size ∧ ¬ F ad.block)
    {bk bd bb : Nat} (h1 : Blk w bk 9 #[.string k]) (h2 : Blk w bd 27 #[at0 b]) (h3 : Blk w bb 33 #[.slice A n c]) :
    Calls Try.prog 55 #[at0 bd, at0 bk, at0 bb] w (Left w F b fun n s' => TAppend s k.data.toList bs n s' ∧ s'.acts = s.acts ∧ s'.fuse = s.fuse ∧ s'.down = s.down) := by
  have hbn : bs.length = n := by have := hsrc.len; simpa using this
  have ck := h1.cell 0
  have cd := h2.cell 0
  have cb := h3.cell 0
  simp [at0] at ck cd cb
  have HD := Lib.hid hD
  obtain ⟨bn, bo, cv, cls, fv, hd⟩ := hD
  have c1 := hd.blk.cell 1
  have c0 := hd.blk.cell 0
  simp at c1 c0
  have hlk : ∀ n, (Instr.lookup 67 (.map (some bn)) (.string k) true).run Try.prog (w.drewN n) = .ok (.tuple #[ptrOf (dget s.now k.data.toList), .bool (dget s.now k.data.toList).isSome]) (w.drewN n) := fun n => look_ok (w := w.drewN n) hd.now hk
  have HI := Lib.hid hd
  clear hd
  have HBN := Lib.hid hbn; clear hbn
  cases hg : dget s.now k.data.toList with
  | none =>
    rw [hg] at hlk
    simp only [ptrOf, Option.isSome_none] at hlk
    have HG := Lib.hid hg; clear hg
    unfold at0
    go_enter Try.func55, Try.ntmps55
    go_wp2
    go_quiet (fail)
    go_wp2
    go_ret
    exact ⟨12, s, F, rfl, ⟨.inl ⟨HG.out, rfl, rfl⟩, rfl, rfl, rfl⟩, HD.out.drewN _, (Kept.refl F w).drewN _, fun _ hi => .inl hi⟩
  | some i =>
    rw [hg] at hlk
    simp only [ptrOf, Option.isSome_some, at0] at hlk
    have hi : i ∈ s.ids := HI.out.wf.now_id _ (dget_mem hg)
    have hf := HI.out.files i hi
    have hfit := (HI.out.wf.fit i hi).2
    obtain ⟨A', cp, hv⟩ := own_slice hf.2
    have f0 := hf.1.cell 0
    rw [hv] at f0
    simp at f0
    have HV := Lib.hid hv; clear hv
    have HF := Lib.hid hf; clear hf
    have HG := Lib.hid hg; clear hg
    by_cases hbig : 262144 < n + (s.dat i).length
    · unfold at0
      go_enter Try.func55, Try.ntmps55
      go_wp2
      go_quiet (fail)
      go_wp2
      go_quiet (fail)
      go_wp2
      go_ret
      exact ⟨2, s, F, rfl, ⟨.inr (.inl ⟨i, HG.out, hi, by rw [HBN.out]; exact hbig, rfl, rfl⟩), rfl, rfl, rfl⟩, (HD.out.drewN _).drewN _, ((Kept.refl F w).drewN _).drewN _, fun _ hi => .inl hi⟩
    · unfold at0
      go_enter Try.func55, Try.ntmps55
      go_wp2
      go_quiet (fail)
      go_wp2
      go_quiet (fail)
      go_wp2
      refine wp_at ?_
      intro W hW
      have hbz : Below w.heap.size w W := by rw [hW]; exact below_drewN2 _ _ _
      have hby : Below w.heap.size w W.drew := hbz.drew
      have e1 : W.cell? ⟨bd, 0, none⟩ = some (.pointer (some ⟨b, 0, none⟩)) := by rw [hW]; exact cd
      have e2 : W.cell? ⟨b, 0, none⟩ = some (.int .i64 s.room) := by rw [hW]; exact c0
      have e3 : W.cell? ⟨bb, 0, none⟩ = some (.slice A n c) := by rw [hW]; exact cb
      clear hW
      have hroom := HI.out.wf.room
      have hused := used_le HI.out.wf
      have hwr : IntKind.i64.wrap ((s.room : Int) - (n : Int)) = (s.room : Int) - (n : Int) := IntWalk.i64_in _ (by omega)
      go_region_held3 (fun w' => w'.cell? ⟨bd, 0, none⟩ = some (.pointer (some ⟨b, 0, none⟩)) ∧ w'.cell? ⟨b, 0, none⟩ = some (.int .i64 s.room) ∧ w'.cell? ⟨bb, 0, none⟩ = some (.slice A n c) ∧ Below w.heap.size w w')
        (first | go_keep | exact ⟨e1, e2, e3, hby⟩ | exact ⟨below_cells hb (by assumption), below_cells hb (by assumption), below_cells hb (by assumption), Below.trans (by assumption) (hb.mono (Below.size (by assumption)))⟩)
        (first | (go_at_call 13; refine (used_any (HD.out.kept (Kept.below (F := fun _ => False) (by assumption)) (fun _ _ => id))).mono ?_; rintro e w' ⟨rfl, hb⟩))
      rename_i hHeld
      obtain ⟨-, -, g3, hB2⟩ := hHeld
      have HWR := Lib.hid hwr
      clear hwr e1 e2 e3 hby hbz cd c0 cb c1 ck hlk
      by_cases hfull : s.room < lenSum s.dat s.now + n
      · have hf1 : (s.room : Int) - (n : Int) < (lenSum s.dat s.now : Int) := by omega
        go_wp2
        go_ret
        exact ⟨11, s, F, rfl, ⟨.inr (.inr (.inl ⟨i, HG.out, hi, by rw [HBN.out]; omega, by rw [HBN.out]; omega, rfl, rfl⟩)), rfl, rfl, rfl⟩, HD.out.kept (Kept.below (F := fun _ => False) hB2) (fun _ _ => id), Kept.below hB2, fun _ hi => .inl hi⟩
      · have hf1 : ¬ (s.room : Int) - (n : Int) < (lenSum s.dat s.now : Int) := by omega
        obtain ⟨i0, hi0, hz0, hz1, hz2⟩ := info_parts byteInfo
        have hfi := HF.out
        have hB3 : Blk w' i 65 #[.slice A' (s.dat i).length cp, .int .i64 (s.syn i)] := by rw [← HV.out]; exact hfi.1.below hB2 hfi.1.lt
        have hrowW : w'.ownsRow 0 5 1 (.slice A' (s.dat i).length cp) (s.dat i).length ((s.dat i).map byteV) := by
          rw [← HV.out]; exact ownsRow_block hfi.2 fun g hg => hB2.block g (hfi.2.lt g hg).2
        have hsrcW : Src w' A n (bs.map byteV) := hsrc.keep fun ad e h0 => hB2.block _ (hA ad e h0).1
        have k0 := hB3.cell 0
        simp at k0
        have hno : (Value.slice A' (s.dat i).length cp).ownBlock ≠ some i := own_blk_ne hrowW hB3 (by decide)
        have hrowD : w'.drew.ownsRow 0 5 1 (.slice A' (s.dat i).length cp) (s.dat i).length ((s.dat i).map byteV) := hrowW
        have hsrcD : Src w'.drew A n (bs.map byteV) := ⟨hsrcW.1, hsrcW.2, hsrcW.3⟩
        have hB3d : Blk w'.drew i 65 #[.slice A' (s.dat i).length cp, .int .i64 (s.syn i)] := hB3
        have HB3 := Lib.hid hB3d
        have HNO := Lib.hid hno
        clear hB3 hB3d hno f0 hfi hrowW hsrcW
        have h1c : ∀ u ∈ bs.map byteV, u.oneCell' = true := by
          intro u hu
          obtain ⟨x, _, rfl⟩ := List.mem_map.1 hu
          rfl
        have H1C := Lib.hid h1c
        clear h1c
        go_wp2
        go_region_law (refine step_append_src _ rfl (.tmp 43) (.tmp 44) 33 rfl 0 5 i0 (.int .u8 0) 1 Try.underlying33 hi0 hz0 hz1 hz2 rfl (.slice A' (s.dat i).length cp) (s.dat i).length ((s.dat i).map byteV) rfl hrowD A n c (bs.map byteV) rfl hsrcD H1C.out (by unfold maxLen; omega) (by omega) (Nat.zero_le _) ?_; intro v' w3 hown' hg2 hloc; obtain ⟨A3, cp3, hv3⟩ := own_slice hown'; rw [hv3]; have HV3 := Lib.hid hv3; clear hv3; have HB4 := Lib.hid (HB3.out.grown hg2 (fun e => HNO.out e.symm)); have z4 := HB4.out.frozen 0; have e4 := HB4.out.cell 0; simp at e4)
        all_goals
          go_wp2
          go_ret
          rw [← HV3.out]
          have hn2 := HBN.out
          refine append_end HI.out hi HG.out (by omega) (by omega) hB2 (w2 := w'.drew) rfl (v := .slice A' (s.dat i).length cp) HV.out.symm hg2 (by rw [hn2]; exact hown') hloc HB4.out rfl rfl rfl
end Go.Proofs.Ytblpppeppgfbpaa
