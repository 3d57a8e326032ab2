/- Crash: what it leaves of a file, of the directory, and of the disk. -/
import Derived.Test.YtblpppeppgfbpaaOps2
namespace Go.Proofs.Ytblpppeppgfbpaa
open Go.RowKit Go.Maps Go.WideMaps

def i64v (n : Int) : Value := .int .i64 n
def cutOf (cs : List Int) (i : Nat) : Int := cs.getD i 0

set_option maxHeartbeats 1000000 in
theorem cutAt_any {w : World} (A : Option Addr) (n c : Nat) (cs : List Int) (hs : Src w A n (cs.map i64v)) (i : Nat) (hi : i ≤ 9223372036854775807) :
    Calls Try.prog 59 #[.slice A n c, .int .i64 i] w fun e w' => e = .returned (.int .i64 (cutOf cs i)) ∧ w = w' := by
  have hl : cs.length = n := by have := hs.len; simpa using this
  by_cases h : n ≤ i
  · have hc : cutOf cs i = 0 := by unfold cutOf; rw [List.getD_eq_getElem?_getD, List.getElem?_eq_none (by omega)]; rfl
    have HC := Lib.hid hc
    clear hc hl
    go_enter Try.func59, Try.ntmps59
    go_wp2
    go_ret
    rw [HC.out]
    exact ⟨rfl, rfl⟩
  · cases A with
    | none => have := hs.nil rfl; omega
    | some ad =>
      have hc : cs[i]? = some (cutOf cs i) := by unfold cutOf; rw [List.getD_eq_getElem?_getD, List.getElem?_eq_getElem (by omega)]; rfl
      have hcell := hs.cells ad rfl i (i64v (cutOf cs i)) (by rw [List.getElem?_map, hc]; rfl)
      unfold i64v at hcell
      have HC := Lib.hid hc
      clear hc hl
      obtain ⟨blk, off, sp⟩ := ad
      go_enter Try.func59, Try.ntmps59
      go_wp2
      go_ret
      exact ⟨rfl, rfl⟩

theorem part_int (n m : Int) (w : World) (h0 : 0 ≤ m) (hm : m ≤ 1099511627776) (hn : n ≤ 9223372036854775807) :
    Calls Try.prog 57 #[.int .i64 n, .int .i64 m] w fun e w' => e = .returned (.int .i64 (partN n m.toNat)) ∧ w = w' := by
  obtain ⟨k, rfl⟩ := Int.eq_ofNat_of_zero_le h0
  simpa using part_any n k w (by omega) hn
theorem quiet_left {P : Program} {f : FuncId} {args : Array Value} {w : World} {n : Nat} {v : Value}
    (h : Calls P f args (w.drewN n) fun e w' => e = .returned v ∧ w.drewN n = w') : Calls P f args (w.drewN n) fun e w'' => e = .returned v ∧ ∃ m, w'' = w.drewN m :=
  h.mono fun _ _ ⟨he, hm⟩ => ⟨he, n, hm.symm⟩

/-- How much of a file a crash leaves. -/
def keepLen (s : St) (i : Nat) (cut : Int) : Nat := s.syn i + partN cut ((s.dat i).length - s.syn i)
def St.cutFile (s : St) (i : Nat) (cut : Int) : St := { s with dat := upd s.dat i ((s.dat i).take (keepLen s i cut)), syn := upd s.syn i (keepLen s i cut) }
theorem keepLen_le {s : St} (h : WF s) {i : Nat} (hi : i ∈ s.ids) (cut : Int) : keepLen s i cut ≤ (s.dat i).length := by
  have h1 := (h.fit i hi).1
  have h2 := partN_le cut ((s.dat i).length - s.syn i)
  unfold keepLen
  omega

theorem cap_ge {w : World} {base : Nat} {e : TypeId} {n m c : Nat} {A : Option Addr} {xs : List Value} (h : w.ownsRow base e 1 (.slice A n c) m xs) : n = m ∧ n ≤ c ∧ c ≤ maxLen := by
  rcases h.2 with ⟨h1, h2⟩ | ⟨g, cap, cur, h1, _, _, h2, h3, _⟩
  · injection h1 with h1 h3 h4
    subst h3 h4 h2
    exact ⟨rfl, Nat.le_refl _, Nat.zero_le _⟩
  · injection h1 with h1 h4 h5
    subst h4 h5
    exact ⟨rfl, h2, h3⟩

/-- bytes.Clone of the first bytes of a file's. -/
theorem cloneTake_any {w : World} {A : Option Addr} {cp : Nat} {d : Nm} (h : w.ownsRow 0 5 1 (.slice A d.length cp) d.length (d.map byteV)) (hl : d.length ≤ 262144) (m : Nat) (hm : m ≤ d.length) :
    Calls Try.prog 30 #[.slice A m cp] w fun e w' => ∃ v', e = .returned v' ∧ w'.ownsRow w.heap.size 5 1 v' m ((d.take m).map byteV) ∧ Below w.heap.size w w' := by
  rcases h.2 with ⟨h1, h0⟩ | ⟨g, cap, cur, h1, _⟩
  · injection h1 with h1 h3 h4
    subst h1 h4
    have hm0 : m = 0 := by omega
    subst hm0
    refine (bytesClone_nil _ _ w).mono fun e w' ⟨he, hw⟩ => ⟨_, he, ?_, by rw [← hw]; exact Below.refl _ _⟩
    exact World.ownsRow_nil _ _ _ _
  · injection h1 with h1 h3 h4
    subst h1 h4
    refine bytesClone_at ⟨g, 0, none⟩ m cp ((d.take m).map byteV) w (by simp; omega) (by omega) (u8_one _) ?_
    intro j u hj
    refine h.cells rfl j u ?_
    rw [List.map_take, List.getElem?_take] at hj
    split at hj
    · exact hj
    · cases hj

set_option maxHeartbeats 2000000 in
set_option maxRecDepth 100000 in
theorem fcrash_any {w : World} {F : Nat → Prop} {b : Nat} {s : St} (hD : Disk w F b s) {i : Nat} (hi : i ∈ s.ids) (cut : Int) (hcut : cut ≤ 9223372036854775807) :
    Calls Try.prog 58 #[at0 i, .int .i64 cut] w fun e w' => e = .returned (.tuple #[]) ∧ Disk w' (Own F w w') b (s.cutFile i cut) ∧ Kept F w w' := by
  obtain ⟨bn, bo, cv, cls, fv, hd⟩ := hD
  have hf := hd.files i hi
  obtain ⟨hfit1, hfit2⟩ := hd.wf.fit i hi
  have hk := keepLen_le hd.wf hi cut
  have f1 := hf.1.cell 1
  have f0 := hf.1.cell 0
  obtain ⟨A, cp, hv⟩ := own_slice hf.2
  rw [hv] at f0
  simp at f0 f1
  have hrow := hf.2
  rw [hv] at hrow
  obtain ⟨_, hcp1, hcp2⟩ := cap_ge hrow
  have hp := partN_le cut ((s.dat i).length - s.syn i)
  have z0 := hf.1.frozen 0
  have z1 := hf.1.frozen 1
  have HV := Lib.hid hv
  have HF := Lib.hid hf
  have HI := Lib.hid hd
  have HR := Lib.hid hrow
  unfold maxLen at hcp2
  clear hd hv hf hrow
  unfold at0
  go_enter Try.func58, Try.ntmps58
  go_wp2
  go_quiet ((go_at_call 57; exact quiet_left (part_int _ _ _ (by omega) (by omega) hcut)))
  go_wp2_with fail
  refine (cloneTake_any (w := w.drewN nq) (d := s.dat i) HR.out hfit2 (s.syn i + partN cut ((s.dat i).length - s.syn i)) hk).mono ?_
  rintro e w1 ⟨v', rfl, hown', hbl⟩
  have hB1 : Blk w1 i 65 #[fv i, .int .i64 (s.syn i)] := (HF.out.1.drewN nq).below hbl HF.out.1.lt
  have k0 := hB1.cell 0
  have k1 := hB1.cell 1
  have y0 := hB1.frozen 0
  have y1 := hB1.frozen 1
  simp at k0 k1
  obtain ⟨A3, cp3, hv3⟩ := own_slice hown'
  rw [hv3]
  have HV3 := Lib.hid hv3
  have HB1 := Lib.hid hB1
  clear hv3 hB1
  go_wp2
  go_end0
  rw [← HV3.out]
  have hd := HI.out
  have hf := HF.out
  have hB1 := HB1.out
  have hno' : v'.ownBlock ≠ some i := own_blk_ne hown' hB1 (by decide)
  have hbl' : Below w.heap.size w w1 := ⟨hbl.os, hbl.tape, hbl.output, hbl.size, hbl.block⟩
  have hkeep : Kept F w ((w1.setCell ⟨i, 0, none⟩ v').setCell ⟨i, 1, none⟩ (.int .i64 ((s.syn i : Int) + (partN cut ((s.dat i).length - s.syn i) : Int)))) :=
    (((Kept.below (a := w) (w := w1) hbl').setCell (.inl (hd.fi i hi)) _).setCell (.inl (hd.fi i hi)) _)
  refine ⟨rfl, ⟨bn, bo, cv, cls, _, hd.file (v' := v') (d' := (s.dat i).take (keepLen s i cut)) (n' := keepLen s i cut) hi (fun _ h => .inl h) ?_ ?_ ?_ ?_ ?_ ?_⟩, hkeep⟩
  · intro j hj
    rcases hj with h | h
    · exact Nat.lt_of_lt_of_le (hd.lt j h) hkeep.size
    · exact h.2
  · intro j hj h1 _
    rw [heap_setCell_other _ _ _ h1, heap_setCell_other _ _ _ h1]
    exact hbl.block j hj
  · have hl : ((s.dat i).take (keepLen s i cut)).length = keepLen s i cut := by simp; omega
    refine ⟨?_, ?_⟩
    · have := (hB1.set_ 0 v').set_ 1 (.int .i64 ((s.syn i : Int) + (partN cut ((s.dat i).length - s.syn i) : Int)))
      simpa [keepLen] using this
    · rw [hl]
      have h2 : w1.ownsRow 0 5 1 v' (keepLen s i cut) (((s.dat i).take (keepLen s i cut)).map byteV) := by
        refine ⟨hown'.1, ?_⟩
        rcases hown'.2 with h1 | ⟨g, cap, cur, e, h1, h2⟩
        · exact .inl h1
        · exact .inr ⟨g, cap, cur, e, Nat.zero_le _, h2⟩
      exact ownsRow_block h2 fun g hg => by
        have hne : g ≠ i := fun e => hno' (by rw [hg, e])
        rw [heap_setCell_other _ _ _ hne, heap_setCell_other _ _ _ hne]
  · simp
    omega
  · intro g hg
    exact .inr (hown'.lt g hg).1
  · intro g hg
    exact .inr ⟨(hown'.lt g hg).1, by rw [size_setCell', size_setCell']; exact (hown'.lt g hg).2⟩

/-- A change's closure, called on a directory. -/
theorem eff_any {w W : World} {F : Nat → Prop} {v : Value} {c : Ch} (hr : chRep w F v c) (hW : ∀ i t cs, Blk w i t cs → t ≠ 70 → W.heap[i]? = w.heap[i]?) {bn : Nat} {d : Dir} (hdir : dirAt W bn d) (hok : c.ok d) (hl : d.length ≤ 200) :
    ∃ (f : Nat) (cap : Array Value), v = .func (.func f) #[] cap ∧ (∀ args w, (callFunc f args).run Try.prog w = .ok (.enter f args) w) ∧
      Calls Try.prog f (#[.map (some bn)] ++ cap) W fun e w' => e = .returned (.tuple #[]) ∧ dirAt w' bn (c.eff d) ∧ W.grownBy w' (some bn) := by
  cases c with
  | create k i =>
    obtain ⟨bf, bk, e, k1, k2, _, _, hkl⟩ := hr
    exact ⟨_, _, e, enters_of Try.func53 (by kernel_rfl) rfl, create_eff hdir hl (k1.same (hW _ _ _ k1 (by decide))) (k2.same (hW _ _ _ k2 (by decide))) hkl⟩
  | rename x y =>
    obtain ⟨bf, bk, e, k1, k2, _, _, hx, hy⟩ := hr
    obtain ⟨hs, _⟩ := hok
    obtain ⟨i, hi⟩ := Option.isSome_iff_exists.1 hs
    have h := rename_eff hdir hl hi (k1.same (hW _ _ _ k1 (by decide))) (k2.same (hW _ _ _ k2 (by decide))) hx hy
    refine ⟨_, _, e, enters_of Try.func66 (by kernel_rfl) rfl, ?_⟩
    have e2 : Ch.eff (.rename x y) d = ddel (dput d y i) x := by simp [Ch.eff, hi]
    rw [e2]
    exact h
  | remove k =>
    obtain ⟨bk, e, k1, _, hkl⟩ := hr
    exact ⟨_, _, e, enters_of Try.func68 (by kernel_rfl) rfl, remove_eff hdir (by omega) (k1.same (hW _ _ _ k1 (by decide))) hkl⟩

theorem effAll_take_succ (d : Dir) (l : List Ch) (j : Nat) (c : Ch) (h : l[j]? = some c) : effAll d (l.take (j + 1)) = c.eff (effAll d (l.take j)) := by
  have hj := (List.getElem?_eq_some_iff.1 h).1
  rw [List.take_succ_eq_append_getElem hj, effAll_snoc]
  have := (List.getElem?_eq_some_iff.1 h).2
  rw [this]

theorem replay_end {w W : World} {F : Nat → Prop} {b : Nat} {s : St} {bn bo : Nat} {cv : Value} {cls : List Value} {fv : Nat → Value} (hd : IsDisk w F b s bn bo cv cls fv) (n : Nat)
    (hk : Kept F w W) (hsame : ∀ i, i < w.heap.size → i ≠ b → W.heap[i]? = w.heap[i]?) (hblk : Blk W b 70 #[.int .i64 s.room, .map (some w.heap.size), .map (some bo), cv, .int .i64 s.acts, .int .i64 s.fuse, .bool s.down])
    (hdir : dirAt W w.heap.size (effAll s.old (s.chs.take n))) : Disk W (Own F w W) b { s with now := effAll s.old (s.chs.take n), mid := true } := by
  have hlt := hdir.lt
  have hF : ∀ i, Own F w W i → i < W.heap.size := fun i hi => by
    rcases hi with h | h
    · exact Nat.lt_of_lt_of_le (hd.lt i h) hk.size
    · exact h.2
  refine ⟨w.heap.size, bo, cv, cls, fv, ?_⟩
  exact {
    wf := ⟨idOk_all s.chs s.old n hd.wf.okc hd.wf.chs_id hd.wf.old_id, hd.wf.old_id, hd.wf.chs_id, hd.wf.fit, okAll_len s.chs s.old n hd.wf.okc hd.wf.nold, hd.wf.nold, hd.wf.okc, (fun h => by cases h), hd.wf.room, hd.wf.fuse1, hd.wf.fuse2⟩
    blk := hblk
    now := hdir
    old := ownsMap_block hd.old (hsame bo hd.old.lt (hd.blk.ne_map hd.old).symm)
    nob := by have := hd.old.lt; omega
    row := ownsRow_block hd.row fun g hg => hsame g (hd.row.lt g hg).2 (fun e => own_blk_ne hd.row hd.blk (by decide) (by rw [hg, e]))
    reps := fun j v c h1 h2 => by
      have hr := hd.reps j v c h1 h2
      cases c with
      | create k x =>
        obtain ⟨bf, bk, e, k1, k2, f1, f2, hl⟩ := hr
        exact ⟨bf, bk, e, k1.same (hsame _ k1.lt (k1.ne_ hd.blk (by decide))), k2.same (hsame _ k2.lt (k2.ne_ hd.blk (by decide))), .inl f1, .inl f2, hl⟩
      | rename x y =>
        obtain ⟨bf, bk, e, k1, k2, f1, f2, hl⟩ := hr
        exact ⟨bf, bk, e, k1.same (hsame _ k1.lt (k1.ne_ hd.blk (by decide))), k2.same (hsame _ k2.lt (k2.ne_ hd.blk (by decide))), .inl f1, .inl f2, hl⟩
      | remove k =>
        obtain ⟨bk, e, k1, f1, hl⟩ := hr
        exact ⟨bk, e, k1.same (hsame _ k1.lt (k1.ne_ hd.blk (by decide))), .inl f1, hl⟩
    files := fun i hi => (hd.files i hi).frame (hsame i (hd.files i hi).1.lt ((hd.files i hi).1.ne_ hd.blk (by decide))) fun g hg => hsame g ((hd.files i hi).2.lt g hg).2 (fun e => own_blk_ne (hd.files i hi).2 hd.blk (by decide) (by rw [hg, e]))
    apart := hd.apart
    fb := .inl hd.fb
    fn := .inr ⟨Nat.le_refl _, hlt⟩
    fo := .inl hd.fo
    fc := fun g hg => .inl (hd.fc g hg)
    fi := fun i hi => .inl (hd.fi i hi)
    fd := fun i hi g hg => .inl (hd.fd i hi g hg)
    lt := hF }

set_option maxHeartbeats 4000000 in
set_option maxRecDepth 100000 in
theorem replay_any {w : World} {F : Nat → Prop} {b : Nat} {s : St} (hD : Disk w F b s) (n : Nat) (hn : n ≤ s.chs.length) (hcs : s.chs.length < 1099511627776) :
    Calls Try.prog 56 #[at0 b, .int .i64 n] w fun e w' => e = .returned (.tuple #[]) ∧ Disk w' (Own F w w') b { s with now := effAll s.old (s.chs.take n), mid := true } ∧ Kept F w w' := by
  obtain ⟨bn, bo, cv, cls, fv, hd⟩ := hD
  have hb := hd.blk
  have c2 := hb.cell 2
  simp at c2
  have hcl := dirClone_any bo s.old w hd.old
  have HC := Lib.hid hcl
  have HD := Lib.hid hd
  have hrow := hd.row
  clear hcl hd hb
  rcases hrow.2 with ⟨rfl, h0⟩ | ⟨g, cap, cur, rfl, _, hg0, hcap1, hcap2, _⟩
  · have hn0 : n = 0 := by omega
    subst hn0
    unfold at0
    go_enter Try.func56, Try.ntmps56
    go_wp2_with (go_at_call 62; refine (Hid.out HC).mono ?_; rintro e w1 ⟨rfl, hdir, hsz, hbl⟩; have HDIR := Lib.hid hdir; clear hdir; have HSZ := Lib.hid hsz; clear hsz; have HB1 := Lib.hid (HD.out.blk.below hbl HD.out.blk.lt); have d1 := HB1.out.cell 1; have d3 := HB1.out.cell 3; have z1 := HB1.out.frozen 1; simp at d1 d3)
    refine wp_loop_rounds 1 ?_
    rw [rounds_succ]
    go_wp2
    go_end0
    have hd := HD.out
    have hlt := hd.blk.lt
    have hkk : Kept F w (w1.setCell ⟨b, 1, none⟩ (.map (some w.heap.size))) := (Kept.below hbl).setCell (.inl hd.fb) _
    refine ⟨rfl, replay_end hd 0 hkk (fun i hi h => by rw [heap_setCell_other _ _ _ h]; exact hbl.block i hi) (by simpa using HB1.out.set_ 1 (.map (some w.heap.size))) ?_, hkk⟩
    exact ownsMap_block HDIR.out (heap_setCell_other _ _ _ (by show w.heap.size ≠ b; omega))
  · have hgb : some g ≠ some b := fun e => own_blk_ne hrow HD.out.blk (by decide) (by simpa [Value.ownBlock] using e)
    have hgb' : g ≠ b := fun e => hgb (by rw [e])
    clear hgb
    unfold at0
    go_enter Try.func56, Try.ntmps56
    go_wp2_with (go_at_call 62; refine (Hid.out HC).mono ?_; rintro e w1 ⟨rfl, hdir, hsz, hbl⟩; have HDIR := Lib.hid hdir; clear hdir; have HSZ := Lib.hid hsz; clear hsz; have HB1 := Lib.hid (HD.out.blk.below hbl HD.out.blk.lt); have d1 := HB1.out.cell 1; have d3 := HB1.out.cell 3; have z1 := HB1.out.frozen 1; simp at d1 d3)
    have hblt := HD.out.blk.lt
    go_loopw [21] (fun i wr => ∃ j : Nat, j ≤ n ∧ i = .int .i64 j ∧ dirAt wr w.heap.size (effAll s.old (s.chs.take j)) ∧ (w1.setCell ⟨b, 1, none⟩ (.map (some w.heap.size))).grownBy wr (some w.heap.size))
      (fun i _ => n - (intOf i).toNat)
    case atStart =>
      refine ⟨0, Nat.zero_le _, rfl, ?_, World.grownBy.refl _ _⟩
      exact ownsMap_block HDIR.out (heap_setCell_other _ _ _ (by show w.heap.size ≠ b; omega))
    case round =>
      obtain ⟨j, hj, rfl, hdir, hgr⟩ := hrel
      have hsame : ∀ i, i < w.heap.size → i ≠ b → wr.heap[i]? = w.heap[i]? := fun i hi h => by
        rw [hgr.block i (by rw [size_setCell', HSZ.out]; omega) (by simp; omega), heap_setCell_other _ _ _ h]; exact hbl.block i hi
      have hbr : Blk wr b 70 #[.int .i64 s.room, .map (some w.heap.size), .map (some bo), .slice (some ⟨g, 0, none⟩) s.chs.length cap, .int .i64 s.acts, .int .i64 s.fuse, .bool s.down] := by
        refine Blk.grown (w := w1.setCell ⟨b, 1, none⟩ (.map (some w.heap.size))) ?_ hgr (by simp; omega)
        simpa using HB1.out.set_ 1 (.map (some w.heap.size))
      have r1 := hbr.cell 1
      simp at r1
      have HBR := Lib.hid hbr
      have HS := Lib.hid hsame
      clear hbr hsame
      by_cases hlt : j < n
      · have hjl : j < s.chs.length := by omega
        have hcl : cls.length = s.chs.length := by simpa using hrow.1
        have hcj : s.chs[j]? = some s.chs[j] := List.getElem?_eq_getElem hjl
        have hvj : cls[j]? = some (cls[j]'(by omega)) := List.getElem?_eq_getElem (by omega)
        have hd := HD.out
        have hlen := okAll_len s.chs s.old j hd.wf.okc hd.wf.nold
        obtain ⟨f, cp2, hv, eg, hcall⟩ := eff_any (hd.reps j _ _ hvj hcj) (W := wr) (fun i t cs hb ht => HS.out i hb.lt (hb.ne_ hd.blk ht)) hdir (okAll_at s.chs s.old j _ hd.wf.okc hcj) (by omega)
        have k0 : wr.cell? ⟨g, j, none⟩ = some (.func (.func f) #[] cp2) := by
          have h1 := hrow.cells (g := g) rfl j _ hvj
          have e1 : ((⟨g, 0, none⟩ : Addr).add j) = ⟨g, j, none⟩ := by
            unfold Addr.add
            split
            · rename_i h0; subst h0; rfl
            · simp
          rw [e1] at h1
          rw [World.cell?_of_block (w := w) (HS.out g (hrow.lt g rfl).2 hgb'), h1, hv]
        have HCALL := Lib.hid hcall
        have HST := Lib.hid (effAll_take_succ s.old s.chs j _ hcj)
        have HDIR2 := Lib.hid hdir
        clear hcall hvj hcj hv hd hdir hcl
        go_wp2_with fail
        refine (Hid.out HCALL).mono ?_
        rintro e w2 ⟨rfl, hdir2, hg2⟩
        go_wp2
        go_roundw
        case rel => exact ⟨j + 1, by omega, by go_num, by rw [HST.out]; exact hdir2, hgr.trans hg2⟩
        case measure => simp [intOf]; omega
      · have hjn : j = n := by omega
        subst hjn
        have HDIR2 := Lib.hid hdir
        clear hdir
        go_wp2
        go_end0
        have hd := HD.out
        have hkk : Kept F w wr := ((Kept.below hbl).setCell (.inl hd.fb) _).grown hgr (fun k hk => .inr (by cases hk; exact Nat.le_refl _))
        exact ⟨rfl, replay_end hd j hkk HS.out HBR.out HDIR2.out, hkk⟩
end Go.Proofs.Ytblpppeppgfbpaa
