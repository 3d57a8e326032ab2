/- Create. -/
import Derived.Test.YtblpppeppgfbpaaChange
namespace Go.Proofs.Ytblpppeppgfbpaa
open Go.RowKit Go.Maps Go.WideMaps

def upd {α : Type} (f : Nat → α) (i : Nat) (v : α) : Nat → α := fun j => if j = i then v else f j
theorem upd_same {α : Type} (f : Nat → α) (i : Nat) (v : α) : upd f i v i = v := by simp [upd]
theorem upd_other {α : Type} (f : Nat → α) {i j : Nat} (v : α) (h : j ≠ i) : upd f i v j = f j := by simp [upd, h]

theorem calls_at {P : Program} {f : FuncId} {args : Array Value} {w : World} {Q : Ending → World → Prop} (h : ∀ W, W = w → Calls P f args W Q) : Calls P f args w Q := h w rfl

/-- A new file, of no bytes. -/
def St.addFile (s : St) (i : Nat) : St := { s with ids := i :: s.ids, dat := upd s.dat i [], syn := upd s.syn i 0 }
theorem IsDisk.addFile {w : World} {F : Nat → Prop} {b : Nat} {s : St} {bn bo : Nat} {cv : Value} {cls : List Value} {fv : Nat → Value} (h : IsDisk w F b s bn bo cv cls fv) {i : Nat} (hi : i ∉ s.ids) (hF : F i)
    (hf : Blk w i 65 #[.slice none 0 0, .int .i64 0]) : IsDisk w F b (s.addFile i) bn bo cv cls (upd fv i (.slice none 0 0)) where
  wf := ⟨fun p hp => List.mem_cons_of_mem _ (h.wf.now_id p hp), fun p hp => List.mem_cons_of_mem _ (h.wf.old_id p hp), fun c hc => by
      have := h.wf.chs_id c hc
      cases c with
      | create k j => exact List.mem_cons_of_mem _ this
      | rename a b => trivial
      | remove k => trivial, fun j hj => by
      rcases List.mem_cons.1 hj with e | e
      · subst e; simp [St.addFile, upd_same]
      · have hne : j ≠ i := fun e2 => hi (e2 ▸ e)
        simpa [St.addFile, upd_other _ _ hne] using h.wf.fit j e, h.wf.nnow, h.wf.nold, h.wf.okc, h.wf.eff, h.wf.room, h.wf.fuse1, h.wf.fuse2⟩
  blk := h.blk
  now := h.now
  old := h.old
  nob := h.nob
  row := h.row
  reps := h.reps
  files := fun j hj => by
    rcases List.mem_cons.1 hj with e | e
    · subst e
      simp only [St.addFile, upd_same]
      exact ⟨hf, World.ownsRow_nil _ _ _ _⟩
    · have hne : j ≠ i := fun e2 => hi (e2 ▸ e)
      simpa [St.addFile, upd_other _ _ hne] using h.files j e
  apart := fun j hj k hk hjk g hg => by
    by_cases e1 : j = i
    · subst e1; simp [upd_same, Value.ownBlock] at hg
    · by_cases e2 : k = i
      · subst e2; simp [upd_same, Value.ownBlock]
      · rw [upd_other _ _ e1] at hg
        rw [upd_other _ _ e2]
        exact h.apart j ((List.mem_cons.1 hj).resolve_left e1) k ((List.mem_cons.1 hk).resolve_left e2) hjk g hg
  fb := h.fb
  fn := h.fn
  fo := h.fo
  fc := h.fc
  fi := fun j hj => by
    rcases List.mem_cons.1 hj with e | e
    · subst e; exact hF
    · exact h.fi j e
  fd := fun j hj g hg => by
    by_cases e1 : j = i
    · subst e1; simp [upd_same, Value.ownBlock] at hg
    · rw [upd_other _ _ e1] at hg
      exact h.fd j ((List.mem_cons.1 hj).resolve_left e1) g hg
  lt := h.lt

theorem ok_size {k : ByteArray} (h : okName k.data.toList = true) : k.size ≤ 281474976710656 := by
  have hsz : k.data.toList.length = k.size := by simp
  simp only [okName, Bool.and_eq_true, decide_eq_true_eq] at h
  omega

/-- What Create's own part comes to. -/
def TCreate (s : St) (k : Nm) (n : Int) (s' : St) : Prop :=
  (okName k = false ∧ n = 1 ∧ s' = s) ∨
  (okName k = true ∧ (dget s.now k).isSome = true ∧ n = 13 ∧ s' = s) ∨
  (okName k = true ∧ dget s.now k = none ∧ 64 ≤ s.now.length ∧ n = 2 ∧ s' = s) ∨
  (okName k = true ∧ dget s.now k = none ∧ s.now.length < 64 ∧ n = 0 ∧ ∃ i, i ∉ s.ids ∧ s' = { (s.addFile i) with now := dput s.now k i, chs := s.chs ++ [.create k i] })

set_option maxHeartbeats 2000000 in
set_option maxRecDepth 100000 in
theorem create1_any {w : World} {F : Nat → Prop} {b : Nat} {s : St} (hD : Disk w F b s) (hm : s.mid = false) (hcs : s.chs.length < 1099511627776) (k : ByteArray) (hkm : k.size ≤ maxLen) {bk bd : Nat} (h1 : Blk w bk 9 #[.string k]) (h2 : Blk w bd 27 #[at0 b]) :
    Calls Try.prog 51 #[at0 bk, at0 bd] w (Left w F b fun n s' => TCreate s k.data.toList n s' ∧ s'.acts = s.acts ∧ s'.fuse = s.fuse ∧ s'.down = s.down) := by
  have ck := h1.cell 0
  have cd := h2.cell 0
  simp [at0] at ck cd
  have hstay : ∀ n : Int, (∀ s', s' = s → TCreate s k.data.toList n s') → Left w F b (fun n s' => TCreate s k.data.toList n s' ∧ s'.acts = s.acts ∧ s'.fuse = s.fuse ∧ s'.down = s.down) (.returned (.int .i64 n)) w :=
    fun n hT => ⟨n, s, F, rfl, ⟨hT s rfl, rfl, rfl, rfl⟩, hD, Kept.refl F w, fun _ hi => .inl hi⟩
  have HS := Lib.hid hstay; clear hstay
  have hhas := has_any hD k hkm
  have HH := Lib.hid hhas; clear hhas
  have HD := Lib.hid hD
  obtain ⟨bn, bo, cv, cls, fv, hd⟩ := hD
  have hlen := hd.now.len (t := 67) Try.underlying67 3
  rw [toD_size] at hlen
  have c1 := hd.blk.cell 1
  simp at c1
  have HI := Lib.hid hd
  clear hd
  unfold at0
  cases hok : okName k.data.toList
  · have HOK := Lib.hid hok; clear hok
    go_enter Try.func51, Try.ntmps51
    go_wp2_with (go_at_call 28; refine (validName_any _ _ hkm).mono ?_; rintro e w' ⟨rfl, rfl⟩; rw [HOK.out])
    go_ret
    exact HS.out 1 (fun s' e => .inl ⟨HOK.out, rfl, e⟩)
  have hk := ok_size hok
  have HOK := Lib.hid hok; clear hok
  cases hg : dget s.now k.data.toList with
  | some i =>
    have HG := Lib.hid hg; clear hg
    go_enter Try.func51, Try.ntmps51
    go_wp2_with (first | (go_at_call 28; refine (validName_any _ _ hkm).mono ?_; rintro e w' ⟨rfl, rfl⟩; rw [HOK.out]) | (go_at_call 29; refine (Hid.out HH).mono ?_; rintro e w' ⟨rfl, rfl⟩; rw [HG.out]))
    go_ret
    exact HS.out 13 (fun s' e => .inr (.inl ⟨HOK.out, by rw [HG.out]; rfl, rfl, e⟩))
  | none =>
    have HG := Lib.hid hg; clear hg
    by_cases h64 : 64 ≤ s.now.length
    · go_enter Try.func51, Try.ntmps51
      go_wp2_with (first | (go_at_call 28; refine (validName_any _ _ hkm).mono ?_; rintro e w' ⟨rfl, rfl⟩; rw [HOK.out]) | (go_at_call 29; refine (Hid.out HH).mono ?_; rintro e w' ⟨rfl, rfl⟩; rw [HG.out]))
      go_ret
      exact HS.out 2 (fun s' e => .inr (.inr (.inl ⟨HOK.out, HG.out, h64, rfl, e⟩)))
    · go_enter Try.func51, Try.ntmps51
      go_wp2_with (first | (go_at_call 28; refine (validName_any _ _ hkm).mono ?_; rintro e w' ⟨rfl, rfl⟩; rw [HOK.out]) | (go_at_call 29; refine (Hid.out HH).mono ?_; rintro e w' ⟨rfl, rfl⟩; rw [HG.out]) | (go_at_call 31; refine (ownName_any _ _ hk).mono ?_; rintro e w1 ⟨rfl, hb⟩; have hsz := hb.size; have hbd : bd < w1.heap.size := Nat.lt_of_lt_of_le h2.lt hsz; have e2 : ∀ o1 o2 o3, (((w1.alloc o1).alloc o2).alloc o3).cell? ⟨bd, 0, none⟩ = some (.pointer (some ⟨b, 0, none⟩)) := (fun o1 o2 o3 => (((((h2.below hb h2.lt).alloc o1).alloc o2).alloc o3).cell 0).trans (by simp [at0])); clear cd))
      refine calls_at ?_
      intro W hW
      have hWk : Kept F w W := by rw [hW]; exact (((Kept.below hb).alloc _).alloc _).alloc _
      have hWs : w1.heap.size + 3 ≤ W.heap.size := by rw [hW]; simp
      have hb1 : Blk W w1.heap.size 65 #[.slice none 0 0, .int .i64 0] := by rw [hW]; exact ((Blk.new _ _ _).alloc _).alloc _
      have hb2 : Blk W (w1.heap.size + 1) 9 #[.string k] := by
        rw [hW]; have := (Blk.new (w1.alloc (.cells #[.slice none 0 0, .int .i64 0] 65)) 9 #[.string k]).alloc (.cells #[at0 w1.heap.size] 62); simpa [at0] using this
      have hb3 : Blk W (w1.heap.size + 1 + 1) 62 #[at0 w1.heap.size] := by
        rw [hW]; have := Blk.new ((w1.alloc (.cells #[.slice none 0 0, .int .i64 0] 65)).alloc (.cells #[.string k] 9)) 62 #[at0 w1.heap.size]; simpa [at0] using this
      have hd := HI.out
      have hWb : ∀ j, F j → W.heap[j]? = w.heap[j]? := fun j hj => by
        have hj' := hd.lt j hj
        rw [hW, Below.heap_alloc _ _ _ (by simp; omega), Below.heap_alloc _ _ _ (by simp; omega), Below.heap_alloc _ _ _ (by omega), hb.block j hj']
      clear hW
      have hd1 := (hd.frame hWb hWk.size).more (F' := Own F w W) (fun j hj => .inl hj) (fun j hj => by
        rcases hj with h | h
        · have := hd.lt j h; have := hWk.size; omega
        · exact h.2)
      have hi : w1.heap.size ∉ s.ids := fun h => by have := hd.lt _ (hd.fi _ h); omega
      have hd2 := hd1.addFile hi (.inr ⟨hsz, by omega⟩) hb1
      have hkl : k.data.toList.length ≤ 281474976710656 := by simpa using hk
      have hes : encStr k.data.toList = .string k := by simp [encStr]
      have hch := change_any 53 #[at0 (w1.heap.size + 1 + 1), at0 (w1.heap.size + 1)] (enters_of Try.func53 (by kernel_rfl) rfl) hd2 hm (.create k.data.toList w1.heap.size) hcs (by have := length_dput s.now k.data.toList w1.heap.size; show (dput s.now _ _).length ≤ 64; omega) (List.mem_cons_self) (by have := length_dput s.now k.data.toList w1.heap.size; show (dput s.now _ _).length ≤ 64; omega)
        (fun p hp => by
          rcases mem_dput.1 hp with e | e
          · rw [e]; exact List.mem_cons_self
          · exact List.mem_cons_of_mem _ (hd.wf.now_id p e.1))
        ⟨_, _, rfl, hb3, by rw [hes]; exact hb2, .inr ⟨by omega, by omega⟩, .inr ⟨by omega, by omega⟩, hkl⟩
        (create_eff hd2.now (by show s.now.length ≤ 200; omega) hb3 (by rw [hes]; exact hb2) hkl)
      refine hch.mono ?_
      rintro e w2 ⟨rfl, hD2, hk2⟩
      go_wp2
      go_ret
      refine ⟨0, _, _, rfl, ⟨.inr (.inr (.inr ⟨HOK.out, HG.out, by omega, rfl, w1.heap.size, hi, rfl⟩)), rfl, rfl, rfl⟩, hD2, hWk.trans hk2 ?_, ?_⟩
      · intro i hi' h
        rcases h with h | h
        · exact h
        · omega
      · intro i h
        rcases h with (h | h) | h
        · exact .inl h
        · exact .inr h.1
        · have := hWk.size; exact .inr (by omega)
end Go.Proofs.Ytblpppeppgfbpaa
