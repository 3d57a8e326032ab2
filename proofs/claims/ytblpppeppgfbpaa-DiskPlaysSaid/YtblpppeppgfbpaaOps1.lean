/- Remove's own part; Create, Append, Sync, Remove, SyncDir as they are called; Fuse, New, Read. -/
import Derived.Test.YtblpppeppgfbpaaSrc
namespace Go.Proofs.Ytblpppeppgfbpaa
open Go.RowKit Go.Maps Go.WideMaps

def TRemove (s : St) (k : Nm) (n : Int) (s' : St) : Prop :=
  (dget s.now k = none ∧ n = 12 ∧ s' = s) ∨ ((dget s.now k).isSome = true ∧ n = 0 ∧ s' = { s with now := ddel s.now k, chs := s.chs ++ [.remove k] })

set_option maxHeartbeats 2000000 in
set_option maxRecDepth 100000 in
theorem remove1_any {w : World} {F : Nat → Prop} {b : Nat} {s : St} (hD : Disk w F b s) (hm : s.mid = false) (hcs : s.chs.length < 1099511627776) (k : ByteArray) (hkm : k.size ≤ maxLen) (hk0 : (dget s.now k.data.toList).isSome = true → k.size ≤ 281474976710656) {bk bd : Nat} (h1 : Blk w bk 9 #[.string k]) (h2 : Blk w bd 27 #[at0 b]) :
    Calls Try.prog 67 #[at0 bd, at0 bk] w (Left w F b fun n s' => TRemove s k.data.toList n s' ∧ s'.acts = s.acts ∧ s'.fuse = s.fuse ∧ s'.down = s.down) := by
  have ck := h1.cell 0
  have cd := h2.cell 0
  simp [at0] at ck cd
  have hhas := has_any hD k hkm
  have HH := Lib.hid hhas; clear hhas
  have HD := Lib.hid hD
  obtain ⟨bn, bo, cv, cls, fv, hd⟩ := hD
  have HI := Lib.hid hd
  clear hd
  unfold at0
  cases hg : dget s.now k.data.toList with
  | none =>
    have HG := Lib.hid hg; clear hg
    go_enter Try.func67, Try.ntmps67
    go_wp2_with (go_at_call 29; refine (Hid.out HH).mono ?_; rintro e w' ⟨rfl, rfl⟩; rw [HG.out])
    go_ret
    exact ⟨12, s, F, rfl, ⟨.inl ⟨HG.out, rfl, rfl⟩, rfl, rfl, rfl⟩, HD.out, Kept.refl F w, fun _ hi => .inl hi⟩
  | some i =>
    have hk := hk0 (by rw [hg]; rfl)
    clear hk0
    have HG := Lib.hid hg; clear hg
    go_enter Try.func67, Try.ntmps67
    go_wp2_with (first | (go_at_call 29; refine (Hid.out HH).mono ?_; rintro e w' ⟨rfl, rfl⟩; rw [HG.out]) | (go_at_call 31; refine (ownName_any _ _ hk).mono ?_; rintro e w1 ⟨rfl, hb⟩; have hsz := hb.size; have hbd : bd < w1.heap.size := Nat.lt_of_lt_of_le h2.lt hsz; have e2 : ∀ o1, (w1.alloc o1).cell? ⟨bd, 0, none⟩ = some (.pointer (some ⟨b, 0, none⟩)) := (fun o1 => (((h2.below hb h2.lt).alloc o1).cell 0).trans (by simp [at0])); clear cd))
    refine calls_at ?_
    intro W hW
    have hWk : Kept F w W := by rw [hW]; exact (Kept.below hb).alloc _
    have hWs : w1.heap.size + 1 ≤ W.heap.size := by rw [hW]; simp
    have hb1 : Blk W w1.heap.size 9 #[.string k] := by rw [hW]; exact Blk.new _ _ _
    have hd := HI.out
    have hWb : ∀ j, F j → W.heap[j]? = w.heap[j]? := fun j hj => by
      have hj' := hd.lt j hj
      rw [hW, Below.heap_alloc _ _ _ (by omega), hb.block j hj']
    clear hW
    have hd1 := (hd.frame hWb hWk.size).more (F' := Own F w W) (fun j hj => .inl hj) (fun j hj => by
      rcases hj with h | h
      · have := hd.lt j h; have := hWk.size; omega
      · exact h.2)
    have hkl : k.data.toList.length ≤ 281474976710656 := by simpa using hk
    have hes : encStr k.data.toList = .string k := by simp [encStr]
    have hln := length_ddel s.now k.data.toList
    have hn64 := hd.wf.nnow
    have hch := change_any 68 #[at0 w1.heap.size] (enters_of Try.func68 (by kernel_rfl) rfl) hd1 hm (.remove k.data.toList) hcs (by show (ddel s.now _).length ≤ 64; omega) trivial (by show (ddel s.now _).length ≤ 64; omega)
      (fun p hp => hd.wf.now_id p (mem_ddel.1 hp).1)
      ⟨_, rfl, by rw [hes]; exact hb1, .inr ⟨by omega, by omega⟩, hkl⟩
      (remove_eff hd1.now (by omega) (by rw [hes]; exact hb1) hkl)
    refine hch.mono ?_
    rintro e w2 ⟨rfl, hD2, hk2⟩
    go_wp2
    go_ret
    refine ⟨0, _, _, rfl, ⟨.inr ⟨by rw [HG.out]; rfl, rfl, rfl⟩, rfl, rfl, rfl⟩, hD2, hWk.trans hk2 ?_, ?_⟩
    · intro i hi' h
      rcases h with h | h
      · exact h
      · omega
    · intro i h
      rcases h with (h | h) | h
      · exact .inl h
      · exact .inr h.1
      · have := hWk.size; exact .inr (by omega)

theorem two_boxes {w : World} {o1 o2 : Obj} {F : Nat → Prop} : Kept F w ((w.alloc o1).alloc o2) := ((Kept.refl F w).alloc _).alloc _

set_option maxHeartbeats 1000000 in
theorem Create_any {w : World} {F : Nat → Prop} {b : Nat} {s : St} (hD : Disk w F b s) (hm : s.mid = false) (ha : s.acts < 1099511627776) (hcs : s.chs.length < 1099511627776) (k : ByteArray) (hk : k.size ≤ maxLen) :
    Calls Try.prog 24 #[at0 b, .string k] w (Left w F b (ActEnd s (TCreate s k.data.toList))) := by
  have hD' := (hD.alloc (.cells #[at0 b] 27)).alloc (.cells #[.string k] 9)
  have b1 : Blk ((w.alloc (.cells #[at0 b] 27)).alloc (.cells #[.string k] 9)) w.heap.size 27 #[at0 b] := (Blk.new _ _ _).alloc _
  have b2 : Blk ((w.alloc (.cells #[at0 b] 27)).alloc (.cells #[.string k] 9)) (w.heap.size + 1) 9 #[.string k] := by simpa using Blk.new (w.alloc (.cells #[at0 b] 27)) 9 #[.string k]
  have hc := act_any 51 #[at0 (w.heap.size + 1), at0 w.heap.size] (enters_of Try.func51 (by kernel_rfl) rfl) hD' ha (TCreate s k.data.toList) (fun _ _ => create1_any hD' hm hcs k hk b2 b1)
  have HC := Lib.hid (hc.mono fun e w' (h : Left _ _ _ _ e w') => h.back two_boxes)
  clear hc b1 b2 hD'
  unfold at0
  go_enter Try.func24, Try.ntmps24
  go_wp2_with (go_at_call 50; refine (Hid.out HC).mono ?_; rintro e w' ⟨n, s', F', rfl, hrest⟩)
  go_ret
  exact ⟨n, s', F', rfl, hrest⟩
end Go.Proofs.Ytblpppeppgfbpaa
