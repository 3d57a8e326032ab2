/- Sync, Remove, SyncDir, Append as they are called; Fuse, New, Read. -/
import Derived.Test.YtblpppeppgfbpaaOps1
namespace Go.Proofs.Ytblpppeppgfbpaa
open Go.RowKit Go.Maps Go.WideMaps

set_option maxHeartbeats 1000000 in
theorem Sync_any {w : World} {F : Nat → Prop} {b : Nat} {s : St} (hD : Disk w F b s) (ha : s.acts < 1099511627776) (k : ByteArray) (hk : k.size ≤ maxLen) :
    Calls Try.prog 37 #[at0 b, .string k] w (Left w F b (ActEnd s (TSync s k.data.toList))) := by
  have hD' := (hD.alloc (.cells #[at0 b] 27)).alloc (.cells #[.string k] 9)
  have b1 : Blk ((w.alloc (.cells #[at0 b] 27)).alloc (.cells #[.string k] 9)) w.heap.size 27 #[at0 b] := (Blk.new _ _ _).alloc _
  have b2 : Blk ((w.alloc (.cells #[at0 b] 27)).alloc (.cells #[.string k] 9)) (w.heap.size + 1) 9 #[.string k] := by simpa using Blk.new (w.alloc (.cells #[at0 b] 27)) 9 #[.string k]
  have hc := act_any 64 #[at0 w.heap.size, at0 (w.heap.size + 1)] (enters_of Try.func64 (by kernel_rfl) rfl) hD' ha (TSync s k.data.toList) (fun _ _ => sync1_any hD' k hk b2 b1)
  have HC := Lib.hid (hc.mono fun e w' (h : Left _ _ _ _ e w') => h.back two_boxes)
  clear hc b1 b2 hD'
  unfold at0
  go_enter Try.func37, Try.ntmps37
  go_wp2_with (go_at_call 50; refine (Hid.out HC).mono ?_; rintro e w' ⟨n, s', F', rfl, hrest⟩)
  go_ret
  exact ⟨n, s', F', rfl, hrest⟩

set_option maxHeartbeats 1000000 in
theorem Remove_any {w : World} {F : Nat → Prop} {b : Nat} {s : St} (hD : Disk w F b s) (hm : s.mid = false) (ha : s.acts < 1099511627776) (hcs : s.chs.length < 1099511627776) (k : ByteArray) (hk : k.size ≤ maxLen) (hk0 : (dget s.now k.data.toList).isSome = true → k.size ≤ 281474976710656) :
    Calls Try.prog 39 #[at0 b, .string k] w (Left w F b (ActEnd s (TRemove s k.data.toList))) := by
  have hD' := (hD.alloc (.cells #[at0 b] 27)).alloc (.cells #[.string k] 9)
  have b1 : Blk ((w.alloc (.cells #[at0 b] 27)).alloc (.cells #[.string k] 9)) w.heap.size 27 #[at0 b] := (Blk.new _ _ _).alloc _
  have b2 : Blk ((w.alloc (.cells #[at0 b] 27)).alloc (.cells #[.string k] 9)) (w.heap.size + 1) 9 #[.string k] := by simpa using Blk.new (w.alloc (.cells #[at0 b] 27)) 9 #[.string k]
  have hc := act_any 67 #[at0 w.heap.size, at0 (w.heap.size + 1)] (enters_of Try.func67 (by kernel_rfl) rfl) hD' ha (TRemove s k.data.toList) (fun _ _ => remove1_any hD' hm hcs k hk hk0 b2 b1)
  have HC := Lib.hid (hc.mono fun e w' (h : Left _ _ _ _ e w') => h.back two_boxes)
  clear hc b1 b2 hD'
  unfold at0
  go_enter Try.func39, Try.ntmps39
  go_wp2_with (go_at_call 50; refine (Hid.out HC).mono ?_; rintro e w' ⟨n, s', F', rfl, hrest⟩)
  go_ret
  exact ⟨n, s', F', rfl, hrest⟩

set_option maxHeartbeats 1000000 in
theorem SyncDir_any {w : World} {F : Nat → Prop} {b : Nat} {s : St} (hD : Disk w F b s) (ha : s.acts < 1099511627776) :
    Calls Try.prog 25 #[at0 b] w (Left w F b (ActEnd s (TSyncDir s))) := by
  have hD' := hD.alloc (.cells #[at0 b] 27)
  have b1 : Blk (w.alloc (.cells #[at0 b] 27)) w.heap.size 27 #[at0 b] := Blk.new _ _ _
  have hc := act_any 54 #[at0 w.heap.size] (enters_of Try.func54 (by kernel_rfl) rfl) hD' ha (TSyncDir s) (fun _ _ => syncDir1_any hD' b1)
  have HC := Lib.hid (hc.mono fun e w' (h : Left _ _ _ _ e w') => h.back ((Kept.refl F w).alloc _))
  clear hc b1 hD'
  unfold at0
  go_enter Try.func25, Try.ntmps25
  go_wp2_with (go_at_call 50; refine (Hid.out HC).mono ?_; rintro e w' ⟨n, s', F', rfl, hrest⟩)
  go_ret
  exact ⟨n, s', F', rfl, hrest⟩

set_option maxHeartbeats 1000000 in
theorem Append_any {w : World} {F : Nat → Prop} {b : Nat} {s : St} (hD : Disk w F b s) (ha : s.acts < 1099511627776) (k : ByteArray) (hk : k.size ≤ maxLen) (A : Option Addr) (n c : Nat) (bs : Nm) (hsrc : Src w A n (bs.map byteV)) (hn : n ≤ 140737488355328) (hA : ∀ ad, A = some ad → 0 < n → ad.block < w.heap.size ∧ ¬ F ad.block) :
    Calls Try.prog 26 #[at0 b, .string k, .slice A n c] w (Left w F b (ActEnd s (TAppend s k.data.toList bs))) := by
  have hD' := ((hD.alloc (.cells #[at0 b] 27)).alloc (.cells #[.string k] 9)).alloc (.cells #[.slice A n c] 33)
  have b1 : Blk (((w.alloc (.cells #[at0 b] 27)).alloc (.cells #[.string k] 9)).alloc (.cells #[.slice A n c] 33)) w.heap.size 27 #[at0 b] := ((Blk.new _ _ _).alloc _).alloc _
  have b2 : Blk (((w.alloc (.cells #[at0 b] 27)).alloc (.cells #[.string k] 9)).alloc (.cells #[.slice A n c] 33)) (w.heap.size + 1) 9 #[.string k] := by simpa using (Blk.new (w.alloc (.cells #[at0 b] 27)) 9 #[.string k]).alloc (.cells #[.slice A n c] 33)
  have b3 : Blk (((w.alloc (.cells #[at0 b] 27)).alloc (.cells #[.string k] 9)).alloc (.cells #[.slice A n c] 33)) (w.heap.size + 1 + 1) 33 #[.slice A n c] := by simpa using Blk.new ((w.alloc (.cells #[at0 b] 27)).alloc (.cells #[.string k] 9)) 33 #[.slice A n c]
  have hs' : Src (((w.alloc (.cells #[at0 b] 27)).alloc (.cells #[.string k] 9)).alloc (.cells #[.slice A n c] 33)) A n (bs.map byteV) := hsrc.keep fun ad e h0 => by
    have := (hA ad e h0).1
    rw [Below.heap_alloc _ _ _ (by simp; omega), Below.heap_alloc _ _ _ (by simp; omega), Below.heap_alloc _ _ _ this]
  have hc := act_any 55 #[at0 w.heap.size, at0 (w.heap.size + 1), at0 (w.heap.size + 1 + 1)] (enters_of Try.func55 (by kernel_rfl) rfl) hD' ha (TAppend s k.data.toList bs) (fun _ _ => append1_any hD' k hk A n c bs hs' hn (fun ad e h0 => ⟨by have := (hA ad e h0).1; simp; omega, (hA ad e h0).2⟩) b2 b1 b3)
  have HC := Lib.hid (hc.mono fun e w' (h : Left _ _ _ _ e w') => h.back (two_boxes.alloc _))
  clear hc b1 b2 b3 hD' hs'
  unfold at0
  go_enter Try.func26, Try.ntmps26
  go_wp2_with (go_at_call 50; refine (Hid.out HC).mono ?_; rintro e w' ⟨n, s', F', rfl, hrest⟩)
  go_ret
  exact ⟨n, s', F', rfl, hrest⟩

set_option maxHeartbeats 1000000 in
theorem Fuse_any {w : World} {F : Nat → Prop} {b : Nat} {s : St} (hD : Disk w F b s) (n : Int) (hn : n ≤ 9223372036854775807) :
    Calls Try.prog 40 #[at0 b, .int .i64 n] w fun e w' => e = .returned (.tuple #[]) ∧ Disk w' F b { s with fuse := max n (-1) } ∧ Kept F w w' := by
  obtain ⟨bn, bo, cv, cls, fv, hd⟩ := hD
  have hb := hd.blk
  have c5 := hb.cell 5
  have z5 := hb.frozen 5
  simp at c5
  have HD := Lib.hid hd
  clear hd hb
  unfold at0
  go_enter Try.func40, Try.ntmps40
  go_wp2
  go_end0
  have hd := HD.out
  have h1 := hd.atB (w' := w.setCell ⟨b, 5, none⟩ (.int .i64 (max n (-1)))) (a := s.acts) (f := max n (-1)) (d := s.down) (fun i hi => heap_setCell_other _ _ _ hi) (by rw [size_setCell']; exact Nat.le_refl _)
    (by simpa using hd.blk.set_ 5 (.int .i64 (max n (-1)))) (by omega) (by omega)
  exact ⟨rfl, ⟨bn, bo, cv, cls, fv, h1⟩, (Kept.refl F w).setCell (.inl hd.fb) _⟩

/-- A disk without files. -/
def St.new (room : Nat) : St := { room := room, now := [], old := [], chs := [], acts := 0, fuse := -1, down := false, ids := [], dat := fun _ => [], syn := fun _ => 0 }

set_option maxHeartbeats 1000000 in
theorem New_any (w : World) (n : Int) (hn : n ≤ 9223372036854775807) :
    Calls Try.prog 23 #[.int .i64 n] w fun e w' => e = .returned (at0 (w.heap.size + 2)) ∧ Disk w' (fun i => w.heap.size ≤ i ∧ i < w.heap.size + 3) (w.heap.size + 2) (St.new n.toNat) ∧ Below w.heap.size w w' := by
  have hmm := @run_makeMap Try.prog
  unfold at0
  go_enter Try.func23, Try.ntmps23
  go_wp2
  go_ret
  have hsz : (((w.alloc (.map #[] 0)).alloc (.map #[] 0)).alloc (.cells #[.int .i64 (max n 0), .map (some w.heap.size), .map (some (w.heap.size + 1)), .slice none 0 0, .int .i64 0, .int .i64 (-1), .bool false] 70)).heap.size = w.heap.size + 3 := by simp
  refine ⟨rfl, ⟨w.heap.size, w.heap.size + 1, .slice none 0 0, [], fun _ => .slice none 0 0, ?_⟩, (((Below.refl _ w).alloc (Nat.le_refl _) _).alloc (by simp) _).alloc (by simp; omega) _⟩
  have m1 : dirAt (((w.alloc (.map #[] 0)).alloc (.map #[] 0)).alloc (.cells #[.int .i64 (max n 0), .map (some w.heap.size), .map (some (w.heap.size + 1)), .slice none 0 0, .int .i64 0, .int .i64 (-1), .bool false] 70)) w.heap.size [] := by
    have h := (World.ownsMap_made w Try.prog 9 ptrElem).mono (n' := 300) (by omega)
    exact (h.alloc _).alloc _
  have m2 : dirAt (((w.alloc (.map #[] 0)).alloc (.map #[] 0)).alloc (.cells #[.int .i64 (max n 0), .map (some w.heap.size), .map (some (w.heap.size + 1)), .slice none 0 0, .int .i64 0, .int .i64 (-1), .bool false] 70)) (w.heap.size + 1) [] := by
    have h := (World.ownsMap_made (w.alloc (.map #[] 0)) Try.prog 9 ptrElem).mono (n' := 300) (by omega)
    have h2 := h.alloc (.cells #[.int .i64 (max n 0), .map (some w.heap.size), .map (some (w.heap.size + 1)), .slice none 0 0, .int .i64 0, .int .i64 (-1), .bool false] 70)
    have e : (w.alloc (.map #[] 0)).heap.size = w.heap.size + 1 := by simp
    rw [e] at h2
    exact h2
  exact {
    wf := ⟨by simp [St.new], by simp [St.new], by simp [St.new], by simp [St.new], by simp [St.new], by simp [St.new], trivial, fun _ => rfl, by simp [St.new]; omega, by simp [St.new], by simp [St.new]⟩
    blk := by
      have h := Blk.new ((w.alloc (.map #[] 0)).alloc (.map #[] 0)) 70 #[.int .i64 (max n 0), .map (some w.heap.size), .map (some (w.heap.size + 1)), .slice none 0 0, .int .i64 0, .int .i64 (-1), .bool false]
      have e : ((n.toNat : Nat) : Int) = max n 0 := by omega
      simp only [St.new, e]
      simpa using h
    now := m1
    old := m2
    nob := by omega
    row := World.ownsRow_nil _ _ _ _
    reps := fun j v c h1 _ => by simp at h1
    files := fun i hi => by simp [St.new] at hi
    apart := fun i hi => by simp [St.new] at hi
    fb := ⟨by omega, by omega⟩
    fn := ⟨by omega, by omega⟩
    fo := ⟨by omega, by omega⟩
    fc := fun g hg => by simp [Value.ownBlock] at hg
    fi := fun i hi => by simp [St.new] at hi
    fd := fun i hi => by simp [St.new] at hi
    lt := fun i hi => by rw [hsz]; exact hi.2 }

/-- What Read answers. -/
def readOf (s : St) (k : Nm) : Nm × Int :=
  if s.down then ([], 14) else match dget s.now k with
    | none => ([], 12)
    | some i => (s.dat i, 0)

/-- bytes.Clone of a file's bytes. -/
theorem cloneFile_any {w : World} {i : Nat} {v : Value} {d : Nm} {n : Nat} (h : fileAt w i v d n) (hl : d.length ≤ 262144) :
    Calls Try.prog 30 #[v] w fun e w' => ∃ v', e = .returned v' ∧ w'.ownsRow w.heap.size 5 1 v' d.length (d.map byteV) ∧ Below w.heap.size w w' := by
  rcases h.2.2 with ⟨rfl, h0⟩ | ⟨g, cap, cur, rfl, _⟩
  · refine (bytesClone_nil _ _ w).mono fun e w' ⟨he, hw⟩ => ⟨_, he, ?_, by rw [← hw]; exact Below.refl _ _⟩
    have hd : d = [] := List.eq_nil_of_length_eq_zero h0
    subst hd
    exact World.ownsRow_nil _ _ _ _
  · exact bytesClone_at ⟨g, 0, none⟩ d.length cap (d.map byteV) w (by simp) (by omega) (u8_one d) (h.2.cells rfl)

set_option maxHeartbeats 1000000 in
set_option maxRecDepth 100000 in
theorem Read_any {w : World} {F : Nat → Prop} {b : Nat} {s : St} (hD : Disk w F b s) (k : ByteArray) (hk : k.size ≤ maxLen) :
    Calls Try.prog 11 #[at0 b, .string k] w fun e w' => ∃ v, e = .returned (.tuple #[v, .int .i64 (readOf s k.data.toList).2]) ∧ w'.ownsRow w.heap.size 5 1 v (readOf s k.data.toList).1.length ((readOf s k.data.toList).1.map byteV) ∧ Below w.heap.size w w' := by
  obtain ⟨bn, bo, cv, cls, fv, hd⟩ := hD
  have c1 := hd.blk.cell 1
  have c6 := hd.blk.cell 6
  simp at c1 c6
  have hlk := look_ok hd.now hk
  have HI := Lib.hid hd
  clear hd
  unfold at0
  by_cases hdn : s.down = true
  · rw [hdn] at c6
    have hr : readOf s k.data.toList = ([], 14) := by simp [readOf, hdn]
    have HR := Lib.hid hr
    clear hr hdn
    go_enter Try.func11, Try.ntmps11
    go_wp2
    go_ret2
    rw [HR.out]
    exact ⟨_, rfl, World.ownsRow_nil _ _ _ _, Below.refl _ _⟩
  have hdn' : s.down = false := by simpa using hdn
  rw [hdn'] at c6
  clear hdn
  cases hg : dget s.now k.data.toList with
  | none =>
    rw [hg] at hlk
    simp only [ptrOf, Option.isSome_none] at hlk
    have hr : readOf s k.data.toList = ([], 12) := by simp [readOf, hdn', hg]
    have HR := Lib.hid hr
    clear hr hdn' hg
    go_enter Try.func11, Try.ntmps11
    go_wp2
    go_ret2
    rw [HR.out]
    exact ⟨_, rfl, World.ownsRow_nil _ _ _ _, Below.refl _ _⟩
  | some i =>
    rw [hg] at hlk
    simp only [ptrOf, Option.isSome_some, at0] at hlk
    have hr : readOf s k.data.toList = (s.dat i, 0) := by simp [readOf, hdn', hg]
    have hi : i ∈ s.ids := HI.out.wf.now_id _ (dget_mem hg)
    have hf := HI.out.files i hi
    have hc := cloneFile_any hf (HI.out.wf.fit i hi).2
    have f0 := hf.1.cell 0
    simp at f0
    have HC := Lib.hid hc
    have HR := Lib.hid hr
    clear hr hdn' hg hc hf
    go_enter Try.func11, Try.ntmps11
    go_wp2_with (go_at_call 30; refine (Hid.out HC).mono ?_; rintro e w' ⟨v', rfl, hrow, hb⟩)
    go_ret2
    rw [HR.out]
    exact ⟨_, rfl, hrow, hb⟩
end Go.Proofs.Ytblpppeppgfbpaa
