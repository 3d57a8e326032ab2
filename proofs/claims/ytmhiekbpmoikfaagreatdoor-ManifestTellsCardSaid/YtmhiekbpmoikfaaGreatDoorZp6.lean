/- Rename: its own part, and as it is called. Rename as it is called. -/
import Derived.Test.YtmhiekbpmoikfaaGreatDoorZp5
namespace Go.Proofs.YtmhiekbpmoikfaaGreatDoor
open Go.RowKit Go.Maps Go.WideMaps

def TRename (s : St) (x y : Nm) (n : Int) (s' : St) : Prop :=
  (okName y = false ∧ n = 1 ∧ s' = s) ∨
  (okName y = true ∧ dget s.now x = none ∧ n = 12 ∧ s' = s) ∨
  (okName y = true ∧ (dget s.now x).isSome = true ∧ x = y ∧ n = 0 ∧ s' = s) ∨
  (okName y = true ∧ x ≠ y ∧ n = 0 ∧ ∃ i, dget s.now x = some i ∧ s' = { s with now := ddel (dput s.now y i) x, chs := s.chs ++ [.rename x y] })

theorem ddel_less {d : Dir} {p : Nm × Nat} (h : p ∈ d) : (ddel d p.1).length < d.length := by
  refine List.length_filter_lt_length_iff_exists.2 ⟨p, h, ?_⟩
  simp
section
variable {w U V w' : World}
theorem fr_alloc (h : Below w.heap.size w U) (o : Obj) : Below w.heap.size w (U.alloc o) := h.alloc h.size o
theorem fr_then (h : Below w.heap.size w U) (hb : Below U.heap.size U w') : Below w.heap.size w w' := h.trans (hb.mono h.size)
theorem fr_set (h : Below w.heap.size w U) (h2 : Below w.heap.size w V) (u : Value) : Below w.heap.size w (V.setCell ⟨U.heap.size, 0, none⟩ u) := h2.setCell h.size u
theorem fr_set1 (h : Below w.heap.size w U) (h2 : Below w.heap.size w V) (u : Value) : Below w.heap.size w (V.setCell ⟨U.heap.size + 1, 0, none⟩ u) := h2.setCell (Nat.le_trans h.size (Nat.le_succ _)) u
theorem undrew (h : Below U.drew.heap.size U.drew w') : Below U.heap.size U w' := ⟨h.os, h.tape, h.output, h.size, h.block⟩
/-- A string's new box. -/
def Z (W : World) (g : Nat) : Prop := Blk W g 9 #[.string ⟨#[]⟩]
theorem Z.cells {W : World} {g : Nat} (h : Z W g) : W.cell? ⟨g, 0, none⟩ = some (.string ⟨#[]⟩) ∧ W.frozen? ⟨g, 0, none⟩ = false ∧ g < W.heap.size := ⟨Blk.cell h 0, Blk.frozen h 0, Blk.lt h⟩
theorem Z.set {W : World} {g : Nat} (h : Z W g) (x : ByteArray) : Blk (W.setCell ⟨g, 0, none⟩ (.string x)) g 9 #[.string x] := by simpa using Blk.set_ h 0 (.string x)
theorem z_new (hb : Below (V.alloc (.cells #[.string ⟨#[]⟩] 9)).heap.size (V.alloc (.cells #[.string ⟨#[]⟩] 9)) w') : Z w' V.heap.size := (Blk.new V _ _).below hb (Blk.lt (Blk.new V _ _))
theorem z_both (hb : Below ((V.alloc (.cells #[.string ⟨#[]⟩] 9)).alloc (.cells #[.string ⟨#[]⟩] 9)).heap.size ((V.alloc (.cells #[.string ⟨#[]⟩] 9)).alloc (.cells #[.string ⟨#[]⟩] 9)) w') : Z w' V.heap.size ∧ Z w' (V.heap.size + 1) :=
  ⟨((Blk.new V _ _).alloc _).below hb (Blk.lt ((Blk.new V _ _).alloc _)), by have h := z_new hb; simpa using h⟩
theorem z_old {g : Nat} (hb : Below V.heap.size V w') (h : Z V g) : Z w' g := Blk.below h hb (Blk.lt h)
theorem z_olds {g g' : Nat} (hb : Below V.heap.size V w') (h : Z V g ∧ Z V g') : Z w' g ∧ Z w' g' := ⟨z_old hb h.1, z_old hb h.2⟩
theorem z_more {g : Nat} (hb : Below (V.alloc (.cells #[.string ⟨#[]⟩] 9)).heap.size (V.alloc (.cells #[.string ⟨#[]⟩] 9)) w') (h : Z V g) : Z w' g ∧ Z w' V.heap.size := ⟨z_old hb (Blk.alloc h _), z_new hb⟩
theorem blk_new1 {o : Obj} {t : TypeId} {cs : Array Value} : Blk ((V.alloc o).alloc (.cells cs t)) (V.heap.size + 1) t cs := by simpa using Blk.new (V.alloc o) t cs
theorem blk_newS {p : Addr} {u : Value} {t : TypeId} {cs : Array Value} : Blk ((V.setCell p u).alloc (.cells cs t)) V.heap.size t cs := by have h := Blk.new (V.setCell p u) t cs; rw [size_setCell'] at h; exact h
theorem then_at {K : Act → World → Prop} {Q : Exit → Act → World → Prop} {e : Exit} {a : Act} {w : World} (h : ∀ W, W = w → Exit.then K Q e a W) : Exit.then K Q e a w := h w rfl
theorem fr_cells {bx bY : Nat} {x y : ByteArray} (h1 : Blk w bx 9 #[.string x]) (h3 : Blk w bY 9 #[.string y]) (h : Below w.heap.size w U) :
    U.cell? ⟨bx, 0, none⟩ = some (.string x) ∧ U.cell? ⟨bY, 0, none⟩ = some (.string y) ∧ Below w.heap.size w U :=
  ⟨(h1.below h h1.lt).cell 0, (h3.below h h3.lt).cell 0, h⟩
end

theorem rename_tail {w W : World} {F : Nat → Prop} {b : Nat} {s : St} {bn bo : Nat} {cv : Value} {cls : List Value} {fv : Nat → Value} (hd : IsDisk w F b s bn bo cv cls fv) (hm : s.mid = false) (hcs : s.chs.length < 1099511627776)
    {x y : ByteArray} (hx : x.size ≤ 281474976710656) (hy : y.size ≤ 281474976710656) (hne : x.data.toList ≠ y.data.toList) {i : Nat} (hg : dget s.now x.data.toList = some i) (hb : Below w.heap.size w W) {g4 g5 : Nat} (B4 : Blk W g4 9 #[.string x]) (B5 : Blk W g5 9 #[.string y]) (l4 : w.heap.size ≤ g4) (l5 : w.heap.size ≤ g5) :
    Calls Tryz.prog 108 #[at0 b, .func (.func 130) #[] #[at0 g4, at0 g5]] W (fun e w2 => e = .returned (.tuple #[]) ∧ ∃ F', Disk w2 F' b { s with now := ddel (dput s.now y.data.toList i) x.data.toList, chs := s.chs ++ [.rename x.data.toList y.data.toList] } ∧ Kept F w w2 ∧ ∀ j, F' j → F j ∨ w.heap.size ≤ j) := by
  have hWk : Kept F w W := Kept.below hb
  have hd1 := (hd.frame (fun j hj => hb.block j (hd.lt j hj)) hWk.size).more (F' := Own F w W) (fun j hj => .inl hj) (fun j hj => by
    rcases hj with h | h
    · have := hd.lt j h; have := hWk.size; omega
    · exact h.2)
  have ex : encStr x.data.toList = .string x := by simp [encStr]
  have ey : encStr y.data.toList = .string y := by simp [encStr]
  have lx : x.data.toList.length ≤ 281474976710656 := by simpa using hx
  have ly : y.data.toList.length ≤ 281474976710656 := by simpa using hy
  have heq : Ch.eff (.rename x.data.toList y.data.toList) s.now = ddel (dput s.now y.data.toList i) x.data.toList := by simp [Ch.eff, hg]
  have hn64 := hd.wf.nnow
  have hlen : (ddel (dput s.now y.data.toList i) x.data.toList).length ≤ 64 := by
    have h1 := length_dput s.now y.data.toList i
    have h2 := ddel_less (d := dput s.now y.data.toList i) (mem_dput.2 (.inr ⟨dget_mem hg, hne⟩))
    simp only at h2
    omega
  have hch := change_any 130 #[at0 g4, at0 g5] (enters_of Tryz.func130 (by kernel_rfl) rfl) hd1 hm (.rename x.data.toList y.data.toList) hcs ⟨by rw [hg]; rfl, by rw [heq]; exact hlen⟩ trivial (by rw [heq]; exact hlen)
    (fun p hp => by
      rw [heq] at hp
      rcases mem_dput.1 (mem_ddel.1 hp).1 with e | e
      · rw [e]; exact hd.wf.now_id (x.data.toList, i) (dget_mem hg)
      · exact hd.wf.now_id p e.1)
    ⟨_, _, rfl, by rw [ex]; exact B4, by rw [ey]; exact B5, .inr ⟨l4, B4.lt⟩, .inr ⟨l5, B5.lt⟩, lx, ly⟩
    (by rw [heq]; exact rename_eff hd1.now (by omega) hg (by rw [ex]; exact B4) (by rw [ey]; exact B5) lx ly)
  rw [heq] at hch
  refine hch.mono ?_
  rintro e w2 ⟨rfl, hD2, hk2⟩
  refine ⟨rfl, _, hD2, hWk.trans hk2 ?_, ?_⟩
  · intro j hj h
    rcases h with h | h
    · exact h
    · omega
  · intro j h
    rcases h with (h | h) | h
    · exact .inl h
    · exact .inr h.1
    · have := hWk.size; exact .inr (by omega)

set_option maxHeartbeats 4000000 in
set_option maxRecDepth 100000 in
theorem rename1_any {w : World} {F : Nat → Prop} {b : Nat} {s : St} (hD : Disk w F b s) (hm : s.mid = false) (hcs : s.chs.length < 1099511627776) (x y : ByteArray) (hxm : x.size ≤ maxLen) (hx0 : (dget s.now x.data.toList).isSome = true → x.size ≤ 281474976710656) (hym : y.size ≤ maxLen) {bx bY bd : Nat} (h1 : Blk w bx 9 #[.string x]) (h3 : Blk w bY 9 #[.string y]) (h2 : Blk w bd 42 #[at0 b]) :
    Calls Tryz.prog 129 #[at0 bY, at0 bd, at0 bx] w (Left w F b fun n s' => TRename s x.data.toList y.data.toList n s' ∧ s'.acts = s.acts ∧ s'.fuse = s.fuse ∧ s'.down = s.down) := by
  have cx := h1.cell 0
  have cy := h3.cell 0
  have cd := h2.cell 0
  simp [at0] at cx cy cd
  have hstay : ∀ n : Int, (∀ s', s' = s → TRename s x.data.toList y.data.toList n s') → Left w F b (fun n s' => TRename s x.data.toList y.data.toList n s' ∧ s'.acts = s.acts ∧ s'.fuse = s.fuse ∧ s'.down = s.down) (.returned (.int .i64 n)) w :=
    fun n hT => ⟨n, s, F, rfl, ⟨hT s rfl, rfl, rfl, rfl⟩, hD, Kept.refl F w, fun _ hi => .inl hi⟩
  have HS := Lib.hid hstay; clear hstay
  have hhas := has_any hD x hxm
  have HH := Lib.hid hhas; clear hhas
  obtain ⟨bn, bo, cv, cls, fv, hd⟩ := hD
  have c1 := hd.blk.cell 1
  simp at c1
  have HI := Lib.hid hd
  clear hd
  unfold at0
  cases hok : okName y.data.toList
  · have HOK := Lib.hid hok; clear hok
    go_enter Tryz.func129, Tryz.ntmps129
    go_wp2_with (go_at_call 71; refine (validName_any _ _ hym).mono ?_; rintro e w' ⟨rfl, rfl⟩; rw [HOK.out])
    go_ret
    exact HS.out 1 (fun s' e => .inl ⟨HOK.out, rfl, e⟩)
  have HOK := Lib.hid hok; clear hok
  cases hg : dget s.now x.data.toList with
  | none =>
    have HG := Lib.hid hg; clear hg
    go_enter Tryz.func129, Tryz.ntmps129
    go_wp2_with (first | (go_at_call 71; refine (validName_any _ _ hym).mono ?_; rintro e w' ⟨rfl, rfl⟩; rw [HOK.out]) | (go_at_call 72; refine (Hid.out HH).mono ?_; rintro e w' ⟨rfl, rfl⟩; rw [HG.out]))
    go_ret
    exact HS.out 12 (fun s' e => .inr (.inl ⟨HOK.out, HG.out, rfl, e⟩))
  | some i =>
    have hx := hx0 (by rw [hg]; rfl)
    have hy := ok_size HOK.out
    clear hx0
    have HG := Lib.hid hg; clear hg
    by_cases hxy : x = y
    · subst hxy
      go_enter Tryz.func129, Tryz.ntmps129
      go_wp2_with (first | (go_at_call 71; refine (validName_any _ _ hym).mono ?_; rintro e w' ⟨rfl, rfl⟩; rw [HOK.out]) | (go_at_call 72; refine (Hid.out HH).mono ?_; rintro e w' ⟨rfl, rfl⟩; rw [HG.out]))
      go_ret
      exact HS.out 0 (fun s' e => .inr (.inr (.inl ⟨HOK.out, by rw [HG.out]; rfl, rfl, rfl, e⟩)))
    · have hne : x.data.toList ≠ y.data.toList := fun e => hxy (Go.WideShapes.bytes_inj e)
      have hbeq : (x.toList == y.toList) = false := by rw [ByteArray.toList_eq, ByteArray.toList_eq]; simpa using hne
      have HNE := Lib.hid hne
      clear hne hxy
      go_enter Tryz.func129, Tryz.ntmps129
      go_wp2_with (first | (go_at_call 71; refine (validName_any _ _ hym).mono ?_; rintro e w' ⟨rfl, rfl⟩; rw [HOK.out]) | (go_at_call 72; refine (Hid.out HH).mono ?_; rintro e w' ⟨rfl, rfl⟩; rw [HG.out]))
      go_region_held3 (fun w' => w'.cell? ⟨bx, 0, none⟩ = some (.string x) ∧ w'.cell? ⟨bY, 0, none⟩ = some (.string y) ∧ Below w.heap.size w w')
        (first | (refine fr_cells h1 h3 ?_; repeat' (first | exact Below.refl _ _ | exact And.right (And.right (by assumption)) | apply fr_alloc | apply Below.drew | (refine fr_then ?_ (by assumption)) | (refine fr_set ?_ ?_ _) | (refine fr_set1 ?_ ?_ _))))
        (first | (go_at_call 74; refine (ownName_any _ _ (by assumption)).mono ?_; rintro e w' ⟨rfl, hb⟩; (try replace hb := undrew hb); have hz := hb.size; (try simp at hz); (first | (have q := z_both hb; have qc := q.1.cells; have qd := q.2.cells) | (have q := z_olds hb (by assumption); have qc := q.1.cells; have qd := q.2.cells) | (have q := z_more hb (by assumption); have qc := q.1.cells; have qd := q.2.cells) | (have q := z_new hb; have qc := q.cells) | (have q := z_old hb (by assumption); have qc := q.cells) | skip)))
      all_goals
        refine then_at fun W hW => ?_
        have hbW : Below w.heap.size w W := by rw [hW]; exact And.right (And.right (by assumption))
        have cdW := (h2.below hbW h2.lt).cell 0
        simp [at0] at cdW
        have HW := Lib.hid hW
        clear hW
        have htail := fun (g4 g5 : Nat) (B4 : Blk W g4 9 #[.string x]) (B5 : Blk W g5 9 #[.string y]) (l4 : w.heap.size ≤ g4) (l5 : w.heap.size ≤ g5) => rename_tail HI.out hm hcs hx hy HNE.out HG.out hbW B4 B5 l4 l5
        have HT := Lib.hid htail
        clear htail
        go_wp2_with (go_at_call 108; refine Calls.mono (HT.out _ _
          (by rw [HW.out]; first | exact Blk.new _ _ _ | exact blk_new1 | exact Blk.alloc (Blk.new _ _ _) _ | exact blk_newS | exact Blk.alloc (Z.set (by first | assumption | exact And.left (by assumption) | exact And.right (by assumption)) _) _ | exact Blk.far (Z.set (by first | assumption | exact And.left (by assumption) | exact And.right (by assumption)) _) (by dsimp only; omega) _ | exact Z.set (Blk.far (by first | assumption | exact And.left (by assumption) | exact And.right (by assumption)) (by dsimp only; omega) _) _)
          (by rw [HW.out]; first | exact Blk.new _ _ _ | exact blk_new1 | exact Blk.alloc (Blk.new _ _ _) _ | exact blk_newS | exact Blk.alloc (Z.set (by first | assumption | exact And.left (by assumption) | exact And.right (by assumption)) _) _ | exact Blk.far (Z.set (by first | assumption | exact And.left (by assumption) | exact And.right (by assumption)) _) (by dsimp only; omega) _ | exact Z.set (Blk.far (by first | assumption | exact And.left (by assumption) | exact And.right (by assumption)) (by dsimp only; omega) _) _)
          (by omega) (by omega)) ?_; rintro e w2 ⟨rfl, F2, hD2, hk2, hF2⟩)
        go_ret
        exact ⟨0, _, F2, rfl, ⟨.inr (.inr (.inr ⟨HOK.out, HNE.out, rfl, i, HG.out, rfl⟩)), rfl, rfl, rfl⟩, hD2, hk2, hF2⟩
end Go.Proofs.YtmhiekbpmoikfaaGreatDoor
namespace Go.Proofs.YtmhiekbpmoikfaaGreatDoor
open Go.RowKit Go.Maps Go.WideMaps

theorem three_boxes {w : World} {o1 o2 o3 : Obj} {F : Nat → Prop} : Kept F w (((w.alloc o1).alloc o2).alloc o3) := (((Kept.refl F w).alloc _).alloc _).alloc _

set_option maxHeartbeats 1000000 in
theorem Rename_any {w : World} {F : Nat → Prop} {b : Nat} {s : St} (hD : Disk w F b s) (hm : s.mid = false) (ha : s.acts < 1099511627776) (hcs : s.chs.length < 1099511627776) (x y : ByteArray) (hx : x.size ≤ maxLen) (hx0 : (dget s.now x.data.toList).isSome = true → x.size ≤ 281474976710656) (hy : y.size ≤ maxLen) :
    Calls Tryz.prog 82 #[at0 b, .string x, .string y] w (Left w F b (ActEnd s (TRename s x.data.toList y.data.toList))) := by
  have hD' := ((hD.alloc (.cells #[at0 b] 42)).alloc (.cells #[.string x] 9)).alloc (.cells #[.string y] 9)
  have b1 : Blk (((w.alloc (.cells #[at0 b] 42)).alloc (.cells #[.string x] 9)).alloc (.cells #[.string y] 9)) w.heap.size 42 #[at0 b] := ((Blk.new _ _ _).alloc _).alloc _
  have b2 : Blk (((w.alloc (.cells #[at0 b] 42)).alloc (.cells #[.string x] 9)).alloc (.cells #[.string y] 9)) (w.heap.size + 1) 9 #[.string x] := Blk.alloc blk_new1 _
  have b3 : Blk (((w.alloc (.cells #[at0 b] 42)).alloc (.cells #[.string x] 9)).alloc (.cells #[.string y] 9)) (w.heap.size + 1 + 1) 9 #[.string y] := by simpa using Blk.new ((w.alloc (.cells #[at0 b] 42)).alloc (.cells #[.string x] 9)) 9 #[.string y]
  have hc := act_any 129 #[at0 (w.heap.size + 1 + 1), at0 w.heap.size, at0 (w.heap.size + 1)] (enters_of Tryz.func129 (by kernel_rfl) rfl) hD' ha (TRename s x.data.toList y.data.toList) (fun _ _ => rename1_any hD' hm hcs x y hx hx0 hy b2 b3 b1)
  have HC := Lib.hid (hc.mono fun e w' (h : Left _ _ _ _ e w') => h.back three_boxes)
  clear hc b1 b2 b3 hD'
  unfold at0
  go_enter Tryz.func82, Tryz.ntmps82
  go_wp2_with (go_at_call 106; refine (Hid.out HC).mono ?_; rintro e w' ⟨n, s', F', rfl, hrest⟩)
  go_ret
  exact ⟨n, s', F', rfl, hrest⟩
end Go.Proofs.YtmhiekbpmoikfaaGreatDoor
