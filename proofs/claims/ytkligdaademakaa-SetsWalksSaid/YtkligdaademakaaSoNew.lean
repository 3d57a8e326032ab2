/- The landed sets: And, Or, Less, Gather. -/
import Derived.Test.YtkligdaademakaaSoAll
namespace Go.Proofs.Ytkligdaademakaa
open Go.RowKit Go.Maps Go.WideMaps Go.Shelf
set_option linter.unusedSimpArgs false

theorem setsInfo : (Try.prog.info? 28).map (fun i => (i.zero, i.size, i.bytes)) = some (some (.pointer none), 1, 8) := by kernel_rfl
theorem ptrs_one (X : List SV) : ∀ u ∈ X.map (fun x => Value.pointer x.p), u.oneCell' = true := fun u hu => by
  obtain ⟨x, _, rfl⟩ := List.mem_map.1 hu
  rfl
set_option maxHeartbeats 2000000 in
set_option maxRecDepth 100000 in
theorem cloneSets_any (w : World) (A : Option Addr) (n c : Nat) (xs : List Value) (hl : Src w A n xs) (h1 : ∀ u ∈ xs, u.oneCell' = true) (hb : ∀ ad, A = some ad → 0 < n → ad.block < w.heap.size) (hn : n ≤ 1000000) :
    Calls Try.prog 35 #[.slice A n c] w fun e w' => ∃ v, e = .returned v ∧ w'.ownsRow w.heap.size 28 1 v n xs ∧ Below w.heap.size w w' := by
  obtain ⟨i0, hi, hz0, hz1, hz2⟩ := info_parts setsInfo
  have q22 : ∀ (w : World) (a : Option Addr) (n c n' c' : Nat), (binOp .eql 60 (.slice a n c) (.slice none n' c')).run Try.prog w = .ok (.bool a.isNone) w := fun w a n c n' c' => Lib.run_eql_slice_nil w _ _ a n c n' c' Try.underlying60
  cases A with
  | none =>
    have h0 := hl.nil rfl
    have hx : xs = [] := List.eq_nil_of_length_eq_zero (by have := hl.len; omega)
    subst h0 hx
    clear hl h1 hb
    go_enter Try.func35, Try.ntmps35
    go_wp2
    go_ret
    exact ⟨_, rfl, ⟨rfl, .inl ⟨rfl, rfl⟩⟩, Below.refl _ _⟩
  | some ad =>
    have HL := Lib.hid (show Src (w.alloc (.cells #[] 28)) (some ad) n xs from hl.keep fun ad' e h0 => Below.heap_alloc w _ _ (hb ad' e h0))
    have H1 := Lib.hid h1
    clear hl hb h1
    go_enter Try.func35, Try.ntmps35
    go_wp2_with (at_builtin; refine wpList_append_src _ rfl (.tmp 5) (.tmp 6) 60 rfl w.heap.size 28 i0 (.pointer none) 8 Try.underlying60 hi hz0 hz1 hz2 rfl _ 0 [] rfl (World.ownsRow_made w #[] 0 (Nat.le_refl _) (Nat.zero_le _) rfl) (some ad) n c xs rfl HL.out H1.out (by unfold maxLen; omega) (by omega) (by simp) ?_; intro v w2 hown hgrow hloc; rw [Nat.zero_add, List.nil_append] at hown; have HO := Lib.hid hown; have HB : Hid (Below w.heap.size w w2) := Lib.hid ((((Below.refl _ w).alloc (Nat.le_refl _) (.cells #[] 28)).grown hgrow (by simp) (fun k e => by cases e; exact Nat.le_refl _))); clear hown hgrow hloc)
    go_ret
    exact ⟨_, rfl, HO.out, HB.out⟩
/-- Sets that lie in a new row of the program's own. -/
theorem row_new {Q : MvP} (hQ : MovesOk Q) {w w1 w2 w3 : World} {F : Nat → Prop} {X : List SV} {v : Value} (hk : Kids Q w X) (hF : ∀ x ∈ X, ∀ b, x.F b → F b) (hlt : ∀ b, F b → b < w.heap.size) (hn : X.length ≤ 1000000) (o : Value) (hw1 : w1 = w.alloc (.cells #[o] 60)) (ho : w2.ownsRow w1.heap.size 28 1 v X.length (X.map fun x => Value.pointer x.p)) (hb2 : Below w1.heap.size w1 w2) (hw3 : w3 = w2.setCell ⟨w.heap.size, 0, none⟩ v) :
    (∃ A c, v = .slice A X.length c ∧ RowK Q w3 (fun i => F i ∨ w.heap.size ≤ i ∧ i < w3.heap.size) w.heap.size A c X) ∧ Below w.heap.size w w3 := by
  obtain ⟨A, c, rfl, hc⟩ := own_cap ho
  have hz1 : w1.heap.size = w.heap.size + 1 := by rw [hw1]; simp
  have hz2 := hb2.size
  have hz3 : w3.heap.size = w2.heap.size := by rw [hw3, size_setCell']
  have hb1 : Below w.heap.size w w1 := by rw [hw1]; exact (Below.refl _ w).alloc (Nat.le_refl _) _
  have hb3 : Below w.heap.size w w3 := by rw [hw3]; exact (below_then hb1 hb2 hb1.size).setCell (Nat.le_refl _) _
  refine ⟨⟨A, c, rfl, ?_, ?_, hn, hk.keep hQ (fun x hx b hb => hb3.block b (hlt b (hF x hx b hb))) hb3.size, fun x hx b hb => ⟨.inl (hF x hx b hb), ?_⟩, .inr ⟨Nat.le_refl _, by omega⟩, fun ad e h0 => ?_, fun i hi => ?_⟩, hb3⟩
  · rw [hw3]
    have h1 : Blk w1 w.heap.size 60 #[o] := by rw [hw1]; exact Blk.new _ _ _
    simpa using (h1.below hb2 (by omega)).set_ 0 (.slice A X.length c)
  · refine (src_of_own ho).keep fun ad e h0 => ?_
    have := ho.lt ad.block (by rw [e]; rfl)
    rw [hw3]
    exact heap_setCell_other _ _ _ (by simp only; omega)
  · have := hlt b (hF x hx b hb); omega
  · have h1 := ho.lt ad.block (by rw [e]; rfl)
    exact ⟨.inr ⟨by omega, by omega⟩, by omega, fun x hx hf => by have := hlt _ (hF x hx _ hf); omega⟩
  · rcases hi with hi | hi
    · have := hlt i hi; omega
    · exact hi.2
/-- A set that was made by way of new blocks. -/
theorem made_out {Q : MvP} {w w3 : World} {F : Nat → Prop} {l : List Int} {e : Ending} {w' : World} (hb : Below w.heap.size w w3) (h : SetMade Q w3 (fun i => F i ∨ w.heap.size ≤ i ∧ i < w3.heap.size) l e w') : SetMade Q w F l e w' := by
  obtain ⟨b, F', h1, h2, h3, h4⟩ := h
  have hz := hb.size
  refine ⟨b, F', h1, h2, (Kept.below hb).trans h3 (fun i hi h => h.elim id (fun h => by omega)), fun i hi => ?_⟩
  rcases h4 i hi with (h5 | h5) | h5
  · exact .inl h5
  · exact .inr h5.1
  · right; omega
/-- A set of nothing, in a new block. -/
theorem made_none {Q : MvP} (w : World) (F : Nat → Prop) (o : Obj) : SetMade Q w F [] (.returned (.pointer (some ⟨w.heap.size + 1, 0, none⟩))) ((w.alloc o).alloc (.cells #[.int .i64 0, .int .i64 0, .nilFunc] 71)) := by
  refine ⟨w.heap.size + 1, fun i => i = w.heap.size + 1, rfl, .inr ⟨w.heap.size + 1, 0, 0, .nilFunc, rfl, SetB.ended rfl (fun i (e : i = w.heap.size + 1) => by simp; omega) ?_⟩, ((Kept.refl F w).alloc _).alloc _, fun i (e : i = w.heap.size + 1) => .inr (by omega)⟩
  have := Blk.new (w.alloc o) 71 #[.int .i64 0, .int .i64 0, .nilFunc]
  simpa using this
set_option maxHeartbeats 8000000 in
set_option maxRecDepth 100000 in
theorem seAnd_any {Leaf Q : MvP} (hL : MovesOk Leaf) (hQ : MovesOk Q) (w : World) (F : Nat → Prop) (A : Option Addr) (n c : Nat) (X : List SV) (hk : Kids Q w X) (hF : ∀ x ∈ X, ∀ b, x.F b → F b) (hlt : ∀ b, F b → b < w.heap.size) (hs : Src w A n (X.map fun x => Value.pointer x.p)) (hA : ∀ ad, A = some ad → 0 < n → ad.block < w.heap.size) (hn : n ≤ 1000000) :
    Calls Try.prog 20 #[.slice A n c] w (SetMade (MvAll Leaf Q) w F (andL (X.map SV.l))) := by
  have hlen : X.length = n := by have := hs.len; simpa using this
  obtain ⟨w1, hw1⟩ : ∃ z, z = w.alloc (.cells #[.slice A n c] 60) := ⟨_, rfl⟩
  have hb1 : Below w.heap.size w w1 := by rw [hw1]; exact (Below.refl _ w).alloc (Nat.le_refl _) _
  have hz1 : w1.heap.size = w.heap.size + 1 := by rw [hw1]; simp
  have HW1 := Lib.hid hw1
  by_cases hn0 : n = 0
  · subst hn0
    have hX : X = [] := List.eq_nil_of_length_eq_zero hlen
    subst hX
    clear hk hF hs hA hlen hw1
    go_enter Try.func20, Try.ntmps20
    go_wp2
    go_ret
    exact made_none w F _
  · have hcl := cloneSets_any w1 A n c _ (hs.keep (w' := w1) fun ad e h0 => hb1.block _ (hA ad e h0)) (ptrs_one X) (fun ad e h0 => by have := hA ad e h0; omega) hn
    have d1 : ((n : Int) == 0) = false := beq_eq_false_iff_ne.2 (by omega)
    have h1 : Blk w1 w.heap.size 60 #[.slice A n c] := by rw [hw1]; exact Blk.new _ _ _
    have HCL := Lib.hid hcl
    have HK := Lib.hid hk
    have HF := Lib.hid hF
    have HLT := Lib.hid hlt
    have HBK := Lib.hid h1
    have HLEN := Lib.hid hlen
    have hnp : 0 < n := by omega
    clear hcl hk hF hlt hs hA hw1 h1 hlen hn0
    go_enter Try.func20, Try.ntmps20
    go_wp2_with fail
    rw [← HW1.out]
    refine HCL.out.mono ?_
    rintro e w2 ⟨v, rfl, ho, hb2⟩
    rw [← HLEN.out] at ho
    obtain ⟨w3, hw3⟩ : ∃ z, z = w2.setCell ⟨w.heap.size, 0, none⟩ v := ⟨_, rfl⟩
    obtain ⟨⟨A', c', rfl, hrow⟩, hb3⟩ := row_new hQ HK.out HF.out HLT.out (by rw [HLEN.out]; exact hn) _ HW1.out ho hb2 hw3
    have hbk2 := HBK.out.below hb2 (by omega)
    have y0 := hbk2.cell 0
    have x0 := hbk2.frozen 0
    simp only [List.getElem?_toArray, List.getElem?_cons_zero] at y0
    have hup : Up (andL (X.map SV.l)) := up_and fun l hl => by
      obtain ⟨x, hx, rfl⟩ := List.mem_map.1 hl
      exact (HK.out.each x hx).up
    have hbeg := seBegin_any (hL.all hQ) (.inr (.inr (.inr (.inl ⟨_, _, _, X, rfl, hrow, by rw [HLEN.out]; exact hnp, rfl⟩)))) hup
    unfold at0 at hbeg
    have HBEG := Lib.hid (hbeg.mono fun e w' h => made_out hb3 h)
    have HW3 := Lib.hid hw3
    clear ho hb2 hb3 hrow hbk2 hup hbeg hw3
    go_wp2_with fail
    rw [← HW3.out]
    refine HBEG.out.mono ?_
    rintro e w4 ⟨b, F', rfl, h1, h2, h3⟩
    have HP := Lib.hid (And.intro h1 (And.intro h2 h3))
    clear h1 h2 h3
    go_wp2
    go_ret
    exact ⟨b, F', rfl, HP.out.1, HP.out.2.1, HP.out.2.2⟩
set_option maxHeartbeats 8000000 in
set_option maxRecDepth 100000 in
theorem seLess_any {Leaf Q : MvP} (hL : MovesOk Leaf) (hQ : MovesOk Q) (w : World) (F : Nat → Prop) (x y : SV) (hk : Kids Q w [x, y]) (hF : ∀ v ∈ [x, y], ∀ b, v.F b → F b) (hlt : ∀ b, F b → b < w.heap.size) :
    Calls Try.prog 23 #[.pointer x.p, .pointer y.p] w (SetMade (MvAll Leaf Q) w F (lessI x.l y.l)) := by
  obtain ⟨w3, hw3⟩ : ∃ z, z = (w.alloc (.cells #[.pointer x.p] 28)).alloc (.cells #[.pointer y.p] 28) := ⟨_, rfl⟩
  have hb3 : Below w.heap.size w w3 := by rw [hw3]; exact ((Below.refl _ w).alloc (Nat.le_refl _) _).alloc (by simp) _
  have hz3 : w3.heap.size = w.heap.size + 1 + 1 := by rw [hw3]; simp
  have hpair : PairK Q w3 (fun i => F i ∨ w.heap.size ≤ i ∧ i < w3.heap.size) w.heap.size (w.heap.size + 1) x y := by
    refine ⟨?_, ?_, hk.keep hQ (fun v hv b hb => hb3.block b (hlt b (hF v hv b hb))) hb3.size, fun v hv b hb => ⟨.inl (hF v hv b hb), ?_, ?_⟩, .inr ⟨Nat.le_refl _, by omega⟩, .inr ⟨by omega, by omega⟩, fun i hi => ?_⟩
    · rw [hw3]; exact (Blk.new _ _ _).alloc _
    · rw [hw3]
      have := Blk.new (w.alloc (.cells #[.pointer x.p] 28)) 28 #[.pointer y.p]
      simpa using this
    · have := hlt b (hF v hv b hb); omega
    · have := hlt b (hF v hv b hb); omega
    · rcases hi with hi | hi
      · have := hlt i hi; omega
      · exact hi.2
  have hbeg := seBegin_any (hL.all hQ) (.inr (.inr (.inr (.inr (.inr ⟨_, _, x, y, rfl, hpair, rfl⟩))))) (hk.each x (by simp)).up.lessI
  unfold at0 at hbeg
  have HBEG := Lib.hid (hbeg.mono fun e w' h => made_out hb3 h)
  have HW3 := Lib.hid hw3
  clear hk hF hlt hb3 hpair hbeg hw3
  go_enter Try.func23, Try.ntmps23
  go_wp2_with fail
  rw [← HW3.out]
  refine HBEG.out.mono ?_
  rintro e w4 ⟨b, F', rfl, h1, h2, h3⟩
  have HP := Lib.hid (And.intro h1 (And.intro h2 h3))
  clear h1 h2 h3
  go_wp2
  go_ret
  exact ⟨b, F', rfl, HP.out.1, HP.out.2.1, HP.out.2.2⟩
end Go.Proofs.Ytkligdaademakaa
