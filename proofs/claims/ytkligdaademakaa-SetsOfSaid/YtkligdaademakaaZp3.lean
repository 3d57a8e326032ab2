/- The landed sets: all functions that move, level over level. The landed sets: And, Or, Less, Gather. The landed sets: Or. The landed sets: Gather. The landed sets keep what the laws ask. -/
import Derived.Test.YtkligdaademakaaSoList
import Derived.Test.YtkligdaademakaaZp2
import Derived.Deep.RegionHeld3
import Derived.Test.YtkligdaademakaaSeCut
namespace Go.Proofs.Ytkligdaademakaa
open Go.RowKit Go.Maps Go.WideMaps Go.Shelf
set_option linter.unusedSimpArgs false

theorem MoveOut.mono {Q Q' : MvP} (h : ∀ {w F fv M}, Q w F fv M → Q' w F fv M) {w : World} {F : Nat → Prop} {fv : Value} {M : List Int} {d : Int} (e : Ending) (w' : World) (k : MoveOut Q w F fv M d e w') : MoveOut Q' w F fv M d e w' := by
  obtain ⟨a, m, h1, h2, h3⟩ := k
  refine ⟨a, m, h1, h2, h3.imp id ?_⟩
  rintro ⟨h4, F', M', h5, h6⟩
  exact ⟨h4, F', M', h h5, h6⟩
theorem SetLv.mono {Q Q' : MvP} (h : ∀ {w F fv M}, Q w F fv M → Q' w F fv M) {w : World} {F : Nat → Prop} {p : Option Addr} {l : List Int} (k : SetLv Q w F p l) : SetLv Q' w F p l := by
  rcases k with k | ⟨b, a, m, fv, h1, h2⟩
  · exact .inl k
  · refine .inr ⟨b, a, m, fv, h1, h2.up, h2.mem, h2.lt, h2.blk, h2.st.imp id ?_⟩
    rintro ⟨h4, F', M', h5, h6⟩
    exact ⟨h4, F', M', h h5, h6⟩
theorem Kids.mono {Q Q' : MvP} (h : ∀ {w F fv M}, Q w F fv M → Q' w F fv M) {w : World} {X : List SV} (k : Kids Q w X) : Kids Q' w X := ⟨fun x hx => (k.each x hx).mono h, k.apart⟩
def NoMv : MvP := fun _ _ _ _ => False
def MvAll (Leaf Q : MvP) : MvP := fun w F fv M => Leaf w F fv M ∨ ListMv w F fv M ∨ AllMv w F fv M ∨ AndMv Q w F fv M ∨ OrMv Q w F fv M ∨ LessMv Q w F fv M
theorem MvAll.mono {Leaf Q Q' : MvP} (h : ∀ {w F fv M}, Q w F fv M → Q' w F fv M) {w : World} {F : Nat → Prop} {fv : Value} {M : List Int} (k : MvAll Leaf Q w F fv M) : MvAll Leaf Q' w F fv M := by
  rcases k with k | k | k | k | k | k
  · exact .inl k
  · exact .inr (.inl k)
  · exact .inr (.inr (.inl k))
  · obtain ⟨g, A, c, X, h1, h2, h3⟩ := k
    exact .inr (.inr (.inr (.inl ⟨g, A, c, X, h1, ⟨h2.blk, h2.src, h2.few, h2.kids.mono h, h2.inF, h2.mem, h2.row, h2.lt⟩, h3⟩)))
  · obtain ⟨g, A, c, X, h1, h2, h3⟩ := k
    exact .inr (.inr (.inr (.inr (.inl ⟨g, A, c, X, h1, ⟨h2.blk, h2.src, h2.few, h2.kids.mono h, h2.inF, h2.mem, h2.row, h2.lt⟩, h3⟩))))
  · obtain ⟨g, b, x, y, h1, h2, h3⟩ := k
    exact .inr (.inr (.inr (.inr (.inr ⟨g, b, x, y, h1, ⟨h2.blk, h2.blk2, h2.kids.mono h, h2.inF, h2.mem, h2.mem2, h2.lt⟩, h3⟩))))
theorem noMv_ok : MovesOk NoMv := ⟨fun h => h.elim, fun h => h.elim, fun h => h.elim⟩
theorem MovesOk.all {Leaf Q : MvP} (hL : MovesOk Leaf) (hQ : MovesOk Q) : MovesOk (MvAll Leaf Q) where
  keep := by
    rintro w w' F fv M (k | k | ⟨n, h1, h2, h3, h4, h5⟩ | ⟨g, A, c, X, h1, h2, h3⟩ | ⟨g, A, c, X, h1, h2, h3⟩ | ⟨g, b, x, y, h1, h2, h3⟩) hk hs
    · exact .inl (hL.keep k hk hs)
    · exact .inr (.inl (k.keep hk hs))
    · exact .inr (.inr (.inl ⟨n, h1, h2, h3, h4, fun i hi => Nat.lt_of_lt_of_le (h5 i hi) hs⟩))
    · exact .inr (.inr (.inr (.inl ⟨g, A, c, X, h1, h2.keep hQ hk hs, h3⟩)))
    · exact .inr (.inr (.inr (.inr (.inl ⟨g, A, c, X, h1, h2.keep hQ hk hs, h3⟩))))
    · exact .inr (.inr (.inr (.inr (.inr ⟨g, b, x, y, h1, h2.keep hQ hk hs, h3⟩))))
  lt := by
    rintro w F fv M (k | ⟨g, A, n, c, _, _, _, _, _, _, k, _⟩ | ⟨n, h1, h2, h3, h4, h5⟩ | ⟨g, A, c, X, h1, h2, h3⟩ | ⟨g, A, c, X, h1, h2, h3⟩ | ⟨g, b, x, y, h1, h2, h3⟩)
    · exact hL.lt k
    · exact k
    · exact h5
    · exact h2.lt
    · exact h2.lt
    · exact h2.lt
  fn := by
    rintro w F fv M (k | ⟨g, A, n, c, h1, h2, h3, h4, h5, h6, h7, h8⟩ | ⟨n, h1, h2, h3, h4, h5⟩ | ⟨g, A, c, X, h1, h2, h3, h4⟩ | ⟨g, A, c, X, h1, h2, h3⟩ | ⟨g, b, x, y, h1, h2, h3⟩) hM
    · obtain ⟨f, first, cap, h1, h2, h3⟩ := hL.fn k hM
      exact ⟨f, first, cap, h1, h2, fun d hd => (h3 d hd).mono (MoveOut.mono (fun h => .inl h))⟩
    · exact ⟨_, _, _, h1, enters_of Try.func40 (by kernel_rfl) rfl, fun d _ => by simpa using list1_any (Q := MvAll Leaf Q) (fun h => .inr (.inl h)) h1 h2 h3 h4 h5 h6 h7 h8 hM d⟩
    · exact ⟨_, _, _, h1, enters_of Try.func34 (by kernel_rfl) rfl, fun d hd => by simpa using all1_any (Q := MvAll Leaf Q) (fun h => .inr (.inr (.inl h))) h1 h2 h3 h4 h5 hM d hd⟩
    · exact ⟨_, _, _, h1, enters_of Try.func37 (by kernel_rfl) rfl, fun d hd => by simpa using and1_any (Q' := MvAll Leaf Q) hQ (fun h => .inr (.inr (.inr (.inl h)))) h1 h2 h3 h4 d hd⟩
    · exact ⟨_, _, _, h1, enters_of Try.func42 (by kernel_rfl) rfl, fun d hd => by simpa using or1_any (Q' := MvAll Leaf Q) hQ (fun h => .inr (.inr (.inr (.inr (.inl h))))) h1 h2 h3 d hd⟩
    · exact ⟨_, _, _, h1, enters_of Try.func44 (by kernel_rfl) rfl, fun d hd => by simpa using less1_any (Q' := MvAll Leaf Q) hQ (fun h => .inr (.inr (.inr (.inr (.inr h))))) h1 h2 h3 d hd⟩
/-- Level over level. -/
def QD (Leaf : MvP) : Nat → MvP
  | 0 => NoMv
  | k + 1 => MvAll Leaf (QD Leaf k)
theorem qd_ok {Leaf : MvP} (hL : MovesOk Leaf) : ∀ k, MovesOk (QD Leaf k)
  | 0 => noMv_ok
  | k + 1 => hL.all (qd_ok hL k)
theorem qd_up {Leaf : MvP} : ∀ (k : Nat) {w : World} {F : Nat → Prop} {fv : Value} {M : List Int}, QD Leaf k w F fv M → QD Leaf (k + 1) w F fv M
  | 0 => fun h => h.elim
  | k + 1 => fun h => MvAll.mono (fun h => qd_up k h) h
theorem qd_le {Leaf : MvP} {j k : Nat} (hjk : j ≤ k) {w : World} {F : Nat → Prop} {fv : Value} {M : List Int} (h : QD Leaf j w F fv M) : QD Leaf k w F fv M := by
  induction k with
  | zero => obtain rfl : j = 0 := by omega
            exact h
  | succ k ih =>
    rcases Nat.lt_or_ge j (k + 1) with h1 | h1
    · exact qd_up k (ih (by omega))
    · obtain rfl : j = k + 1 := by omega
      exact h
/-- The landed sets. -/
def S0 (Leaf : MvP) : SetP := fun w F _ p l => ∃ k, SetLv (QD Leaf k) w F p l
theorem s0_common {Leaf : MvP} {w : World} {G : Nat → Prop} : ∀ X : List SV, (∀ x ∈ X, S0 Leaf w x.F G x.p x.l) → ∃ k, ∀ x ∈ X, SetLv (QD Leaf k) w x.F x.p x.l
  | [], _ => ⟨0, by simp⟩
  | x :: r, h => by
    obtain ⟨k, hk⟩ := s0_common r (fun y hy => h y (List.mem_cons_of_mem _ hy))
    obtain ⟨j, hj⟩ := h x (List.mem_cons_self ..)
    refine ⟨max j k, fun y hy => ?_⟩
    rcases List.mem_cons.1 hy with rfl | hy
    · exact hj.mono (fun h => qd_le (by omega) h)
    · exact (hk y hy).mono (fun h => qd_le (by omega) h)
end Go.Proofs.Ytkligdaademakaa
namespace Go.Proofs.Ytkligdaademakaa
open Go.RowKit Go.Maps Go.WideMaps Go.Shelf
set_option linter.unusedSimpArgs false

theorem setsInfo : (Try.prog.info? 28).map (fun i => (i.zero, i.size, i.bytes)) = some (some (.pointer none), 1, 8) := by kernel_rfl
theorem ptrs_one (X : List SV) : ∀ u ∈ X.map (fun x => Value.pointer x.p), u.oneCell' = true := fun u hu => by
  obtain ⟨x, _, rfl⟩ := List.mem_map.1 hu
  rfl
set_option maxHeartbeats 2000000 in
set_option maxRecDepth 100000 in
theorem cloneSets_any (w : World) (A : Option Addr) (n c : Nat) (xs : List Value) (hl : Src w A n xs) (h1 : ∀ u ∈ xs, u.oneCell' = true) (hb : ∀ ad, A = some ad → 0 < n → ad.block < w.heap.size) (hn : n ≤ 1000000) :
    Calls Try.prog 35 #[.slice A n c] w fun e w' => ∃ v, e = .returned v ∧ w'.ownsRow w.heap.size 28 1 v n xs ∧ Below w.heap.size w w' := by
  obtain ⟨i0, hi, hz0, hz1, hz2⟩ := info_parts setsInfo
  have q22 : ∀ (w : World) (a : Option Addr) (n c n' c' : Nat), (binOp .eql 60 (.slice a n c) (.slice none n' c')).run Try.prog w = .ok (.bool a.isNone) w := fun w a n c n' c' => Lib.run_eql_slice_nil w _ _ a n c n' c' Try.underlying60
  cases A with
  | none =>
    have h0 := hl.nil rfl
    have hx : xs = [] := List.eq_nil_of_length_eq_zero (by have := hl.len; omega)
    subst h0 hx
    clear hl h1 hb
    go_enter Try.func35, Try.ntmps35
    go_wp2
    go_ret
    exact ⟨_, rfl, ⟨rfl, .inl ⟨rfl, rfl⟩⟩, Below.refl _ _⟩
  | some ad =>
    have HL := Lib.hid (show Src (w.alloc (.cells #[] 28)) (some ad) n xs from hl.keep fun ad' e h0 => Below.heap_alloc w _ _ (hb ad' e h0))
    have H1 := Lib.hid h1
    clear hl hb h1
    go_enter Try.func35, Try.ntmps35
    go_wp2_with (at_builtin; refine wpList_append_src _ rfl (.tmp 5) (.tmp 6) 60 rfl w.heap.size 28 i0 (.pointer none) 8 Try.underlying60 hi hz0 hz1 hz2 rfl _ 0 [] rfl (World.ownsRow_made w #[] 0 (Nat.le_refl _) (Nat.zero_le _) rfl) (some ad) n c xs rfl HL.out H1.out (by unfold maxLen; omega) (by omega) (by simp) ?_; intro v w2 hown hgrow hloc; rw [Nat.zero_add, List.nil_append] at hown; have HO := Lib.hid hown; have HB : Hid (Below w.heap.size w w2) := Lib.hid ((((Below.refl _ w).alloc (Nat.le_refl _) (.cells #[] 28)).grown hgrow (by simp) (fun k e => by cases e; exact Nat.le_refl _))); clear hown hgrow hloc)
    go_ret
    exact ⟨_, rfl, HO.out, HB.out⟩
/-- Sets that lie in a new row of the program's own. -/
theorem row_new {Q : MvP} (hQ : MovesOk Q) {w w1 w2 w3 : World} {F : Nat → Prop} {X : List SV} {v : Value} (hk : Kids Q w X) (hF : ∀ x ∈ X, ∀ b, x.F b → F b) (hlt : ∀ b, F b → b < w.heap.size) (hn : X.length ≤ 1000000) (o : Value) (hw1 : w1 = w.alloc (.cells #[o] 60)) (ho : w2.ownsRow w1.heap.size 28 1 v X.length (X.map fun x => Value.pointer x.p)) (hb2 : Below w1.heap.size w1 w2) (hw3 : w3 = w2.setCell ⟨w.heap.size, 0, none⟩ v) :
    (∃ A c, v = .slice A X.length c ∧ RowK Q w3 (fun i => F i ∨ w.heap.size ≤ i ∧ i < w3.heap.size) w.heap.size A c X) ∧ Below w.heap.size w w3 := by
  obtain ⟨A, c, rfl, hc⟩ := own_cap ho
  have hz1 : w1.heap.size = w.heap.size + 1 := by rw [hw1]; simp
  have hz2 := hb2.size
  have hz3 : w3.heap.size = w2.heap.size := by rw [hw3, size_setCell']
  have hb1 : Below w.heap.size w w1 := by rw [hw1]; exact (Below.refl _ w).alloc (Nat.le_refl _) _
  have hb3 : Below w.heap.size w w3 := by rw [hw3]; exact (below_then hb1 hb2 hb1.size).setCell (Nat.le_refl _) _
  refine ⟨⟨A, c, rfl, ?_, ?_, hn, hk.keep hQ (fun x hx b hb => hb3.block b (hlt b (hF x hx b hb))) hb3.size, fun x hx b hb => ⟨.inl (hF x hx b hb), ?_⟩, .inr ⟨Nat.le_refl _, by omega⟩, fun ad e h0 => ?_, fun i hi => ?_⟩, hb3⟩
  · rw [hw3]
    have h1 : Blk w1 w.heap.size 60 #[o] := by rw [hw1]; exact Blk.new _ _ _
    simpa using (h1.below hb2 (by omega)).set_ 0 (.slice A X.length c)
  · refine (src_of_own ho).keep fun ad e h0 => ?_
    have := ho.lt ad.block (by rw [e]; rfl)
    rw [hw3]
    exact heap_setCell_other _ _ _ (by simp only; omega)
  · have := hlt b (hF x hx b hb); omega
  · have h1 := ho.lt ad.block (by rw [e]; rfl)
    exact ⟨.inr ⟨by omega, by omega⟩, by omega, fun x hx hf => by have := hlt _ (hF x hx _ hf); omega⟩
  · rcases hi with hi | hi
    · have := hlt i hi; omega
    · exact hi.2
/-- A set that was made by way of new blocks. -/
theorem made_out {Q : MvP} {w w3 : World} {F : Nat → Prop} {l : List Int} {e : Ending} {w' : World} (hb : Below w.heap.size w w3) (h : SetMade Q w3 (fun i => F i ∨ w.heap.size ≤ i ∧ i < w3.heap.size) l e w') : SetMade Q w F l e w' := by
  obtain ⟨b, F', h1, h2, h3, h4⟩ := h
  have hz := hb.size
  refine ⟨b, F', h1, h2, (Kept.below hb).trans h3 (fun i hi h => h.elim id (fun h => by omega)), fun i hi => ?_⟩
  rcases h4 i hi with (h5 | h5) | h5
  · exact .inl h5
  · exact .inr h5.1
  · right; omega
/-- A set of nothing, in a new block. -/
theorem made_none {Q : MvP} (w : World) (F : Nat → Prop) (o : Obj) : SetMade Q w F [] (.returned (.pointer (some ⟨w.heap.size + 1, 0, none⟩))) ((w.alloc o).alloc (.cells #[.int .i64 0, .int .i64 0, .nilFunc] 71)) := by
  refine ⟨w.heap.size + 1, fun i => i = w.heap.size + 1, rfl, .inr ⟨w.heap.size + 1, 0, 0, .nilFunc, rfl, SetB.ended rfl (fun i (e : i = w.heap.size + 1) => by simp; omega) ?_⟩, ((Kept.refl F w).alloc _).alloc _, fun i (e : i = w.heap.size + 1) => .inr (by omega)⟩
  have := Blk.new (w.alloc o) 71 #[.int .i64 0, .int .i64 0, .nilFunc]
  simpa using this
set_option maxHeartbeats 8000000 in
set_option maxRecDepth 100000 in
theorem seAnd_any {Leaf Q : MvP} (hL : MovesOk Leaf) (hQ : MovesOk Q) (w : World) (F : Nat → Prop) (A : Option Addr) (n c : Nat) (X : List SV) (hk : Kids Q w X) (hF : ∀ x ∈ X, ∀ b, x.F b → F b) (hlt : ∀ b, F b → b < w.heap.size) (hs : Src w A n (X.map fun x => Value.pointer x.p)) (hA : ∀ ad, A = some ad → 0 < n → ad.block < w.heap.size) (hn : n ≤ 1000000) :
    Calls Try.prog 20 #[.slice A n c] w (SetMade (MvAll Leaf Q) w F (andL (X.map SV.l))) := by
  have hlen : X.length = n := by have := hs.len; simpa using this
  obtain ⟨w1, hw1⟩ : ∃ z, z = w.alloc (.cells #[.slice A n c] 60) := ⟨_, rfl⟩
  have hb1 : Below w.heap.size w w1 := by rw [hw1]; exact (Below.refl _ w).alloc (Nat.le_refl _) _
  have hz1 : w1.heap.size = w.heap.size + 1 := by rw [hw1]; simp
  have HW1 := Lib.hid hw1
  by_cases hn0 : n = 0
  · subst hn0
    have hX : X = [] := List.eq_nil_of_length_eq_zero hlen
    subst hX
    clear hk hF hs hA hlen hw1
    go_enter Try.func20, Try.ntmps20
    go_wp2
    go_ret
    exact made_none w F _
  · have hcl := cloneSets_any w1 A n c _ (hs.keep (w' := w1) fun ad e h0 => hb1.block _ (hA ad e h0)) (ptrs_one X) (fun ad e h0 => by have := hA ad e h0; omega) hn
    have d1 : ((n : Int) == 0) = false := beq_eq_false_iff_ne.2 (by omega)
    have h1 : Blk w1 w.heap.size 60 #[.slice A n c] := by rw [hw1]; exact Blk.new _ _ _
    have HCL := Lib.hid hcl
    have HK := Lib.hid hk
    have HF := Lib.hid hF
    have HLT := Lib.hid hlt
    have HBK := Lib.hid h1
    have HLEN := Lib.hid hlen
    have hnp : 0 < n := by omega
    clear hcl hk hF hlt hs hA hw1 h1 hlen hn0
    go_enter Try.func20, Try.ntmps20
    go_wp2_with fail
    rw [← HW1.out]
    refine HCL.out.mono ?_
    rintro e w2 ⟨v, rfl, ho, hb2⟩
    rw [← HLEN.out] at ho
    obtain ⟨w3, hw3⟩ : ∃ z, z = w2.setCell ⟨w.heap.size, 0, none⟩ v := ⟨_, rfl⟩
    obtain ⟨⟨A', c', rfl, hrow⟩, hb3⟩ := row_new hQ HK.out HF.out HLT.out (by rw [HLEN.out]; exact hn) _ HW1.out ho hb2 hw3
    have hbk2 := HBK.out.below hb2 (by omega)
    have y0 := hbk2.cell 0
    have x0 := hbk2.frozen 0
    simp only [List.getElem?_toArray, List.getElem?_cons_zero] at y0
    have hup : Up (andL (X.map SV.l)) := up_and fun l hl => by
      obtain ⟨x, hx, rfl⟩ := List.mem_map.1 hl
      exact (HK.out.each x hx).up
    have hbeg := seBegin_any (hL.all hQ) (.inr (.inr (.inr (.inl ⟨_, _, _, X, rfl, hrow, by rw [HLEN.out]; exact hnp, rfl⟩)))) hup
    unfold at0 at hbeg
    have HBEG := Lib.hid (hbeg.mono fun e w' h => made_out hb3 h)
    have HW3 := Lib.hid hw3
    clear ho hb2 hb3 hrow hbk2 hup hbeg hw3
    go_wp2_with fail
    rw [← HW3.out]
    refine HBEG.out.mono ?_
    rintro e w4 ⟨b, F', rfl, h1, h2, h3⟩
    have HP := Lib.hid (And.intro h1 (And.intro h2 h3))
    clear h1 h2 h3
    go_wp2
    go_ret
    exact ⟨b, F', rfl, HP.out.1, HP.out.2.1, HP.out.2.2⟩
set_option maxHeartbeats 8000000 in
set_option maxRecDepth 100000 in
theorem seLess_any {Leaf Q : MvP} (hL : MovesOk Leaf) (hQ : MovesOk Q) (w : World) (F : Nat → Prop) (x y : SV) (hk : Kids Q w [x, y]) (hF : ∀ v ∈ [x, y], ∀ b, v.F b → F b) (hlt : ∀ b, F b → b < w.heap.size) :
    Calls Try.prog 23 #[.pointer x.p, .pointer y.p] w (SetMade (MvAll Leaf Q) w F (lessI x.l y.l)) := by
  obtain ⟨w3, hw3⟩ : ∃ z, z = (w.alloc (.cells #[.pointer x.p] 28)).alloc (.cells #[.pointer y.p] 28) := ⟨_, rfl⟩
  have hb3 : Below w.heap.size w w3 := by rw [hw3]; exact ((Below.refl _ w).alloc (Nat.le_refl _) _).alloc (by simp) _
  have hz3 : w3.heap.size = w.heap.size + 1 + 1 := by rw [hw3]; simp
  have hpair : PairK Q w3 (fun i => F i ∨ w.heap.size ≤ i ∧ i < w3.heap.size) w.heap.size (w.heap.size + 1) x y := by
    refine ⟨?_, ?_, hk.keep hQ (fun v hv b hb => hb3.block b (hlt b (hF v hv b hb))) hb3.size, fun v hv b hb => ⟨.inl (hF v hv b hb), ?_, ?_⟩, .inr ⟨Nat.le_refl _, by omega⟩, .inr ⟨by omega, by omega⟩, fun i hi => ?_⟩
    · rw [hw3]; exact (Blk.new _ _ _).alloc _
    · rw [hw3]
      have := Blk.new (w.alloc (.cells #[.pointer x.p] 28)) 28 #[.pointer y.p]
      simpa using this
    · have := hlt b (hF v hv b hb); omega
    · have := hlt b (hF v hv b hb); omega
    · rcases hi with hi | hi
      · have := hlt i hi; omega
      · exact hi.2
  have hbeg := seBegin_any (hL.all hQ) (.inr (.inr (.inr (.inr (.inr ⟨_, _, x, y, rfl, hpair, rfl⟩))))) (hk.each x (by simp)).up.lessI
  unfold at0 at hbeg
  have HBEG := Lib.hid (hbeg.mono fun e w' h => made_out hb3 h)
  have HW3 := Lib.hid hw3
  clear hk hF hlt hb3 hpair hbeg hw3
  go_enter Try.func23, Try.ntmps23
  go_wp2_with fail
  rw [← HW3.out]
  refine HBEG.out.mono ?_
  rintro e w4 ⟨b, F', rfl, h1, h2, h3⟩
  have HP := Lib.hid (And.intro h1 (And.intro h2 h3))
  clear h1 h2 h3
  go_wp2
  go_ret
  exact ⟨b, F', rfl, HP.out.1, HP.out.2.1, HP.out.2.2⟩
end Go.Proofs.Ytkligdaademakaa
namespace Go.Proofs.Ytkligdaademakaa
open Go.RowKit Go.Maps Go.WideMaps Go.Shelf
set_option linter.unusedSimpArgs false

set_option maxHeartbeats 8000000 in
set_option maxRecDepth 100000 in
theorem orFew_any {Leaf Q : MvP} (hL : MovesOk Leaf) (hQ : MovesOk Q) (w : World) (F : Nat → Prop) (A : Option Addr) (n c : Nat) (X : List SV) (hk : Kids Q w X) (hF : ∀ x ∈ X, ∀ b, x.F b → F b) (hlt : ∀ b, F b → b < w.heap.size) (hs : Src w A n (X.map fun x => Value.pointer x.p)) (hA : ∀ ad, A = some ad → 0 < n → ad.block < w.heap.size) (hn : n < 4) :
    Calls Try.prog 22 #[.slice A n c] w (SetMade (MvAll Leaf Q) w F (orL (X.map SV.l))) := by
  have hlen : X.length = n := by have := hs.len; simpa using this
  obtain ⟨w1, hw1⟩ : ∃ z, z = w.alloc (.cells #[.slice A n c] 60) := ⟨_, rfl⟩
  have hb1 : Below w.heap.size w w1 := by rw [hw1]; exact (Below.refl _ w).alloc (Nat.le_refl _) _
  have hz1 : w1.heap.size = w.heap.size + 1 := by rw [hw1]; simp
  have HW1 := Lib.hid hw1
  have hcl := cloneSets_any w1 A n c _ (hs.keep (w' := w1) fun ad e h0 => hb1.block _ (hA ad e h0)) (ptrs_one X) (fun ad e h0 => by have := hA ad e h0; omega) (by omega)
  have h1 : Blk w1 w.heap.size 60 #[.slice A n c] := by rw [hw1]; exact Blk.new _ _ _
  have HCL := Lib.hid hcl
  have HK := Lib.hid hk
  have HF := Lib.hid hF
  have HLT := Lib.hid hlt
  have HBK := Lib.hid h1
  have HLEN := Lib.hid hlen
  clear hcl hk hF hlt hs hA hw1 h1 hlen
  go_enter Try.func22, Try.ntmps22
  go_wp2_with fail
  rw [← HW1.out]
  refine HCL.out.mono ?_
  rintro e w2 ⟨v, rfl, ho, hb2⟩
  rw [← HLEN.out] at ho
  obtain ⟨w3, hw3⟩ : ∃ z, z = w2.setCell ⟨w.heap.size, 0, none⟩ v := ⟨_, rfl⟩
  obtain ⟨⟨A', c', rfl, hrow⟩, hb3⟩ := row_new hQ HK.out HF.out HLT.out (by rw [HLEN.out]; omega) _ HW1.out ho hb2 hw3
  have hbk2 := HBK.out.below hb2 (by omega)
  have y0 := hbk2.cell 0
  have x0 := hbk2.frozen 0
  simp only [List.getElem?_toArray, List.getElem?_cons_zero] at y0
  have hup : Up (orL (X.map SV.l)) := up_or fun l hl => by
    obtain ⟨x, hx, rfl⟩ := List.mem_map.1 hl
    exact (HK.out.each x hx).up
  have hbeg := seBegin_any (hL.all hQ) (.inr (.inr (.inr (.inr (.inl ⟨_, _, _, X, rfl, hrow, rfl⟩))))) hup
  unfold at0 at hbeg
  have HBEG := Lib.hid (hbeg.mono fun e w' h => made_out hb3 h)
  have HW3 := Lib.hid hw3
  clear ho hb2 hb3 hrow hbk2 hup hbeg hw3
  go_wp2_with fail
  rw [← HW3.out]
  refine HBEG.out.mono ?_
  rintro e w4 ⟨b, F', rfl, h1, h2, h3⟩
  have HP := Lib.hid (And.intro h1 (And.intro h2 h3))
  clear h1 h2 h3
  go_wp2
  go_ret
  exact ⟨b, F', rfl, HP.out.1, HP.out.2.1, HP.out.2.2⟩

set_option maxRecDepth 100000 in
theorem sets_size (w : World) : (sizeOf (Try.prog.elem 60)).run Try.prog w = .ok 1 w := by
  obtain ⟨i0, hi, hz0, hz1, hz2⟩ := info_parts setsInfo
  rw [show Try.prog.elem 60 = 28 by kernel_rfl, run_sizeOf w hi]
  unfold Program.cellsOf
  rw [hi]
  simp [hz1]
set_option maxRecDepth 100000 in
theorem sets_from (w : World) (A : Option Addr) (n c p : Nat) (hp : p ≤ n) : (Instr.slice 60 (.slice A n c) (some (.int .i64 p)) none none).run Try.prog w = .ok (.slice (cutAddr A p c) (n - p) (c - p)) w := by
  rw [run_slice_l (P := Try.prog) (w := w) 60 A n c Try.underlying60 .i64 p (by omega) (by omega), sets_size]
  simp [Result.andThen, sliced, cutAddr]
set_option maxRecDepth 100000 in
theorem sets_to (w : World) (A : Option Addr) (n c p : Nat) (hp : p ≤ c) : (Instr.slice 60 (.slice A n c) none (some (.int .i64 p)) none).run Try.prog w = .ok (.slice A p c) w := by
  rw [run_slice_h (P := Try.prog) (w := w) 60 A n c Try.underlying60 .i64 p (by omega) (by omega), sets_size]
  by_cases h : c = 0
  · subst h
    obtain rfl : p = 0 := by omega
    cases A <;> simp [Result.andThen, sliced, Addr.add]
  · cases A <;> simp [Result.andThen, sliced, Addr.add]
theorem orL_halves {X : List (List Int)} (h : ∀ l ∈ X, Up l) (k : Nat) : orL [orL (X.take k), orL (X.drop k)] = orL X := by
  have h1 : Up (orL (X.take k)) := up_or fun l hl => h l (List.mem_of_mem_take hl)
  have h2 : Up (orL (X.drop k)) := up_or fun l hl => h l (List.mem_of_mem_drop hl)
  have h3 : ∀ l ∈ [orL (X.take k), orL (X.drop k)], Up l := fun l hl => by
    simp only [List.mem_cons, List.not_mem_nil, or_false] at hl
    rcases hl with rfl | rfl
    · exact h1
    · exact h2
  refine (up_or h3).ext (up_or h) fun z => ?_
  rw [mem_orL h3, mem_orL h]
  simp only [List.mem_cons, List.not_mem_nil, or_false, exists_eq_or_imp, exists_eq_left]
  rw [mem_orL (fun l hl => h l (List.mem_of_mem_take hl)), mem_orL (fun l hl => h l (List.mem_of_mem_drop hl))]
  constructor
  · rintro (⟨l, hl, hz⟩ | ⟨l, hl, hz⟩)
    · exact ⟨l, List.mem_of_mem_take hl, hz⟩
    · exact ⟨l, List.mem_of_mem_drop hl, hz⟩
  · rintro ⟨l, hl, hz⟩
    rw [← List.take_append_drop k X] at hl
    rcases List.mem_append.1 hl with hl | hl
    · exact .inl ⟨l, hl, hz⟩
    · exact .inr ⟨l, hl, hz⟩
/-- Or of n sets. -/
def OrOk (Leaf : MvP) (n : Nat) : Prop := ∀ (w : World) (F : Nat → Prop) (A : Option Addr) (c : Nat) (X : List SV) (k : Nat), Kids (QD Leaf k) w X → (∀ x ∈ X, ∀ b, x.F b → F b) → (∀ b, F b → b < w.heap.size) → Src w A n (X.map fun x => Value.pointer x.p) → (∀ ad, A = some ad → 0 < n → ad.block < w.heap.size ∧ ∀ x ∈ X, ¬ x.F ad.block) → n ≤ c → n ≤ 1000000 →
  Calls Try.prog 22 #[.slice A n c] w fun e w' => ∃ j, SetMade (QD Leaf j) w F (orL (X.map SV.l)) e w'
theorem Kids.take {Q : MvP} {w : World} {X : List SV} (h : Kids Q w X) (k : Nat) : Kids Q w (X.take k) := ⟨fun x hx => h.each x (List.mem_of_mem_take hx), h.apart.sublist (List.take_sublist k X)⟩
theorem Kids.drop {Q : MvP} {w : World} {X : List SV} (h : Kids Q w X) (k : Nat) : Kids Q w (X.drop k) := ⟨fun x hx => h.each x (List.mem_of_mem_drop hx), h.apart.sublist (List.drop_sublist k X)⟩
theorem Kids.halves {Q : MvP} {w : World} {X : List SV} (h : Kids Q w X) (k : Nat) : ∀ b, kidsF (X.take k) b → ¬ kidsF (X.drop k) b := by
  have hp := h.apart
  rw [← List.take_append_drop k X, List.pairwise_append] at hp
  rintro b ⟨x, hx, hf⟩ ⟨y, hy, hg⟩
  exact hp.2.2 x hx y hy b hf hg
theorem Src.take' {w : World} {A : Option Addr} {n : Nat} {xs : List Value} (h : Src w A n xs) {k : Nat} (hk : k ≤ n) (hA : A ≠ none) : Src w A k (xs.take k) := by
  have hl := h.len
  refine ⟨by rw [List.length_take]; omega, fun ad e j u hu => ?_, fun e => absurd e hA⟩
  rw [List.getElem?_take] at hu
  split at hu
  · exact h.cells ad e j u hu
  · cases hu
theorem Src.drop' {w : World} {ad : Addr} {n c : Nat} {xs : List Value} (h : Src w (some ad) n xs) {k : Nat} (hk : k < n) (hc : n ≤ c) : Src w (cutAddr (some ad) k c) (n - k) (xs.drop k) ∧ ∀ ad', cutAddr (some ad) k c = some ad' → ad'.block = ad.block := by
  have hl := h.len
  have hck : ¬ c = k := by omega
  unfold cutAddr
  rw [if_neg hck]
  refine ⟨⟨by rw [List.length_drop]; omega, fun a e j u hu => ?_, fun e => by simp at e⟩, fun a e => ?_⟩
  · simp at e
    subst e
    rw [Go.Deep.add_add]
    refine h.cells ad rfl (k + j) u ?_
    rw [List.getElem?_drop] at hu
    exact hu
  · simp at e
    subst e
    unfold Addr.add; split <;> rfl
set_option maxHeartbeats 8000000 in
set_option maxRecDepth 100000 in
theorem orMany_any {Leaf : MvP} (hL : MovesOk Leaf) {n : Nat} (hn : 4 ≤ n) (ih : ∀ m, m < n → OrOk Leaf m) : OrOk Leaf n := by
  intro w F A c X k hk hF hlt hs hA hc hn2
  have hlen : X.length = n := by have := hs.len; simpa using this
  have hups : ∀ l ∈ X.map SV.l, Up l := fun l hl => by
    obtain ⟨x, hx, rfl⟩ := List.mem_map.1 hl
    exact (hk.each x hx).up
  obtain ⟨ad, rfl⟩ : ∃ ad, A = some ad := by
    cases hA' : A with
    | none => rw [hA'] at hs; have := hs.nil rfl; omega
    | some ad => exact ⟨ad, rfl⟩
  obtain ⟨h, hh⟩ : ∃ h : Nat, h = n / 2 := ⟨_, rfl⟩
  have hhi : (n : Int) / 2 = (h : Int) := by omega
  have hh2 : 1 < h ∧ h < n := by omega
  have hhd : decide ((1 : Int) < (h : Int)) = true := decide_eq_true (by omega)
  clear hh
  obtain ⟨w1, hw1⟩ : ∃ z, z = w.alloc (.cells #[.slice (some ad) n c] 60) := ⟨_, rfl⟩
  have hb1 : Below w.heap.size w w1 := by rw [hw1]; exact (Below.refl _ w).alloc (Nat.le_refl _) _
  have hz1 : w1.heap.size = w.heap.size + 1 := by rw [hw1]; simp
  have h1 : Blk w1 w.heap.size 60 #[.slice (some ad) n c] := by rw [hw1]; exact Blk.new _ _ _
  obtain ⟨hadl, hadn⟩ := hA ad rfl (by omega)
  have hs1 : Src w1 (some ad) n (X.map fun x => Value.pointer x.p) := hs.keep fun ad' e h0 => hb1.block _ (hA ad' e h0).1
  have hk1 : Kids (QD Leaf k) w1 X := hk.keep (qd_ok hL k) (fun x hx b hb => hb1.block b (hlt b (hF x hx b hb))) hb1.size
  have q1 := fun w => sets_to w (some ad) n c h (by omega)
  have q2 := fun w => sets_from w (some ad) n c h (by omega)
  obtain ⟨A2, hA2⟩ : ∃ z, z = cutAddr (some ad) h c := ⟨_, rfl⟩
  obtain ⟨n2, hn3⟩ : ∃ z, z = n - h := ⟨_, rfl⟩
  obtain ⟨c2, hc2⟩ : ∃ z, z = c - h := ⟨_, rfl⟩
  have hdr := hs1.drop' hh2.2 hc
  rw [← hA2, ← hn3, ← hc2] at q2
  rw [← hA2, ← hn3] at hdr
  have hn4 : n2 < n ∧ n2 ≤ c2 := by omega
  -- the first half
  have hor1 := ih h hh2.2 w1.drew (kidsF (X.take h)) (some ad) c (X.take h) k ((hk1.take h).keep (qd_ok hL k) (fun _ _ _ _ => rfl) (Nat.le_refl _)) (fun x hx b hb => ⟨x, hx, hb⟩) (fun b ⟨x, hx, hf⟩ => by have := hlt b (hF x (List.mem_of_mem_take hx) b hf); show b < w1.heap.size; omega) (by rw [List.map_take]; exact (hs1.take' (by omega) (by simp)).keep fun _ _ _ => rfl) (fun a e _ => by cases e; exact ⟨by show _ < w1.heap.size; omega, fun x hx => hadn x (List.mem_of_mem_take hx)⟩) (by omega) (by omega)
  have hkl : ∀ b, kidsF X b → b < w.heap.size := fun b ⟨x, hx, hf⟩ => hlt b (hF x hx b hf)
  have HK1 := Lib.hid hk1
  have HKL := Lib.hid hkl
  have HF := Lib.hid hF
  have HS1 := Lib.hid hs1
  have HADN := Lib.hid hadn
  have HDR := Lib.hid hdr
  have HB1 := Lib.hid hb1
  have HBK := Lib.hid h1
  have HW1 := Lib.hid hw1
  have HOR1 := Lib.hid hor1
  have HUPS := Lib.hid hups
  have HLEN := Lib.hid hlen
  have HIH := Lib.hid ih
  have HN3 := Lib.hid hn3
  have y0 := h1.cell 0
  simp only [List.getElem?_toArray, List.getElem?_cons_zero] at y0
  have HY0 := Lib.hid y0
  rw [HW1.out] at y0
  clear hk hF hlt hs hA hadn hw1 hb1 h1 hs1 hk1 hdr hor1 hkl hups hlen ih hA2 hn3 hc2
  go_enter Try.func22, Try.ntmps22
  go_wp2_with fail
  rw [← HW1.out]
  go_wp2_with fail
  refine wp_region_held_drew (S := fun w' => w'.cell? ⟨w.heap.size, 0, none⟩ = some (.slice (some ad) n c)) (by kernel_rfl) ?_ (fun hHeld => ?_)
  · exact HY0.out
  refine wpAnyH_take (i := 0) (oi := ?oim0) (v := ?vm0) ?him0 (by kernel_rfl) (by kernel_rfl) (by kernel_rfl) ?hQm0 (Or.inl ⟨?hwm0, ?hym0⟩) (by assumption) ?restm0
  case him0 => (first | (simp only [List.getElem?_toArray, List.getElem?_cons_zero, List.getElem?_cons_succ]; rfl) | rfl)
  case hQm0 => exact fun _ _ _ h => h
  case hwm0 => rfl
  case hym0 => ((intro w hSw; go_simp); first | done | with_reducible rfl)
  try simp only [Act.put, List.setIfInBounds_toArray, List.set_cons_zero, List.set_cons_succ]
  refine wpAnyH_take (i := 1) (oi := ?oim1) (v := ?vm1) ?him1 (by kernel_rfl) (by kernel_rfl) (by kernel_rfl) ?hQm1 (Or.inl ⟨?hwm1, ?hym1⟩) (by assumption) ?restm1
  case him1 => (first | (simp only [List.getElem?_toArray, List.getElem?_cons_zero, List.getElem?_cons_succ]; rfl) | rfl)
  case hQm1 => exact fun _ _ _ h => h
  case hwm1 => rfl
  case hym1 => ((intro w hSw; go_simp); first | done | with_reducible rfl)
  try simp only [Act.put, List.setIfInBounds_toArray, List.set_cons_zero, List.set_cons_succ]
  refine wpAnyH_take (i := 2) (oi := ?oim2) (v := ?vm2) ?him2 (by kernel_rfl) (by kernel_rfl) (by kernel_rfl) ?hQm2 (Or.inl ⟨?hwm2, ?hym2⟩) (by assumption) ?restm2
  case him2 => (first | (simp only [List.getElem?_toArray, List.getElem?_cons_zero, List.getElem?_cons_succ]; rfl) | rfl)
  case hQm2 => exact fun _ _ _ h => h
  case hwm2 => rfl
  case hym2 => ((intro w hSw; go_simp); first | done | with_reducible rfl)
  try simp only [Act.put, List.setIfInBounds_toArray, List.set_cons_zero, List.set_cons_succ]
  refine wpAnyH_take (i := 4) (oi := ?oim4) (v := ?vm4) ?him4 (by kernel_rfl) (by kernel_rfl) (by kernel_rfl) ?hQm4 (Or.inl ⟨?hwm4, ?hym4⟩) (by assumption) ?restm4
  case him4 => (first | (simp only [List.getElem?_toArray, List.getElem?_cons_zero, List.getElem?_cons_succ]; rfl) | rfl)
  case hQm4 => exact fun _ _ _ h => h
  case hwm4 => rfl
  case hym4 => ((intro w hSw; go_simp); first | done | with_reducible rfl)
  try simp only [Act.put, List.setIfInBounds_toArray, List.set_cons_zero, List.set_cons_succ]
  refine wpAnyH_take (i := 5) (oi := ?oim5) (v := ?vm5) ?him5 (by kernel_rfl) (by kernel_rfl) (by kernel_rfl) ?hQm5 (Or.inl ⟨?hwm5, ?hym5⟩) (by assumption) ?restm5
  case him5 => (first | (simp only [List.getElem?_toArray, List.getElem?_cons_zero, List.getElem?_cons_succ]; rfl) | rfl)
  case hQm5 => exact fun _ _ _ h => h
  case hwm5 => rfl
  case hym5 => ((intro w hSw; go_simp); first | done | with_reducible rfl)
  try simp only [Act.put, List.setIfInBounds_toArray, List.set_cons_zero, List.set_cons_succ]
  refine wpAnyH_take (i := 6) (oi := ?oim6) (v := ?vm6) ?him6 (by kernel_rfl) (by kernel_rfl) (by kernel_rfl) ?hQm6 (Or.inl ⟨?hwm6, ?hym6⟩) (by assumption) ?restm6
  case him6 => (first | (simp only [List.getElem?_toArray, List.getElem?_cons_zero, List.getElem?_cons_succ]; rfl) | rfl)
  case hQm6 => exact fun _ _ _ h => h
  case hwm6 => rfl
  case hym6 => ((intro w hSw; go_simp); first | done | with_reducible rfl)
  try simp only [Act.put, List.setIfInBounds_toArray, List.set_cons_zero, List.set_cons_succ]
  refine wpAnyH_ready (rs := [3]) (by kernel_rfl) (by simp) ?_
  refine AllReadyH.cons (o := ?oa) ?hca ?sta AllReadyH.nil
  case hca => (simp only [List.getElem?_toArray, List.getElem?_cons_zero, List.getElem?_cons_succ]; rfl)
  intro K hK
  go_simp
  refine HOR1.out.mono ?_
  rintro e w2 ⟨j1, b1, F1, rfl, g1, g2, g3⟩
  have hzd : w1.drew.heap.size = w1.heap.size := rfl
  have hz2 := g2.size
  rw [hzd] at hz2
  have hh1 := HK1.out.halves h
  have hd2 : ∀ b, kidsF (X.drop h) b → b < w.heap.size ∧ ¬ kidsF (X.take h) b := fun b hb => ⟨HKL.out b (by obtain ⟨x, hx, hf⟩ := hb; exact ⟨x, List.mem_of_mem_drop hx, hf⟩), fun e => hh1 b e hb⟩
  have hd1 : ∀ b, kidsF (X.take h) b → b < w.heap.size := fun b hb => HKL.out b (by obtain ⟨x, hx, hf⟩ := hb; exact ⟨x, List.mem_of_mem_take hx, hf⟩)
  have hbk2 : Blk w2 w.heap.size 60 #[.slice (some ad) n c] := (HBK.out.drew).kept g2 (fun e => by have := hd1 _ e; omega)
  have y2 := hbk2.cell 0
  simp only [List.getElem?_toArray, List.getElem?_cons_zero] at y2
  have hsrc2 : Src w2 A2 n2 ((X.map fun x => Value.pointer x.p).drop h) := HDR.out.1.keep fun a e _ => by
    rw [HDR.out.2 a e]
    exact g2.block _ (by rw [hzd]; omega) (fun ⟨x, hx, hf⟩ => HADN.out x (List.mem_of_mem_take hx) hf)
  have hkd2 : Kids (QD Leaf k) w2 (X.drop h) := (HK1.out.drop h).keep (qd_ok hL k) (fun x hx b hb => g2.block b (by rw [hzd]; have := (hd2 b ⟨x, hx, hb⟩).1; omega) (hd2 b ⟨x, hx, hb⟩).2) (by omega)
  have HOR2 := Lib.hid (HIH.out n2 hn4.1 w2 (kidsF (X.drop h)) A2 c2 (X.drop h) k hkd2 (fun x hx b hb => ⟨x, hx, hb⟩) (fun b hb => by have := (hd2 b hb).1; omega) (by rw [List.map_drop]; exact hsrc2) (fun a e _ => by rw [HDR.out.2 a e]; exact ⟨by omega, fun x hx => HADN.out x (List.mem_of_mem_drop hx)⟩) hn4.2 (by omega))
  have G1 := Lib.hid g1
  have G2 := Lib.hid g2
  have G3 := Lib.hid g3
  have HD1 := Lib.hid hd1
  have HD2 := Lib.hid hd2
  have HBK2 := Lib.hid hbk2
  clear g1 g2 g3 hd1 hd2 hh1 hbk2 hsrc2 hkd2
  go_wp2_with fail
  refine hK.out _ _ y2 (fun _ => ?_)
  clear hK K
  refine wpAnyH_ready (rs := [7]) (by kernel_rfl) (by simp) ?_
  refine AllReadyH.cons (o := ?ob) ?hcb ?stb AllReadyH.nil
  case hcb => (simp only [List.getElem?_toArray, List.getElem?_cons_zero, List.getElem?_cons_succ]; rfl)
  intro K hK
  go_simp
  refine HOR2.out.mono ?_
  rintro e w3 ⟨j2, b2, F2, rfl, g4, g5, g6⟩
  have hz3 := g5.size
  have hbk3 : Blk w3 w.heap.size 60 #[.slice (some ad) n c] := HBK2.out.kept g5 (fun e => by have := (HD2.out _ e).1; omega)
  have y3 := hbk3.cell 0
  simp only [List.getElem?_toArray, List.getElem?_cons_zero] at y3
  have HBK3 := Lib.hid hbk3
  have G4 := Lib.hid g4
  have G5 := Lib.hid g5
  have G6 := Lib.hid g6
  clear g4 g5 g6 hbk3
  go_wp2_with fail
  refine hK.out _ _ y3 (fun _ => ?_)
  clear hK K
  have hs4 : w3.heap.size < (w3.alloc (.cells #[.pointer (some ⟨b1, 0, none⟩), .pointer (some ⟨b2, 0, none⟩)] 28)).heap.size := by simp
  obtain ⟨w4, hw4⟩ : ∃ z, z = w3.alloc (.cells #[.pointer (some ⟨b1, 0, none⟩), .pointer (some ⟨b2, 0, none⟩)] 28) := ⟨_, rfl⟩
  have hb4 : Below w3.heap.size w3 w4 := by rw [hw4]; exact (Below.refl _ w3).alloc (Nat.le_refl _) _
  have y4 := below_cells hb4 y3
  have hf1 : ∀ b, F1 b → (kidsF (X.take h) b ∨ w1.heap.size ≤ b) ∧ b < w2.heap.size := fun b hb => ⟨G3.out b hb, G1.out.lt b hb⟩
  have hf2 : ∀ b, F2 b → (kidsF (X.drop h) b ∨ w2.heap.size ≤ b) ∧ b < w3.heap.size := fun b hb => ⟨G6.out b hb, G4.out.lt b hb⟩
  have hy1 : SetLv (QD Leaf (max j1 j2)) w4 F1 (some ⟨b1, 0, none⟩) (orL ((X.take h).map SV.l)) := by
    refine SetLv.mono (fun h => qd_le (by omega) h) (G1.out.keep (qd_ok hL j1) (fun b hb => ?_) (by have := hb4.size; omega))
    have h1 := hf1 b hb
    rw [hb4.block b (by omega)]
    exact G5.out.block b h1.2 (fun e => by
      have h3 := HD2.out b e
      rcases h1.1 with h2 | h2
      · exact h3.2 h2
      · omega)
  have hy2 : SetLv (QD Leaf (max j1 j2)) w4 F2 (some ⟨b2, 0, none⟩) (orL ((X.drop h).map SV.l)) :=
    SetLv.mono (fun h => qd_le (by omega) h) (G4.out.keep (qd_ok hL j2) (fun b hb => hb4.block b (hf2 b hb).2) hb4.size)
  have hkids : Kids (QD Leaf (max j1 j2)) w4 [⟨some ⟨b1, 0, none⟩, orL ((X.take h).map SV.l), F1⟩, ⟨some ⟨b2, 0, none⟩, orL ((X.drop h).map SV.l), F2⟩] := by
    refine ⟨fun x hx => ?_, ?_⟩
    · simp only [List.mem_cons, List.not_mem_nil, or_false] at hx
      rcases hx with rfl | rfl
      · exact hy1
      · exact hy2
    · simp only [List.pairwise_cons, List.mem_singleton, forall_eq, List.not_mem_nil, false_implies, implies_true, List.Pairwise.nil, and_true]
      intro b q1 q2
      have h1 := hf1 b q1
      have h2 := hf2 b q2
      rcases h2.1 with h3 | h3
      · have h4 := HD2.out b h3
        rcases h1.1 with h5 | h5
        · exact h4.2 h5
        · omega
      · omega
  have hsrc4 : Src w4 (some ⟨w3.heap.size, 0, none⟩) 2 [.pointer (some ⟨b1, 0, none⟩), .pointer (some ⟨b2, 0, none⟩)] := by
    refine ⟨rfl, fun a e j u hu => ?_, fun e => by cases e⟩
    cases e
    have e2 : (⟨w3.heap.size, 0, none⟩ : Addr).add j = ⟨w3.heap.size, j, none⟩ := by
      unfold Addr.add
      split
      · rename_i h0; rw [h0]
      · simp
    rw [e2, hw4, cell_of_row _ w3.heap.size j _ 28 (0, 0) (heap_alloc_new w3 _)]
    simpa using hu
  have hor3 := HIH.out 2 (by omega) w4 (fun i => F1 i ∨ F2 i) (some ⟨w3.heap.size, 0, none⟩) 2 _ (max j1 j2) hkids (fun x hx b hb => by
    simp only [List.mem_cons, List.not_mem_nil, or_false] at hx
    rcases hx with rfl | rfl
    · exact .inl hb
    · exact .inr hb) (fun b hb => by
    have := hb4.size
    rcases hb with hb | hb
    · have := hf1 b hb; omega
    · have := hf2 b hb; omega) hsrc4 (fun a e _ => by
    cases e
    refine ⟨by rw [hw4]; exact hs4, fun x hx hf => ?_⟩
    simp only [List.mem_cons, List.not_mem_nil, or_false] at hx
    rcases hx with rfl | rfl
    · have := hf1 _ hf; simp only at this; omega
    · have := hf2 _ hf; simp only at this; omega) (Nat.le_refl _) (by omega)
  have hor := orL_halves HUPS.out h
  rw [← List.map_take, ← List.map_drop] at hor
  simp only [List.map_cons, List.map_nil, hor] at hor3
  have hfin : ∀ e w', (∃ j, SetMade (QD Leaf j) w4 (fun i => F1 i ∨ F2 i) (orL (X.map SV.l)) e w') → (∃ j, SetMade (QD Leaf j) w F (orL (X.map SV.l)) e w') ∧ w'.cell? ⟨w.heap.size, 0, none⟩ = some (.slice (some ad) n c) := by
    rintro e w' ⟨j, b, F', r1, r2, r3, r4⟩
    have hk2 : Kept F w w2 := (Kept.below HB1.out).trans (F' := kidsF (X.take h)) (G2.out.1 |> fun _ => ⟨G2.out.os, G2.out.tape, G2.out.output, G2.out.size, G2.out.block⟩) (fun i _ ⟨x, hx, hf⟩ => HF.out x (List.mem_of_mem_take hx) i hf)
    have hk3 : Kept F w w3 := hk2.trans G5.out (fun i _ ⟨x, hx, hf⟩ => HF.out x (List.mem_of_mem_drop hx) i hf)
    have hk4 : Kept F w w4 := hk3.trans (F' := fun _ => False) (Kept.below hb4) (fun _ _ e => e.elim)
    have hz4 := hb4.size
    have hsub : ∀ i, F1 i ∨ F2 i → F i ∨ w.heap.size ≤ i := fun i hi => by
      rcases hi with hi | hi
      · rcases (hf1 i hi).1 with ⟨x, hx, hf⟩ | h2
        · exact .inl (HF.out x (List.mem_of_mem_take hx) i hf)
        · right; omega
      · rcases (hf2 i hi).1 with ⟨x, hx, hf⟩ | h2
        · exact .inl (HF.out x (List.mem_of_mem_drop hx) i hf)
        · right; omega
    have hcell : w'.cell? ⟨w.heap.size, 0, none⟩ = some (.slice (some ad) n c) := by
      rw [World.cell?_of_block (r3.block w.heap.size (by omega) (fun e => by
        rcases e with e | e
        · rcases (hf1 _ e).1 with h2 | h2
          · have := HD1.out _ h2; omega
          · omega
        · rcases (hf2 _ e).1 with h2 | h2
          · have := (HD2.out _ h2).1; omega
          · omega))]
      exact y4
    refine ⟨⟨j, b, F', r1, r2, hk4.trans r3 (fun i hi h2 => (hsub i h2).elim id (fun h3 => by omega)), fun i hi => ?_⟩, ?_⟩
    · rcases r4 i hi with h2 | h2
      · exact hsub i h2
      · right; omega
    · exact hcell
  have HOR3 := Lib.hid (hor3.mono hfin)
  have HW4 := Lib.hid hw4
  clear hs4 hb4 hf1 hf2 hy1 hy2 hkids hsrc4 hor3 hor hfin
  rw [hw4] at y4
  clear hw4
  refine wpAnyH_ready (rs := [8]) (by kernel_rfl) (by simp) ?_
  refine AllReadyH.cons (o := ?oc) ?hcc ?stc AllReadyH.nil
  case hcc => (simp only [List.getElem?_toArray, List.getElem?_cons_zero, List.getElem?_cons_succ]; rfl)
  intro K hK
  go_simp
  refine hK.out _ _ y4 (fun _ => ?_)
  clear hK K
  try simp only [Act.put, List.setIfInBounds_toArray, List.set_cons_zero, List.set_cons_succ]
  rw [← HW4.out]
  rw [← HW4.out] at y4
  refine wpAnyH_ready (rs := [9]) (by kernel_rfl) (by simp) ?_
  refine AllReadyH.cons (o := ?od) ?hcd ?std AllReadyH.nil
  case hcd => (simp only [List.getElem?_toArray, List.getElem?_cons_zero, List.getElem?_cons_succ]; rfl)
  intro K hK
  go_simp
  refine HOR3.out.mono ?_
  rintro e w5 ⟨⟨j, b, F', rfl, r1, r2, r3⟩, y5⟩
  have R1 := Lib.hid (And.intro r1 (And.intro r2 r3))
  clear r1 r2 r3
  go_wp2_with fail
  refine hK.out _ _ y5 (fun _ => ?_)
  clear hK K
  refine wpAnyH_take (i := 10) (oi := ?oiz10) (v := ?vz10) ?hiz10 (by kernel_rfl) (by kernel_rfl) (by kernel_rfl) ?hQz10 (Or.inl ⟨?hwz10, ?hyz10⟩) (by assumption) ?restz10
  case hiz10 => (first | (simp only [List.getElem?_toArray, List.getElem?_cons_zero, List.getElem?_cons_succ]; rfl) | rfl)
  case hQz10 => exact fun _ _ _ h => h
  case hwz10 => rfl
  case hyz10 => ((intro w hSw; go_simp); first | done | with_reducible rfl)
  try simp only [Act.put, List.setIfInBounds_toArray, List.set_cons_zero, List.set_cons_succ]
  refine wpAnyH_done (by kernel_rfl) ?_ _
  go_wp2
  go_ret
  exact ⟨j, b, F', rfl, R1.out.1, R1.out.2.1, R1.out.2.2⟩
theorem or_ok {Leaf : MvP} (hL : MovesOk Leaf) (n : Nat) : OrOk Leaf n := by
  induction n using Nat.strongRecOn with
  | ind n ih =>
    rcases Nat.lt_or_ge n 4 with h | h
    · intro w F A c X k hk hF hlt hs hA hc hn2
      exact (orFew_any hL (qd_ok hL k) w F A n c X hk hF hlt hs (fun ad e h0 => (hA ad e h0).1) h).mono fun e w' h => ⟨k + 1, h⟩
    · exact orMany_any hL h ih
end Go.Proofs.Ytkligdaademakaa
namespace Go.Proofs.Ytkligdaademakaa
open Go.RowKit Go.Maps Go.WideMaps Go.Shelf
set_option linter.unusedSimpArgs false

set_option maxHeartbeats 4000000 in
set_option maxRecDepth 100000 in
theorem seGather_any {Q : MvP} (hQ : MovesOk Q) (w : World) (F : Nat → Prop) (p : Option Addr) (l : List Int) (h : SetLv Q w F p l) (hn : l.length ≤ 1000000) : Calls Try.prog 11 #[.pointer p] w fun e w' => ∃ A c, e = .returned (.slice A l.length c) ∧ l.length ≤ c ∧ IntsIn w' A l.length l ∧ (∀ ad, A = some ad → 0 < l.length → F ad.block ∨ w.heap.size ≤ ad.block) ∧ Kept F w w' := by
  obtain ⟨i0, hi, hz0, hz1, hz2⟩ := info_parts intInfo64
  have HD := Lib.hid (seDoc_any h)
  have HH := Lib.hid h
  have HU := Lib.hid h.up
  have HLT := Lib.hid h.lt
  clear h
  go_enter Try.func11, Try.ntmps11
  go_wp2_with fail
  refine HD.out.mono ?_
  rintro e w1 ⟨rfl, hw⟩
  rw [hw]
  clear hw
  go_wp2
  go_loopw [3, 4, 5] (fun v dv iv wr => ∃ (pre r : List Int) (F' : Nat → Prop), l = pre ++ r ∧ dv = .int .i64 (r.headD 0) ∧ iv = .bool (!r.isEmpty) ∧ SetLv Q wr F' p r ∧ Kept F w wr ∧ (∀ i, F' i → F i ∨ w.heap.size ≤ i) ∧ wr.ownsRow w.heap.size 2 1 v pre.length (pre.map i64V) ∧ ∀ g, v.ownBlock = some g → ¬ F' g) (fun _ dv iv _ => lessMeas dv iv)
  case atStart => exact ⟨[], l, F, rfl, by simp, rfl, HH.out, Kept.refl _ _, fun i hi => .inl hi, ⟨rfl, .inl ⟨rfl, rfl⟩⟩, fun g e => by simp [Value.ownBlock] at e⟩
  case round =>
    obtain ⟨pre, r, F', hl, rfl, rfl, hs, hk, hF, hO, hfar⟩ := hrel
    have HL := Lib.hid hl
    have HS := Lib.hid hs
    have HK := Lib.hid hk
    have HF := Lib.hid hF
    have HO := Lib.hid hO
    have HFAR := Lib.hid hfar
    have hzr := hk.size
    have hlen : pre.length + r.length = l.length := by rw [hl, List.length_append]
    clear hl hs hk hF hO hfar
    cases r with
    | nil =>
      have hpre : pre = l := by rw [HL.out, List.append_nil]
      obtain ⟨A, c, rfl, hc⟩ := own_cap HO.out
      have HPRE := Lib.hid hpre
      clear hpre hlen
      go_wp2
      go_ret
      rw [← HPRE.out]
      refine ⟨A, c, rfl, hc, IntsIn.own HO.out (by have := HPRE.out; rw [← this] at hn; unfold maxLen; omega) (fun x hx => ?_), fun ad e _ => .inr (HO.out.lt ad.block (by rw [e]; rfl)).1, HK.out⟩
      have hx2 : x ∈ l := by rw [← HPRE.out]; exact hx
      exact ⟨by have := HU.out.pos x hx2; omega, HU.out.most x hx2⟩
    | cons x r =>
      have hx : (x :: r).headD 0 = x := rfl
      have hxl : x ∈ l := by rw [HL.out]; simp
      have hup := HS.out.up
      have HUP := Lib.hid hup
      have hmem : ∀ y ∈ r, x < y := rises_gt (by have := hup.up; simp only [rises, Bool.and_eq_true, decide_eq_true_eq] at this; exact this.2)
      have HMEM := Lib.hid hmem
      have hpl : pre.length < 1000000 := by simp only [List.length_cons] at hlen; omega
      have hxm := HU.out.most x hxl
      obtain ⟨Av, cv, hv⟩ := own_slice HO.out
      subst hv
      clear hx hup hmem hlen hxl
      go_wp2_with (at_builtin; refine wpList_append_src _ rfl (.tmp 17) (.tmp 19) 26 rfl w.heap.size 2 i0 (.int .i64 0) 8 Try.underlying26 hi hz0 hz1 hz2 rfl _ pre.length _ rfl (World.ownsRow.alloc HO.out _) _ 1 1 _ rfl (one_int_src _ 2 x) (i64V_one [x]) (by unfold maxLen; omega) (by omega) (by simp; omega) ?_; intro v3 w3 hown hgrow hloc)
      have hk3 : Kept (fun g => (Value.slice Av pre.length cv).ownBlock = some g) wr w3 := ((Kept.refl _ wr).alloc _).grown hgrow (fun k e => .inl e)
      have hs3 : SetLv Q w3 F' p (x :: r) := HS.out.keep hQ (fun b hb => hk3.block b (HS.out.lt b hb) (fun e => HFAR.out b e hb)) hk3.size
      have hfar3 : ∀ g, v3.ownBlock = some g → ¬ F' g ∧ g < w3.heap.size := fun g e => ⟨fun hf => by
        rcases hloc with h1 | h1
        · have h2 : v3.ownBlock = (Value.slice Av pre.length cv).ownBlock := h1
          exact HFAR.out g (by rw [← h2]; exact e) hf
        · rw [h1] at e
          have h2 := Option.some.inj e
          have h3 := HS.out.lt g hf
          simp at h2
          omega, (hown.lt g e).2⟩
      have HK3 : Hid (Kept F w w3) := Lib.hid (HK.out.trans hk3 (fun i hi e => by have := (HO.out.lt i e).1; omega))
      have HNEXT := Lib.hid (seNext_any hQ hs3)
      have HO3 := Lib.hid hown
      have HFAR3 := Lib.hid hfar3
      have hz3 := hk3.size
      clear hown hgrow hloc hk3 hs3 hfar3
      refine HNEXT.out.mono ?_
      rintro e w4 ⟨rfl, F2, h1, h2, h3⟩
      have HO4 : Hid (w4.ownsRow w.heap.size 2 1 v3 (pre.length + 1) (pre.map i64V ++ [x].map i64V)) := Lib.hid (ownsRow_block HO3.out fun g e => h2.block g (HFAR3.out g e).2 (HFAR3.out g e).1)
      have HFAR4 : Hid (∀ g, v3.ownBlock = some g → ¬ F2 g) := Lib.hid fun g e hf => by
        rcases h3 g hf with h4 | h4
        · exact (HFAR3.out g e).1 h4
        · have := (HFAR3.out g e).2; omega
      have HK4 : Hid (Kept F w w4) := Lib.hid (HK3.out.trans h2 (fun i hi e => by
        rcases HF.out i e with h4 | h4
        · exact h4
        · omega))
      have HF4 : Hid (∀ i, F2 i → F i ∨ w.heap.size ≤ i) := Lib.hid fun i hi => by
        rcases h3 i hi with h4 | h4
        · exact HF.out i h4
        · right; omega
      have HS4 : Hid (SetLv Q w4 F2 p r) := Lib.hid h1
      have HD4 := Lib.hid (seDoc_any h1)
      clear h1 h2 h3 HNEXT
      go_wp2_with fail
      refine HD4.out.mono ?_
      rintro e w5 ⟨rfl, hw⟩
      rw [hw]
      clear hw
      go_wp2
      go_roundw
      case rel => exact ⟨pre ++ [x], r, F2, by rw [HL.out]; simp, by simp, rfl, HS4.out, HK4.out, HF4.out, by rw [List.length_append, List.map_append]; exact HO4.out, HFAR4.out⟩
      case measure =>
        have hm := HMEM.out
        have hu := HS4.out.up
        clear HS4 HO4 HL
        cases r with
        | nil => simp [lessMeas]
        | cons y r =>
          have h1 := hm y (List.mem_cons_self ..)
          have h2 := hu.most y (List.mem_cons_self ..)
          simp [lessMeas, intOf]
          omega
end Go.Proofs.Ytkligdaademakaa
namespace Go.Proofs.Ytkligdaademakaa
open Go.RowKit Go.Maps Go.WideMaps Go.Shelf

theorem made_set {Leaf : MvP} {k : Nat} {w : World} {F G : Nat → Prop} {l : List Int} (e : Ending) (w' : World) (h : SetMade (QD Leaf k) w F l e w') : SetOut (S0 Leaf) w F G l e w' := by
  obtain ⟨b, F', rfl, h1, h2, h3⟩ := h
  exact ⟨_, F', rfl, ⟨k, h1⟩, h2, h3⟩
theorem setsOk_of {Leaf : MvP} (hL : MovesOk Leaf) : SetsOk (S0 Leaf) where
  keep := by
    rintro w w' F G p l ⟨k, h⟩ hk hs
    exact ⟨k, h.keep (qd_ok hL k) (fun b hb => hk b (.inl hb)) hs⟩
  more := by
    rintro w F G G' p l ⟨k, h⟩ _
    exact ⟨k, h⟩
  lt := by
    rintro w F G p l ⟨k, h⟩
    exact h.lt
  rise := by
    rintro w F G p l ⟨k, h⟩
    exact ⟨h.up.up, h.up.most⟩
  nil := by
    rintro w F G l ⟨k, ⟨_, h, _⟩ | ⟨b, a, m, fv, h, _⟩⟩
    · exact h
    · cases h
  none := fun w G => ⟨0, .inl ⟨rfl, rfl, fun i hi => hi.elim⟩⟩
  list := fun w G A n c l hl hc hn _ _ => (seList_any (Q := QD Leaf 1) (qd_ok hL 1) (fun h => .inr (.inl h)) w A n c l hl (by omega)).mono made_set
  all := fun w G n hn h0 _ => (seAll_any (Q := QD Leaf 1) (qd_ok hL 1) (fun h => .inr (.inr (.inl h))) w n hn h0).mono made_set
  and := fun w G F A n c X h hc hn => by
    obtain ⟨k, hk⟩ := s0_common X h.each
    exact (seAnd_any hL (qd_ok hL k) w F A n c X ⟨hk, h.apart⟩ h.inF h.lt h.cells (fun ad e h0 => h.lt _ (h.row ad e h0).1) (by omega)).mono fun e w' q => made_set (k := k + 1) e w' q
  or := fun w G F A n c X h hc hn => by
    obtain ⟨k, hk⟩ := s0_common X h.each
    refine (or_ok hL n w F A c X k ⟨hk, h.apart⟩ h.inF h.lt h.cells (fun ad e h0 => ⟨h.lt _ (h.row ad e h0).1, (h.row ad e h0).2⟩) hc (by omega)).mono ?_
    rintro e w' ⟨j, q⟩
    exact made_set e w' q
  less := fun w G F1 F2 p q a b ha hb hd hG => by
    obtain ⟨k, hk⟩ := s0_common (Leaf := Leaf) (w := w) (G := G) [⟨p, a, F1⟩, ⟨q, b, F2⟩] (fun x hx => by
      simp only [List.mem_cons, List.not_mem_nil, or_false] at hx
      rcases hx with rfl | rfl
      · exact ha
      · exact hb)
    refine (seLess_any hL (qd_ok hL k) w (fun i => F1 i ∨ F2 i) ⟨p, a, F1⟩ ⟨q, b, F2⟩ ⟨hk, by simpa using hd⟩ (fun v hv i hi => ?_) (fun i hi => ?_)).mono fun e w' q => made_set (k := k + 1) e w' q
    · simp only [List.mem_cons, List.not_mem_nil, or_false] at hv
      rcases hv with rfl | rfl
      · exact .inl hi
      · exact .inr hi
    · rcases hi with hi | hi
      · exact (hk ⟨p, a, F1⟩ (by simp)).lt i hi
      · exact (hk ⟨q, b, F2⟩ (by simp)).lt i hi
  gather := by
    rintro w F G p l ⟨k, h⟩ _ hn
    exact seGather_any (qd_ok hL k) w F p l h hn
  doc := by
    rintro w F G a l ⟨k, h⟩ _
    refine (seDoc_any h).mono ?_
    rintro e w' ⟨rfl, rfl⟩
    exact ⟨rfl, F, ⟨k, h⟩, Kept.refl _ _, fun i hi => .inl hi⟩
  next := by
    rintro w F G a l ⟨k, h⟩ _
    refine (seNext_any (qd_ok hL k) h).mono ?_
    rintro e w' ⟨rfl, F', h1, h2⟩
    exact ⟨rfl, F', ⟨k, h1⟩, h2⟩
  skip := by
    rintro w F G a l d ⟨k, h⟩ _ hd
    refine (seSkip_any (qd_ok hL k) h d hd).mono ?_
    rintro e w' ⟨rfl, F', h1, h2⟩
    exact ⟨rfl, F', ⟨k, h1⟩, h2⟩
theorem setsOk : SetsOk (S0 NoMv) := setsOk_of noMv_ok
end Go.Proofs.Ytkligdaademakaa
