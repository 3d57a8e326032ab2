/- The contracts of the program's walk, All, Whole. -/
import Derived.Test.YtikibkagdjlhoaaFProg2
import Derived.Test.YtikibkagdjlhoaaFRef4
import Derived.Shelf.Abstract
namespace Go.Proofs.Ytikibkagdjlhoaa
open Go.RowKit Go.Maps Go.WideMaps Go.Shelf

/-- A row of slices of one's own, whose bytes lie in no older block than base. -/
def RowsG (w : World) (base : Nat) (v : Value) (L : List Nm) : Prop :=
  ∃ svs : List Value, w.ownsRow base 22 1 v L.length svs ∧ ∀ (i : Nat) (sv : Value) (x : Nm), svs[i]? = some sv → L[i]? = some x → ∃ A c, sv = .slice A x.length c ∧ x.length ≤ c ∧ BytesIn w A x.length x ∧ ∀ ad, A = some ad → 0 < x.length → base ≤ ad.block ∧ v.ownBlock ≠ some ad.block
theorem RowsG.nil (w : World) (base : Nat) : RowsG w base (.slice none 0 0) [] := ⟨[], ⟨rfl, .inl ⟨rfl, rfl⟩⟩, fun i sv x h _ => by simp at h⟩
theorem RowsG.rows {w : World} {base b : Nat} {v : Value} {L : List Nm} (h : RowsG w base v L) (hb : b ≤ base) : RowsAt w b v L := by
  obtain ⟨svs, h1, h2⟩ := h
  refine ⟨svs, Go.Joins.ownsRow_le h1 hb, fun i sv x e1 e2 => ?_⟩
  obtain ⟨A, c, h3, h4, h5, h6⟩ := h2 i sv x e1 e2
  exact ⟨A, c, h3, h4, h5, fun ad e h0 => (h6 ad e h0).2⟩
theorem RowsG.keep {w w' : World} {base : Nat} {v : Value} {L : List Nm} (h : RowsG w base v L) (hb : ∀ i, base ≤ i → i < w.heap.size → w'.heap[i]? = w.heap[i]?) (hs : w.heap.size ≤ w'.heap.size) : RowsG w' base v L := by
  obtain ⟨svs, h1, h2⟩ := h
  refine ⟨svs, ownsRow_block h1 fun g hg => hb g (h1.lt g hg).1 (h1.lt g hg).2, fun i sv x e1 e2 => ?_⟩
  obtain ⟨A, c, h3, h4, h5, h6⟩ := h2 i sv x e1 e2
  exact ⟨A, c, h3, h4, ⟨h5.1, h5.2.1.keep fun ad e hn => hb _ (h6 ad e hn).1 (h5.2.2 ad e hn), fun ad e hn => Nat.lt_of_lt_of_le (h5.2.2 ad e hn) hs⟩, h6⟩
theorem RowsG.below {w w' : World} {base : Nat} {v : Value} {L : List Nm} (h : RowsG w base v L) (hb : Below w.heap.size w w') : RowsG w' base v L := h.keep (fun i _ hi => hb.block i hi) hb.size
theorem RowsG.push {w w' : World} {base : Nat} {v v' sv : Value} {L : List Nm} {x : Nm} {svs : List Value}
    (h2 : ∀ (i : Nat) (sv : Value) (x : Nm), svs[i]? = some sv → L[i]? = some x → ∃ A c, sv = .slice A x.length c ∧ x.length ≤ c ∧ BytesIn w A x.length x ∧ ∀ ad, A = some ad → 0 < x.length → base ≤ ad.block ∧ v.ownBlock ≠ some ad.block)
    (hl : svs.length = L.length) (hs : Holds1 w sv x) (hap : ∀ A c ad, sv = .slice A x.length c → A = some ad → 0 < x.length → base ≤ ad.block ∧ v.ownBlock ≠ some ad.block)
    (ho : w'.ownsRow base 22 1 v' (L.length + 1) (svs ++ [sv])) (hg : w.grownBy w' v.ownBlock) (hloc : v'.ownBlock = v.ownBlock ∨ ∃ g, v'.ownBlock = some g ∧ w.heap.size ≤ g) : RowsG w' base v' (L ++ [x]) := by
  have keep : ∀ {A : Option Addr} {y : Nm}, BytesIn w A y.length y → (∀ ad, A = some ad → 0 < y.length → base ≤ ad.block ∧ v.ownBlock ≠ some ad.block) → BytesIn w' A y.length y ∧ ∀ ad, A = some ad → 0 < y.length → base ≤ ad.block ∧ v'.ownBlock ≠ some ad.block := by
    intro A y hb hn
    refine ⟨⟨hb.1, hb.2.1.keep fun ad e h0 => hg.block _ (hb.2.2 ad e h0) (fun e2 => (hn ad e h0).2 e2.symm), fun ad e h0 => Nat.lt_of_lt_of_le (hb.2.2 ad e h0) hg.size⟩, fun ad e h0 => ⟨(hn ad e h0).1, ?_⟩⟩
    rcases hloc with h | ⟨g, h, hge⟩
    · rw [h]; exact (hn ad e h0).2
    · rw [h]
      intro e2
      have h3 := hb.2.2 ad e h0
      have h4 : g = ad.block := Option.some.inj e2
      omega
  refine ⟨svs ++ [sv], by simpa using ho, fun i sv' y e1 e2 => ?_⟩
  rcases Nat.lt_or_ge i L.length with hi | hi
  · rw [List.getElem?_append_left (by omega)] at e1 e2
    obtain ⟨A, c, h3, h4, h5, h6⟩ := h2 i sv' y e1 e2
    obtain ⟨k1, k2⟩ := keep h5 h6
    exact ⟨A, c, h3, h4, k1, k2⟩
  · have hlt := (List.getElem?_eq_some_iff.1 e2).1
    simp at hlt
    obtain rfl : i = L.length := by omega
    rw [List.getElem?_append_right (by omega)] at e1 e2
    simp [hl] at e1 e2
    subst e1 e2
    obtain ⟨A, c, h3, h4, h5⟩ := hs
    obtain ⟨k1, k2⟩ := keep h5 fun ad e h0 => hap A c ad h3 e h0
    exact ⟨A, c, h3, h4, k1, k2⟩

/-- The variable that the rows are gathered in, in block b of the call's own. -/
def CellRows (w0 w : World) (b : Nat) (acc : List Nm) : Prop := Below w0.heap.size w0 w ∧ w0.heap.size ≤ b ∧ ∃ v, Blk w b 27 #[v] ∧ RowsG w (b + 1) v acc

set_option maxHeartbeats 4000000 in
set_option maxRecDepth 100000 in
theorem fAll_1_any (w0 wp w : World) (b : Nat) (acc : List Nm) (x : Nm) (v : Value) (hI : CellRows w0 wp b acc) (hb : Below wp.heap.size wp w) (ho : w.ownsRow wp.heap.size 5 1 v x.length (x.map byteV)) (hx : x.length ≤ 262144) (ha : acc.length ≤ 1099511627776) :
    Calls Try.prog 24 #[v, at0 b] w fun e w' => e = .returned (.tuple #[]) ∧ CellRows w0 w' b (acc ++ [x]) := by
  obtain ⟨i0, hi, hz0, hz1, hz2⟩ := info_parts rowInfo
  obtain ⟨hB0, hb0, u, hblk, svs, hO, h2⟩ := hI
  have hblt := hblk.lt
  have hblk' := hblk.below hb hblt
  obtain ⟨Au, cu, hu⟩ := own_slice hO
  subst hu
  obtain ⟨Ax, cx, hv⟩ := own_slice ho
  subst hv
  have c0 := hblk'.cell 0
  simp at c0
  have hbw : w0.heap.size ≤ w.heap.size := Nat.le_trans hB0.size hb.size
  have HW := Lib.hid hbw
  have HB := Lib.hid (below_then hB0 hb hB0.size)
  have HBLK := Lib.hid hblk'
  have hsl : svs.length = acc.length := by have := hO.1; simpa using this
  have HSL := Lib.hid hsl
  have HOL := Lib.hid (ownsRow_block hO (w' := w) fun g hg => hb.block g (hO.lt g hg).2)
  have HUL : Hid (∀ g, (Value.slice Au acc.length cu).ownBlock = some g → g < wp.heap.size) := Lib.hid fun g hg => (hO.lt g hg).2
  have HX := Lib.hid ho
  have hwp : wp.heap.size ≤ w.heap.size := hb.size
  have hb1 : b + 1 ≤ w.heap.size := by have := hblk'.lt; omega
  have HBLT := Lib.hid hblt
  have H2 : Hid (∀ (i : Nat) (sv : Value) (x : Nm), svs[i]? = some sv → acc[i]? = some x → ∃ A c, sv = .slice A x.length c ∧ x.length ≤ c ∧ BytesIn w A x.length x ∧ ∀ ad, A = some ad → 0 < x.length → b + 1 ≤ ad.block ∧ (Value.slice Au acc.length cu).ownBlock ≠ some ad.block) := Lib.hid fun i sv y e1 e2 => by
    obtain ⟨A, c, h3, h4, h5, h6⟩ := h2 i sv y e1 e2
    exact ⟨A, c, h3, h4, h5.below hb, h6⟩
  have hone : ∀ u ∈ [Value.slice Ax x.length cx], u.oneCell' = true := by simp [Value.oneCell']
  have HONE := Lib.hid hone
  clear hB0 hblk hO h2 hblk' hsl ho hb hbw hblt hone
  unfold at0
  go_enter Try.func24, Try.ntmps24
  go_wp2_with (at_builtin; refine wpList_append_src _ rfl (.tmp 3) (.tmp 5) 27 rfl (b + 1) 22 i0 (.slice none 0 0) 24 Try.underlying27 hi hz0 hz1 hz2 rfl _ acc.length svs rfl (HOL.out.alloc _) _ 1 1 _ rfl (one_row_src w (.slice Ax x.length cx) rfl) HONE.out (by unfold maxLen; omega) (by omega) (by simp; omega) ?_; intro v3 w3 hown hgrow hloc; obtain ⟨A3, c3, hv3⟩ := own_slice hown; subst hv3; have HO3 := Lib.hid hown; have HG3 := Lib.hid hgrow; have HLOC : Hid ((Value.slice A3 (acc.length + 1) c3).ownBlock = (Value.slice Au acc.length cu).ownBlock ∨ (Value.slice A3 (acc.length + 1) c3).ownBlock = some (w.alloc (.cells #[.slice Ax x.length cx] 22)).heap.size) := Lib.hid hloc; have HBK3 := Lib.hid ((HBLK.out.alloc (.cells #[.slice Ax x.length cx] 22)).grown hgrow (fun e => by have := (HOL.out.lt b e.symm).1; omega)); have k0 := HBK3.out.cell 0; simp at k0; have z3 := HBK3.out.frozen 0; clear hown hgrow hloc)
  go_end0
  refine ⟨rfl, ?_, hb0, _, HBK3.out.set_ 0 _, ?_⟩
  · have h1 := (HB.out.alloc HB.out.size (.cells #[.slice Ax x.length cx] 22)).grown HG3.out (by have := HB.out.size; simp; omega) (fun g hg => by have := (HOL.out.lt g hg).1; omega)
    exact ⟨h1.os, h1.tape, h1.output, by rw [size_setCell']; exact h1.size, fun k hk => (Below.heap_setCell _ _ _ k (by simp; omega)).trans (h1.block k hk)⟩
  · have hkeep : Below w.heap.size w (w.alloc (.cells #[.slice Ax x.length cx] 22)) := (Below.refl _ w).alloc (Nat.le_refl _) _
    have hnew : RowsG w3 (b + 1) (.slice A3 (acc.length + 1) c3) (acc ++ [x]) := by
      refine RowsG.push (w := w.alloc (.cells #[.slice Ax x.length cx] 22)) (v := .slice Au acc.length cu) (svs := svs) (fun i sv y e1 e2 => ?_) HSL.out (Holds1.below (Holds1.own HX.out (by unfold maxLen; omega)) hkeep) ?_ HO3.out HG3.out ?_
      · obtain ⟨A4, c4, h3, h4, h5, h6⟩ := H2.out i sv y e1 e2
        exact ⟨A4, c4, h3, h4, h5.below hkeep, h6⟩
      · intro A4 c4 ad e1 e2 _
        injection e1 with e1
        subst e1
        have h4 := (HX.out.lt ad.block (by rw [e2]; rfl)).1
        refine ⟨by have := HBLT.out; omega, fun e3 => ?_⟩
        have h3 := HUL.out _ e3
        omega
      · rcases HLOC.out with h | h
        · exact .inl h
        · exact .inr ⟨_, h, Nat.le_refl _⟩
    exact hnew.keep (fun i h0 _ => Below.heap_setCell _ _ _ i (by simp; omega)) (by rw [size_setCell']; exact Nat.le_refl _)

set_option maxHeartbeats 4000000 in
set_option maxRecDepth 100000 in
theorem fWhole_1_any (w0 wp w : World) (b : Nat) (acc : List Nm) (x : Nm) (v : Value) (hI : CellRows w0 wp b acc) (hb : Below wp.heap.size wp w) (ho : w.ownsRow wp.heap.size 5 1 v x.length (x.map byteV)) (hx : x.length ≤ 262144) (ha : acc.length ≤ 1099511627776) :
    Calls Try.prog 25 #[v, at0 b] w fun e w' => e = .returned (.tuple #[]) ∧ CellRows w0 w' b (acc ++ [x]) := by
  obtain ⟨i0, hi, hz0, hz1, hz2⟩ := info_parts rowInfo
  obtain ⟨hB0, hb0, u, hblk, svs, hO, h2⟩ := hI
  have hblt := hblk.lt
  have hblk' := hblk.below hb hblt
  obtain ⟨Au, cu, hu⟩ := own_slice hO
  subst hu
  obtain ⟨Ax, cx, hv⟩ := own_slice ho
  subst hv
  have c0 := hblk'.cell 0
  simp at c0
  have hbw : w0.heap.size ≤ w.heap.size := Nat.le_trans hB0.size hb.size
  have HW := Lib.hid hbw
  have HB := Lib.hid (below_then hB0 hb hB0.size)
  have HBLK := Lib.hid hblk'
  have hsl : svs.length = acc.length := by have := hO.1; simpa using this
  have HSL := Lib.hid hsl
  have HOL := Lib.hid (ownsRow_block hO (w' := w) fun g hg => hb.block g (hO.lt g hg).2)
  have HUL : Hid (∀ g, (Value.slice Au acc.length cu).ownBlock = some g → g < wp.heap.size) := Lib.hid fun g hg => (hO.lt g hg).2
  have HX := Lib.hid ho
  have hwp : wp.heap.size ≤ w.heap.size := hb.size
  have hb1 : b + 1 ≤ w.heap.size := by have := hblk'.lt; omega
  have HBLT := Lib.hid hblt
  have H2 : Hid (∀ (i : Nat) (sv : Value) (x : Nm), svs[i]? = some sv → acc[i]? = some x → ∃ A c, sv = .slice A x.length c ∧ x.length ≤ c ∧ BytesIn w A x.length x ∧ ∀ ad, A = some ad → 0 < x.length → b + 1 ≤ ad.block ∧ (Value.slice Au acc.length cu).ownBlock ≠ some ad.block) := Lib.hid fun i sv y e1 e2 => by
    obtain ⟨A, c, h3, h4, h5, h6⟩ := h2 i sv y e1 e2
    exact ⟨A, c, h3, h4, h5.below hb, h6⟩
  have hone : ∀ u ∈ [Value.slice Ax x.length cx], u.oneCell' = true := by simp [Value.oneCell']
  have HONE := Lib.hid hone
  clear hB0 hblk hO h2 hblk' hsl ho hb hbw hblt hone
  unfold at0
  go_enter Try.func25, Try.ntmps25
  go_wp2_with (at_builtin; refine wpList_append_src _ rfl (.tmp 3) (.tmp 5) 27 rfl (b + 1) 22 i0 (.slice none 0 0) 24 Try.underlying27 hi hz0 hz1 hz2 rfl _ acc.length svs rfl (HOL.out.alloc _) _ 1 1 _ rfl (one_row_src w (.slice Ax x.length cx) rfl) HONE.out (by unfold maxLen; omega) (by omega) (by simp; omega) ?_; intro v3 w3 hown hgrow hloc; obtain ⟨A3, c3, hv3⟩ := own_slice hown; subst hv3; have HO3 := Lib.hid hown; have HG3 := Lib.hid hgrow; have HLOC : Hid ((Value.slice A3 (acc.length + 1) c3).ownBlock = (Value.slice Au acc.length cu).ownBlock ∨ (Value.slice A3 (acc.length + 1) c3).ownBlock = some (w.alloc (.cells #[.slice Ax x.length cx] 22)).heap.size) := Lib.hid hloc; have HBK3 := Lib.hid ((HBLK.out.alloc (.cells #[.slice Ax x.length cx] 22)).grown hgrow (fun e => by have := (HOL.out.lt b e.symm).1; omega)); have k0 := HBK3.out.cell 0; simp at k0; have z3 := HBK3.out.frozen 0; clear hown hgrow hloc)
  go_end0
  refine ⟨rfl, ?_, hb0, _, HBK3.out.set_ 0 _, ?_⟩
  · have h1 := (HB.out.alloc HB.out.size (.cells #[.slice Ax x.length cx] 22)).grown HG3.out (by have := HB.out.size; simp; omega) (fun g hg => by have := (HOL.out.lt g hg).1; omega)
    exact ⟨h1.os, h1.tape, h1.output, by rw [size_setCell']; exact h1.size, fun k hk => (Below.heap_setCell _ _ _ k (by simp; omega)).trans (h1.block k hk)⟩
  · have hkeep : Below w.heap.size w (w.alloc (.cells #[.slice Ax x.length cx] 22)) := (Below.refl _ w).alloc (Nat.le_refl _) _
    have hnew : RowsG w3 (b + 1) (.slice A3 (acc.length + 1) c3) (acc ++ [x]) := by
      refine RowsG.push (w := w.alloc (.cells #[.slice Ax x.length cx] 22)) (v := .slice Au acc.length cu) (svs := svs) (fun i sv y e1 e2 => ?_) HSL.out (Holds1.below (Holds1.own HX.out (by unfold maxLen; omega)) hkeep) ?_ HO3.out HG3.out ?_
      · obtain ⟨A4, c4, h3, h4, h5, h6⟩ := H2.out i sv y e1 e2
        exact ⟨A4, c4, h3, h4, h5.below hkeep, h6⟩
      · intro A4 c4 ad e1 e2 _
        injection e1 with e1
        subst e1
        have h4 := (HX.out.lt ad.block (by rw [e2]; rfl)).1
        refine ⟨by have := HBLT.out; omega, fun e3 => ?_⟩
        have h3 := HUL.out _ e3
        omega
      · rcases HLOC.out with h | h
        · exact .inl h
        · exact .inr ⟨_, h, Nat.le_refl _⟩
    exact hnew.keep (fun i h0 _ => Below.heap_setCell _ _ _ i (by simp; omega)) (by rw [size_setCell']; exact Nat.le_refl _)

/-- What walk leaves. -/
def WalkOut (l : Nm) (I : World → List Nm → Prop) (e : Ending) (w' : World) : Prop :=
  ∃ (acc : List Nm) (k : Nat) (er : Int), e = .returned (.tuple #[.int .i64 k, .int .i64 er]) ∧ I w' acc ∧ wholeF l = (acc, k) ∧ allF l = (if er ≠ 0 then [] else acc, er)

set_option maxHeartbeats 4000000 in
set_option maxRecDepth 100000 in
theorem fWalk_any (f : Nat) (cap : Array Value) (eg : ∀ args w, (callFunc f args).run Try.prog w = .ok (.enter f args) w) (w0 w : World) (A : Option Addr) (n c : Nat) (l : Nm) (hl : BytesIn w0 A n l) (hc : n ≤ c) (hn : n ≤ 1099511627776)
    (I : World → List Nm → Prop) (hI0 : I w []) (hIB : ∀ w' acc, I w' acc → Below w0.heap.size w0 w')  (hIb : ∀ w' w'' acc, I w' acc → Below w'.heap.size w' w'' → I w'' acc)
    (hcl : ∀ wp w' acc x v, I wp acc → Below wp.heap.size wp w' → w'.ownsRow wp.heap.size 5 1 v x.length (x.map byteV) → x.length ≤ 262144 → acc.length ≤ 1099511627776 → Calls Try.prog f (#[v] ++ cap) w' fun e w'' => e = .returned (.tuple #[]) ∧ I w'' (acc ++ [x])) :
    Calls Try.prog 23 #[.slice A n c, .func (.func f) #[] cap] w (WalkOut l I) := by
  have hln : l.length = n := by have := hl.2.1.len; simpa using this
  obtain ⟨G, hG⟩ : ∃ G, G = allF l := ⟨_, rfl⟩
  obtain ⟨H, hH⟩ : ∃ H, H = wholeF l := ⟨_, rfl⟩
  have HOUT : Hid (∀ acc k er e w', e = .returned (.tuple #[.int .i64 (k : Nat), .int .i64 er]) → I w' acc → H = (acc, k) → G = (if er ≠ 0 then [] else acc, er) → WalkOut l I e w') := Lib.hid fun acc k er e w' h1 h2 h3 h4 => ⟨acc, k, er, h1, h2, hH ▸ h3, hG ▸ h4⟩
  have HG0 : Hid (allAux n l [] = G) := Lib.hid (by rw [hG]; unfold allF; rw [hln])
  have HH0 : Hid (wholeAux n 0 l [] = H) := Lib.hid (by rw [hH]; unfold wholeF; rw [hln])
  have HL := Lib.hid hl
  have HLN := Lib.hid hln
  have HI0 := Lib.hid hI0
  have HIB := Lib.hid hIB
  have HIb := Lib.hid hIb
  have HCL := Lib.hid hcl
  clear hl hln hG hH hI0 hIB hIb hcl
  go_enter Try.func23, Try.ntmps23
  go_wp2
  go_loopw [6] (fun s wr => ∃ (at_ q : Nat) (acc : List Nm), s = .int .i64 at_ ∧ at_ ≤ n ∧ n - at_ ≤ q ∧ allAux q (l.drop at_) acc = G ∧ wholeAux q at_ (l.drop at_) acc = H ∧ acc.length ≤ at_ ∧ I wr acc) (fun s _ => n - (intOf s).toNat)
  case atStart => exact ⟨0, n, [], rfl, by omega, by omega, HG0.out, HH0.out, by simp, HI0.out⟩
  case round =>
    obtain ⟨at_, q, acc, rfl, hat, hmf, hg, hh, hacc, hi⟩ := hrel
    obtain ⟨r, hr0⟩ : ∃ r, r = l.drop at_ := ⟨_, rfl⟩
    obtain ⟨m, hm0⟩ : ∃ m, m = n - at_ := ⟨_, rfl⟩
    have hsub := HL.out.sub hc at_ n hat (Nat.le_refl _)
    rw [show (l.take n).drop at_ = r by rw [hr0, List.take_of_length_le (by rw [HLN.out]; exact Nat.le_refl _)], ← hm0] at hsub
    have HR := Lib.hid hsub
    rw [← hr0] at hg hh
    rw [← hm0] at hmf
    have HGG := Lib.hid hg
    have HHH := Lib.hid hh
    have HII := Lib.hid hi
    have HB := Lib.hid (HIB.out _ _ hi)
    have hrl : r.length = m := by have := hsub.2.1.len; simpa using this
    have HRL := Lib.hid hrl
    have HRD := Lib.hid hr0
    have sA : ∀ w, (Instr.slice 22 (.slice A n c) (some (.int .i64 at_)) none none).run Try.prog w = .ok (.slice (cutAddr A at_ c) m (c - at_)) w := fun w => by rw [hm0]; exact slice_from w A n c at_ hat
    have hmc : m ≤ c - at_ := by omega
    have hmn : at_ + m = n := by omega
    clear hr0 hm0 hsub hg hh hi hrl HG0 HH0 HL HLN
    rcases Nat.eq_zero_or_pos m with h0 | hpos
    · obtain rfl : at_ = n := by omega
      have hz : ¬ ((at_ : Int) < (at_ : Int)) := by omega
      have hr : r = [] := List.eq_nil_of_length_eq_zero (HRL.out.trans h0)
      have hfin : G = (if (0 : Int) ≠ 0 then [] else acc, 0) := by rw [← HGG.out, hr, allAux_nil]; simp
      have hfin2 : H = (acc, at_) := by rw [← HHH.out, hr, wholeAux_nil]
      have HF := Lib.hid hfin
      have HF2 := Lib.hid hfin2
      clear hfin hfin2 hr
      go_wp2
      go_ret2
      exact HOUT.out acc at_ 0 _ _ rfl HII.out HF2.out HF.out
    · have hposz : (at_ : Int) < (n : Int) := by omega
      obtain ⟨q', rfl⟩ : ∃ f', q = f' + 1 := ⟨q - 1, by omega⟩
      have hstep := HGG.out
      have hstep2 := HHH.out
      simp only [allAux] at hstep
      simp only [wholeAux] at hstep2
      rw [if_neg (by rw [HRL.out]; omega)] at hstep hstep2
      obtain ⟨x, k, e, hgf⟩ : ∃ x k e, getF r = (x, k, e) := ⟨_, _, _, rfl⟩
      rw [hgf] at hstep hstep2
      simp only at hstep hstep2
      have HST := Lib.hid hstep
      have HST2 := Lib.hid hstep2
      have HGF := Lib.hid hgf
      clear hstep hstep2 hgf
      go_wp2_with fail
      refine (fGet_any wr (cutAddr A at_ c) m (c - at_) r (HR.out.below HB.out) hmc (by omega)).mono ?_
      rintro e2 w2 ⟨v2, rfl, ho2, hb2⟩
      rw [HGF.out] at ho2 ⊢
      simp only at ho2
      have HO2 := Lib.hid ho2
      have HB2 := Lib.hid hb2
      clear ho2 hb2
      by_cases he : e = 0
      · subst he
        have hst := HST.out
        rw [if_neg (by simp)] at hst
        have HS := Lib.hid hst
        have hst2 := HST2.out
        rw [if_neg (by simp)] at hst2
        have HS2 := Lib.hid hst2
        have hinv := getF_inv HGF.out
        obtain ⟨q1, q2, q3, q4⟩ := hinv
        rw [HRL.out] at q2
        clear hst hst2 q3
        obtain ⟨A2, c2, hv2⟩ := own_slice HO2.out
        subst hv2
        have hat2 : IntKind.i64.wrap ((at_ : Int) + (k : Int)) = ((at_ + k : Nat) : Int) := by rw [IntWalk.i64_in _ (by omega)]; simp
        obtain ⟨at2, hA2⟩ : ∃ a, a = at_ + k := ⟨_, rfl⟩
        rw [← hA2] at hat2
        go_wp2_with fail
        refine (HCL.out wr w2 acc x _ HII.out HB2.out HO2.out q4 (by omega)).mono ?_
        rintro e3 w3 ⟨rfl, hI3⟩
        have HI3 := Lib.hid hI3
        clear hI3
        go_wp2
        go_roundw
        case rel =>
          have hd : l.drop at2 = r.drop k := by rw [HRD.out, List.drop_drop, ← hA2]
          exact ⟨at2, q', acc ++ [x], by rw [hA2]; go_num, by omega, by omega, by rw [hd]; exact HS.out, by rw [hd, hA2]; exact HS2.out, by rw [List.length_append, List.length_singleton]; omega, HI3.out⟩
        case measure => simp [intOf]; omega
      · have hst := HST.out
        rw [if_pos he] at hst
        have HS := Lib.hid hst
        have hst2 := HST2.out
        rw [if_pos he] at hst2
        have HS2 := Lib.hid hst2
        have d1 : (e != 0) = true := by simpa using he
        have HE := Lib.hid he
        clear hst hst2 he
        go_wp2
        go_ret2
        exact HOUT.out acc at_ e _ _ rfl (HIb.out _ _ _ HII.out HB2.out) HS2.out.symm (by rw [if_pos HE.out]; exact HS.out.symm)

theorem CellRows.start (w : World) : CellRows w (w.alloc (.cells #[.slice none 0 0] 27)) w.heap.size [] :=
  ⟨(Below.refl _ w).alloc (Nat.le_refl _) _, Nat.le_refl _, _, Blk.new _ _ _, RowsG.nil _ _⟩
theorem CellRows.below {w0 w w' : World} {b : Nat} {acc : List Nm} (h : CellRows w0 w b acc) (hb : Below w.heap.size w w') : CellRows w0 w' b acc := by
  obtain ⟨h1, h2, v, h3, h4⟩ := h
  exact ⟨below_then h1 hb h1.size, h2, v, h3.below hb h3.lt, h4.below hb⟩

set_option maxHeartbeats 4000000 in
set_option maxRecDepth 100000 in
theorem fAll_any (w : World) (A : Option Addr) (n c : Nat) (l : Nm) (hl : BytesIn w A n l) (hc : n ≤ c) (hn : n ≤ 1099511627776) :
    Calls Try.prog 10 #[.slice A n c] w (AllOut w (allF l)) := by
  have HL := Lib.hid hl
  clear hl
  go_enter Try.func10, Try.ntmps10
  go_wp2_with fail
  refine (fWalk_any 24 #[at0 w.heap.size] (enters_of Try.func24 (by kernel_rfl) rfl) w _ A n c l HL.out hc hn (fun w' acc => CellRows w w' w.heap.size acc) (CellRows.start w) (fun _ _ h => h.1) (fun _ _ _ h k => h.below k) (fun wp w' acc x v h1 h2 h3 h4 h5 => fAll_1_any w wp w' _ acc x v h1 h2 h3 h4 h5)).mono ?_
  rintro e w2 ⟨acc, k, er, rfl, hI, _, hA⟩
  obtain ⟨hB, _, v, hblk, hrow⟩ := hI
  have c0 := hblk.cell 0
  simp at c0
  have HB := Lib.hid hB
  have HR := Lib.hid (hrow.rows (b := w.heap.size) (by omega))
  obtain ⟨_, hO, _⟩ := hrow
  obtain ⟨Av, cv, hv⟩ := own_slice hO
  subst hv
  clear hblk hB hO
  by_cases he : er = 0
  · subst he
    rw [if_neg (by simp)] at hA
    have HA := Lib.hid hA
    clear hA
    go_wp2
    go_ret2
    exact alok HA.out HR.out HB.out
  · have d1 : (er != 0) = true := by simpa using he
    rw [if_pos he] at hA
    have HA := Lib.hid hA
    clear he hA
    go_wp2
    go_ret2
    exact alok HA.out (RowsAt.nil _ _) HB.out
set_option maxHeartbeats 4000000 in
set_option maxRecDepth 100000 in
theorem fWhole_any (w : World) (A : Option Addr) (n c : Nat) (l : Nm) (hl : BytesIn w A n l) (hc : n ≤ c) (hn : n ≤ 1099511627776) :
    Calls Try.prog 12 #[.slice A n c] w (WholeOut w (wholeF l)) := by
  have HL := Lib.hid hl
  clear hl
  go_enter Try.func12, Try.ntmps12
  go_wp2_with fail
  refine (fWalk_any 25 #[at0 w.heap.size] (enters_of Try.func25 (by kernel_rfl) rfl) w _ A n c l HL.out hc hn (fun w' acc => CellRows w w' w.heap.size acc) (CellRows.start w) (fun _ _ h => h.1) (fun _ _ _ h k => h.below k) (fun wp w' acc x v h1 h2 h3 h4 h5 => fWhole_1_any w wp w' _ acc x v h1 h2 h3 h4 h5)).mono ?_
  rintro e w2 ⟨acc, k, er, rfl, hI, hW, _⟩
  have HW := Lib.hid hW
  obtain ⟨hB, _, v, hblk, hrow⟩ := hI
  have c0 := hblk.cell 0
  simp at c0
  have HB := Lib.hid hB
  have HR := Lib.hid (hrow.rows (b := w.heap.size) (by omega))
  obtain ⟨_, hO, _⟩ := hrow
  obtain ⟨Av, cv, hv⟩ := own_slice hO
  subst hv
  clear hblk hB hW hO
  go_wp2
  go_ret2
  exact whok HW.out HR.out HB.out
end Go.Proofs.Ytikibkagdjlhoaa
