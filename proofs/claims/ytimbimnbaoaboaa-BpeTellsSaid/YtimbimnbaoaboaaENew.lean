/- The program's New. A coder that is being built. -/
import Derived.Test.YtimbimnbaoaboaaEDec
import Derived.Test.YtimbimnbaoaboaaVProg2
import Derived.Test.YtimbimnbaoaboaaKClone
import Derived.Test.YtimbimnbaoaboaaKRowsG
namespace Go.Proofs.Ytimbimnbaoaboaa
open Go.RowKit Go.Maps Go.WideMaps
set_option linter.unusedSimpArgs false

set_option maxHeartbeats 2000000 in
set_option maxRecDepth 100000 in
theorem cloneMg_any (w : World) (B : Option Addr) (m c : Nat) (M : List Mg) (hM : MgSee w B m M) (hm : m ≤ 1048576) :
    Calls Try.prog 21 #[.slice B m c] w fun e w' => ∃ v, e = .returned v ∧ w'.ownsRow w.heap.size 46 3 v m (M.flatMap mgCells) ∧ Below w.heap.size w w' := by
  obtain ⟨i0, hi, hz0, hz1, hz2⟩ := info_parts mergeInfo
  have q22 : ∀ (w : World) (a : Option Addr) (n c n' c' : Nat), (binOp .eql 27 (.slice a n c) (.slice none n' c')).run Try.prog w = .ok (.bool a.isNone) w := fun w a n c n' c' => Lib.run_eql_slice_nil w _ _ a n c n' c' Try.underlying27
  have hl := hM.len
  cases B with
  | none =>
    have h0 : M = [] := by
      cases M with
      | nil => rfl
      | cons x r => obtain ⟨ad, e, _⟩ := hM.at_ 0 x rfl; cases e
    subst h0
    obtain rfl : m = 0 := by simpa using hl.symm
    clear hM hl
    go_enter Try.func21, Try.ntmps21
    go_wp2
    go_ret
    exact ⟨_, rfl, ⟨rfl, .inl ⟨rfl, rfl⟩⟩, Below.refl _ _⟩
  | some ad =>
    have HS := Lib.hid ((hM.below ((Below.refl _ w).alloc (Nat.le_refl _) (.cells #[] 46))).src)
    have hlen := mgCells_len M
    have HLEN := Lib.hid hlen
    have HL := Lib.hid hl
    have HONE := Lib.hid (mgCells_one M)
    clear hM hlen hl
    go_enter Try.func21, Try.ntmps21
    go_wp2_with (at_builtin; refine wpList_append_own_at _ rfl (.tmp 5) (.tmp 6) 27 rfl w.heap.size 46 i0 _ 3 24 Try.underlying27 hi hz0 hz1 hz2 rfl (by decide) _ 0 [] rfl (World.ownsRow_made w #[] 0 (Nat.le_refl _) (Nat.zero_le _) rfl) ad m c (M.flatMap mgCells) rfl (by rw [HLEN.out, HL.out]) (HS.out.cells ad rfl) HONE.out (by unfold maxLen; omega) (by omega) (by simp) ?_; intro v w2 hown hgrow hnil hloc; clear hnil; rw [Nat.zero_add, List.nil_append] at hown; have HO := Lib.hid hown; have HB : Hid (Below w.heap.size w w2) := Lib.hid ((((Below.refl _ w).alloc (Nat.le_refl _) (.cells #[] 46)).grown hgrow (by simp) (fun k e => by cases e; exact Nat.le_refl _))); clear hown hgrow hloc)
    go_ret
    exact ⟨_, rfl, HO.out, HB.out⟩
set_option maxHeartbeats 4000000 in
set_option maxRecDepth 100000 in
theorem new_none (w : World) (A B : Option Addr) (n m ca cb : Nat) (V : Voc) (hV : VocSee w A B n m ca cb V) (hc : checkV V ≠ 0) :
    Calls Try.prog 11 #[vocV A B n m ca cb] w fun e w' => e = .returned (.pointer none) ∧ Below w.heap.size w w' := by
  have b1 : Below w.heap.size w (w.alloc (.cells #[.slice A n ca, .slice B m cb] 29)) := (Below.refl _ w).alloc (Nat.le_refl _) _
  have hck := vCheck_any _ A B n m ca cb V (hV.below b1)
  obtain ⟨E, hE⟩ : ∃ E, E = checkV V := ⟨_, rfl⟩
  rw [← hE] at hck hc
  have hb : (E != 0) = true := by simpa using hc
  have HCK := Lib.hid hck
  have HB1 := Lib.hid b1
  clear hV hck hE hc b1
  unfold vocV at HCK ⊢
  go_enter Try.func11, Try.ntmps11
  go_wp2_with fail
  refine HCK.out.mono ?_
  rintro e w2 ⟨rfl, hb2⟩
  have HB2 := Lib.hid (below_then HB1.out hb2 HB1.out.size)
  clear hb2
  go_wp2_with fail
  go_ret
  exact ⟨rfl, HB2.out⟩
end Go.Proofs.Ytimbimnbaoaboaa
namespace Go.Proofs.Ytimbimnbaoaboaa
open Go.RowKit Go.Maps Go.WideMaps
set_option linter.unusedSimpArgs false

/-- t tokens are in it, j of the single bytes, and k merges. -/
structure CB (w0 wr : World) (V : Voc) (b bp t j k : Nat) (tv mv : Value) (D : DataW Unit) (cs : Array Value) : Prop where
  below : Below w0.heap.size w0 wr
  new : w0.heap.size ≤ b
  blk : Blk wr b 59 cs
  size : cs.size = 259
  c0 : cs[0]? = some tv
  c1 : cs[1]? = some mv
  cB : ∀ c, c < 256 → cs[2 + c]? = some (.int .i64 ((if c < j then c else 0 : Nat) : Int))
  cM : cs[258]? = some (.map (some bp))
  rows : RowsG wr (b + 1) tv (V.tok.take t)
  mrow : wr.ownsRow w0.heap.size 46 3 mv V.mer.length (V.mer.flatMap mgCells)
  map : ranksAt wr bp k D
  isR : RankMap D (V.mer.take k)
  bpn : w0.heap.size ≤ bp ∧ bp < b
section
variable {w0 wr w' : World} {V : Voc} {b bp t j k : Nat} {tv mv v' : Value} {D : DataW Unit} {cs : Array Value}
theorem CB.then (h : CB w0 wr V b bp t j k tv mv D cs) (hb : Below wr.heap.size wr w') : CB w0 w' V b bp t j k tv mv D cs where
  below := below_then h.below hb h.below.size
  new := h.new
  blk := h.blk.below hb h.blk.lt
  size := h.size
  c0 := h.c0
  c1 := h.c1
  cB := h.cB
  cM := h.cM
  rows := h.rows.below hb
  mrow := ownsRow_block h.mrow fun g hg => hb.block g (h.mrow.lt g hg).2
  map := ownsMap_block h.map (hb.block _ (Nat.lt_trans h.bpn.2 h.blk.lt))
  isR := h.isR
  bpn := h.bpn
theorem RowsG.lt {w : World} {base : Nat} {v : Value} {L : List Nm} (h : RowsG w base v L) : ∀ g, v.ownBlock = some g → base ≤ g ∧ g < w.heap.size := by
  obtain ⟨svs, h1, _⟩ := h
  exact h1.lt
theorem CB.tvb (h : CB w0 wr V b bp t j k tv mv D cs) : tv.ownBlock ≠ some b := fun e => by have := (h.rows.lt b e).1; omega
theorem CB.setTok {w5 : World} {x : Nm} (h : CB w0 wr V b bp t j k tv mv D cs) (hg : wr.grownBy w5 tv.ownBlock) (htk : V.tok.take (t + 1) = V.tok.take t ++ [x]) (hr : RowsG w5 (b + 1) v' (V.tok.take t ++ [x])) :
    CB w0 (w5.setCell ⟨b, 0, none⟩ v') V b bp (t + 1) j k v' mv D (cs.setIfInBounds 0 v') := by
  have hblk2 : Blk w5 b 59 cs := h.blk.grown hg (fun e => h.tvb e.symm)
  have hs := hg.size
  exact {
    below := (h.below.grown hg h.below.size (fun g e => by have := (h.rows.lt g e).1; have := h.new; omega)).setCell h.new _
    new := h.new
    blk := hblk2.set_ 0 v'
    size := by simpa using h.size
    c0 := by rw [Array.getElem?_setIfInBounds]; simp [h.size]
    c1 := by rw [Array.getElem?_setIfInBounds]; simpa using h.c1
    cB := fun c hc => by rw [Array.getElem?_setIfInBounds, if_neg (by omega)]; exact h.cB c hc
    cM := by rw [Array.getElem?_setIfInBounds]; simpa using h.cM
    rows := by
      rw [htk]
      exact hr.keep (fun i h1 _ => heap_setCell_other _ _ _ (by show i ≠ b; omega)) (by rw [size_setCell']; exact Nat.le_refl _)
    mrow := ownsRow_block h.mrow fun g e => by
      rw [heap_setCell_other _ _ _ (fun e2 => own_blk_ne h.mrow h.blk (by decide) (by rw [e, e2]))]
      obtain ⟨svs, h1, _⟩ := h.rows
      exact hg.block g (h.mrow.lt g e).2 (fun e2 => own_row_ne h.mrow h1 (by decide) g e e2.symm)
    map := ownsMap_block h.map (by
      rw [heap_setCell_other _ _ _ (by show bp ≠ b; have := h.bpn.2; omega)]
      exact hg.block bp (Nat.lt_trans h.bpn.2 h.blk.lt) (fun e => by have := (h.rows.lt bp e.symm).1; have := h.bpn.2; omega))
    isR := h.isR
    bpn := h.bpn }
theorem CB.setSingle (h : CB w0 wr V b bp t j k tv mv D cs) (hj : j < 256) : CB w0 (wr.setCell ⟨b, 2 + j, none⟩ (.int .i64 (j : Nat))) V b bp t (j + 1) k tv mv D (cs.setIfInBounds (2 + j) (.int .i64 (j : Nat))) := {
    below := h.below.setCell h.new _
    new := h.new
    blk := h.blk.set_ _ _
    size := by simpa using h.size
    c0 := by rw [Array.getElem?_setIfInBounds, if_neg (by omega)]; exact h.c0
    c1 := by rw [Array.getElem?_setIfInBounds, if_neg (by omega)]; exact h.c1
    cB := fun c hc => by
      rw [Array.getElem?_setIfInBounds]
      by_cases e : c = j
      · subst e
        rw [if_pos rfl, if_pos (by rw [h.size]; omega), if_pos (by omega)]
      · rw [if_neg (by omega), h.cB c hc]
        congr 2
        by_cases h1 : c < j
        · rw [if_pos h1, if_pos (by omega)]
        · rw [if_neg h1, if_neg (by omega)]
    cM := by rw [Array.getElem?_setIfInBounds, if_neg (by omega)]; exact h.cM
    rows := h.rows.keep (fun i h1 _ => heap_setCell_other _ _ _ (by show i ≠ b; omega)) (by rw [size_setCell']; exact Nat.le_refl _)
    mrow := ownsRow_block h.mrow fun g e => heap_setCell_other _ _ _ (fun e2 => own_blk_ne h.mrow h.blk (by decide) (by rw [e, e2]))
    map := ownsMap_block h.map (heap_setCell_other _ _ _ (by show bp ≠ b; have := h.bpn.2; omega))
    isR := h.isR
    bpn := h.bpn }
theorem CB.skip (h : CB w0 wr V b bp t j k tv mv D cs) (hj : 256 ≤ j) : CB w0 wr V b bp t (j + 1) k tv mv D cs :=
  { h with cB := fun c hc => by rw [h.cB c hc, if_pos (by omega), if_pos (by omega)] }
theorem CB.setMap {D' : DataW Unit} (h : CB w0 wr V b bp t j k tv mv D cs) (hm : ranksAt w' bp (k + 1) D') (hg : wr.grownBy w' (some bp)) (hr : RankMap D' (V.mer.take (k + 1))) : CB w0 w' V b bp t j (k + 1) tv mv D' cs := {
    below := h.below.grown hg h.below.size (fun g e => by cases e; exact h.bpn.1)
    new := h.new
    blk := h.blk.grown hg (fun e => by have := h.bpn.2; cases e; omega)
    size := h.size
    c0 := h.c0
    c1 := h.c1
    cB := h.cB
    cM := h.cM
    rows := h.rows.keep (fun i h1 h2 => hg.block i h2 (fun e => by have := h.bpn.2; cases e; omega)) hg.size
    mrow := ownsRow_block h.mrow fun g e => hg.block g (h.mrow.lt g e).2 (fun e2 => own_map_ne h.mrow h.map (by rw [e]; exact e2))
    map := hm
    isR := hr
    bpn := h.bpn }
theorem CB.coder (h : CB w0 wr V b bp V.tok.length j V.mer.length tv mv D cs) (hO : VOk V) (hj : 256 ≤ j) (hf : ∀ m ∈ V.mer, mgFits m) : Coder wr b V := by
  have hr := h.rows
  rw [List.take_length] at hr
  obtain ⟨svs, h1, h2⟩ := hr
  obtain ⟨A, ca, rfl⟩ := own_slice h1
  obtain ⟨B, cb, rfl⟩ := own_slice h.mrow
  obtain ⟨s1, _, _⟩ := (RowsG.rows (b := 0) ⟨svs, h1, h2⟩ (Nat.zero_le _)).see (by have := hO.tl; unfold maxLen; omega)
  obtain ⟨s2, _⟩ := MgSee.own h.mrow rfl (by have := hO.ml; unfold maxLen; omega) hf
  have hisR := h.isR
  rw [List.take_length] at hisR
  exact ⟨A, B, ca, cb, bp, D, cs, {
    blk := h.blk
    c0 := h.c0
    c1 := h.c1
    cB := fun c hc => by rw [h.cB c hc, if_pos (by omega)]
    cM := h.cM
    tok := s1
    mer := s2
    map := h.map
    isR := hisR
    mlt := Nat.lt_trans h.bpn.2 h.blk.lt }⟩
end
end Go.Proofs.Ytimbimnbaoaboaa
