/- The document's disk: Crash. Crash as it is called. -/
import Derived.Test.YtmhiekbpmoikfaaGreatDoorZp7
import Derived.Test.YtmhiekbpmoikfaaGreatDoorZp5
import Derived.Deep.DeepCutAuto
namespace Go.Proofs.YtmhiekbpmoikfaaGreatDoor
open Go.RowKit Go.Maps Go.WideMaps

theorem chCells_at : ∀ (l : List RCh) (i : Nat) (x : RCh), l[i]? = some x → (chCells l)[i * 3]? = some (.string ⟨x.frm.toArray⟩) ∧ (chCells l)[i * 3 + 1]? = some (.string ⟨x.to.toArray⟩) ∧ (chCells l)[i * 3 + 2]? = some (.int .i64 x.file)
  | y :: l, 0, x, h => by
    simp at h
    subst h
    exact ⟨rfl, rfl, rfl⟩
  | y :: l, i + 1, x, h => by
    have := chCells_at l i x (by simpa using h)
    simpa [chCells, Nat.add_mul] using this
theorem IsR1.chAt {w : World} {b : Nat} {G : Nat → Prop} {r : RSt} {vi vc : Value} {A : Option Addr} {c : Nat} {B : Option Addr} {cb : Nat} {svs : List Value} (h : IsR1 w b G r vi vc A c B cb svs) {i : Nat} {x : RCh} (hx : r.chs[i]? = some x) :
    ∃ g cap, vc = .slice (some ⟨g, 0, none⟩) r.chs.length cap ∧ w.cell? ⟨g, i * 3, none⟩ = some (.string ⟨x.frm.toArray⟩) ∧ w.cell? ⟨g, i * 3 + 1, none⟩ = some (.string ⟨x.to.toArray⟩) ∧ w.cell? ⟨g, i * 3 + 2, none⟩ = some (.int .i64 x.file) := by
  have hl := (List.getElem?_eq_some_iff.1 hx).1
  obtain ⟨c1, c2, c3⟩ := chCells_at r.chs i x hx
  rcases h.chs.2 with ⟨_, h0⟩ | ⟨g, cap, cur, hv, _⟩
  · omega
  · have e1 := h.chs.cells (g := g) (by rw [hv]; rfl) _ _ c1
    have e2 := h.chs.cells (g := g) (by rw [hv]; rfl) _ _ c2
    have e3 := h.chs.cells (g := g) (by rw [hv]; rfl) _ _ c3
    rw [Addr.add_mid] at e1 e2 e3
    simp only [Nat.zero_add] at e1 e2 e3
    exact ⟨g, cap, hv, e1, e2, e3⟩
def rEffAll (d : Dir) (l : List RCh) : Dir := l.foldl (fun d c => c.eff d) d
theorem rEffAll_snoc (d : Dir) (l : List RCh) (x : RCh) : rEffAll d (l ++ [x]) = x.eff (rEffAll d l) := by simp [rEffAll]
theorem rEffAll_len (d : Dir) (l : List RCh) : (rEffAll d l).length ≤ d.length + l.length := by
  induction l generalizing d with
  | nil => simp [rEffAll]
  | cons x t ih =>
    have h1 := ih (x.eff d)
    have h2 := eff_len x d
    simp only [rEffAll, List.foldl_cons, List.length_cons] at h1 ⊢
    omega
theorem rEffAll_file (d : Dir) (l : List RCh) (m : Nat) (hd : ∀ p ∈ d, p.2 < m) (hl : ∀ c ∈ l, c.to = [] ∨ c.file < m) : ∀ p ∈ rEffAll d l, p.2 < m := by
  induction l generalizing d with
  | nil => exact hd
  | cons x t ih => exact ih (x.eff d) (eff_file x d m hd (hl x (List.mem_cons_self ..))) (fun c hc => hl c (List.mem_cons_of_mem _ hc))
/-- How much of a file a crash leaves. -/
def rKeep (x : Nm × Nat) (cut : Int) : Nat := x.2 + partN cut (x.1.length - x.2)
def rCut (x : Nm × Nat) (cut : Int) : Nm × Nat := (x.1.take (rKeep x cut), rKeep x cut)
theorem rKeep_le (x : Nm × Nat) (cut : Int) (h : x.2 ≤ x.1.length) : rKeep x cut ≤ x.1.length := by
  have := partN_le cut (x.1.length - x.2)
  unfold rKeep
  omega
def rCutAt (ino : List (Nm × Nat)) (j : Nat) (cut : Int) : List (Nm × Nat) :=
  match ino[j]? with
  | some x => ino.set j (rCut x cut)
  | none => ino
def rCutN (ino : List (Nm × Nat)) (cs : List Int) (d : Dir) : Nat → List (Nm × Nat)
  | 0 => ino
  | k + 1 => match d[k]? with
    | some p => rCutAt (rCutN ino cs d k) p.2 (cutOf cs k)
    | none => rCutN ino cs d k
theorem rCutN_succ (ino : List (Nm × Nat)) (cs : List Int) (d : Dir) (k : Nat) {p : Nm × Nat} (h : d[k]? = some p) {x : Nm × Nat} (hx : (rCutN ino cs d k)[p.2]? = some x) : rCutN ino cs d (k + 1) = (rCutN ino cs d k).set p.2 (rCut x (cutOf cs k)) := by
  simp only [rCutN, h, rCutAt, hx]
theorem rCutN_len (ino : List (Nm × Nat)) (cs : List Int) (d : Dir) : ∀ k, (rCutN ino cs d k).length = ino.length
  | 0 => rfl
  | k + 1 => by
    simp only [rCutN]
    cases d[k]? with
    | none => exact rCutN_len ino cs d k
    | some p =>
      simp only [rCutAt]
      cases (rCutN ino cs d k)[p.2]? with
      | none => exact rCutN_len ino cs d k
      | some x => simp only [List.length_set]; exact rCutN_len ino cs d k
def rBack (r : RSt) (acts : Int) : Dir := rEffAll r.old (r.chs.take (partN acts r.chs.length))
def rCrashed (r : RSt) (acts : Int) (cs : List Int) : RSt :=
  { r with ino := rCutN r.ino cs (rBack r acts) (rBack r acts).length, dir := rBack r acts, old := rBack r acts, chs := [], fused := false, left := 0, off := false }
/-- More blocks that are only read. -/
theorem IsR1.more {w : World} {b : Nat} {G : Nat → Prop} {r : RSt} {vi vc : Value} {A : Option Addr} {c : Nat} {B : Option Addr} {cb : Nat} {svs : List Value} (h : IsR1 w b G r vi vc A c B cb svs) (N : Nat → Prop)
    (hN : ∀ i, N i → i < w.heap.size ∧ (G i ∨ (i ≠ b ∧ vi.ownBlock ≠ some i ∧ vc.ownBlock ≠ some i))) : IsR1 w b (fun i => G i ∨ N i) r vi vc A c B cb svs :=
  { h with
    dat := fun i sv x e1 e2 => by
      obtain ⟨D, cd, h1, h2, h3, h4⟩ := h.dat i sv x e1 e2
      exact ⟨D, cd, h1, h2, h3, fun ad e h0 => .inl (h4 ad e h0)⟩
    dirG := fun ad e h0 => .inl (h.dirG ad e h0)
    oldG := fun ad e h0 => .inl (h.oldG ad e h0)
    gb := fun hg => by
      rcases hg with hg | hg
      · exact h.gb hg
      · rcases (hN b hg).2 with h1 | h1
        · exact h.gb h1
        · exact h1.1 rfl
    gi := fun g e hg => by
      rcases hg with hg | hg
      · exact h.gi g e hg
      · rcases (hN g hg).2 with h1 | h1
        · exact h.gi g e h1
        · exact h1.2.1 e
    gc := fun g e hg => by
      rcases hg with hg | hg
      · exact h.gc g e hg
      · rcases (hN g hg).2 with h1 | h1
        · exact h.gc g e h1
        · exact h1.2.2 e
    glt := fun i hi => by
      rcases hi with hi | hi
      · exact h.glt i hi
      · exact (hN i hi).1 }

/-- A file's bytes are written anew. -/
theorem IsR1.setDat {w w4 : World} {b : Nat} {G : Nat → Prop} {r : RSt} {gi cap : Nat} {vc : Value} {A : Option Addr} {c : Nat} {B : Option Addr} {cb : Nat} {svs : List Value} (h : IsR1 w b G r (.slice (some ⟨gi, 0, none⟩) r.ino.length cap) vc A c B cb svs)
    {f : Nat} {x : Nm × Nat} (hx : r.ino[f]? = some x) (hB : Below w.heap.size w w4) {A4 : Option Addr} {c4 n : Nat} {yd : Nm} (ho : w4.ownsRow w.heap.size 5 1 (.slice A4 n c4) n (yd.map byteV)) (hyd : yd.length = n) (hx2 : x.2 ≤ n) (hn : n ≤ 262144) :
    IsR1 (w4.setCell ⟨gi, f * 2, none⟩ (.slice A4 n c4)) b (fun i => G i ∨ ∃ ad, A4 = some ad ∧ 0 < n ∧ i = ad.block) { r with ino := r.ino.set f (yd, x.2) } (.slice (some ⟨gi, 0, none⟩) r.ino.length cap) vc A c B cb (svs.set f (.slice A4 n c4)) := by
  have hf := (List.getElem?_eq_some_iff.1 hx).1
  have hgb : gi ≠ b := fun e => own_blk_ne h.ino h.blk (by decide) (by rw [e]; rfl)
  have hgl : gi < w.heap.size := (h.ino.lt gi rfl).2
  have hs4 := hB.size
  have hcap4 : n ≤ c4 := by
    obtain ⟨A', c', q1, q2⟩ := own_cap ho
    injection q1 with _ _ q3
    omega
  have o4 := ownsRow_block h.ino fun g hg => hB.block g (h.ino.lt g hg).2
  have hb5 : ∀ i, i ≠ gi → (w4.setCell ⟨gi, f * 2, none⟩ (.slice A4 n c4)).heap[i]? = w4.heap[i]? := fun i h1 => heap_setCell_other w4 ⟨gi, f * 2, none⟩ _ h1
  have hin4 : BytesIn (w4.setCell ⟨gi, f * 2, none⟩ (.slice A4 n c4)) A4 n yd := bytes_keep' (BytesIn.own ho (by unfold maxLen; omega)) (fun ad e h0 => hb5 _ (fun e2 => by have := (ho.lt ad.block (by rw [e]; rfl)).1; omega)) (by simp [World.setCell])
  exact h.inos (w' := w4.setCell ⟨gi, f * 2, none⟩ (.slice A4 n c4)) (by simp [World.setCell]; omega) (fun i _ h2 h3 => (hb5 i (fun e => h2 (by rw [e]; rfl))).trans (hB.block i h3)) (ino' := r.ino.set f (yd, x.2)) (vi' := .slice (some ⟨gi, 0, none⟩) r.ino.length cap) (svs' := svs.set f (.slice A4 n c4)) (fun i => ∃ ad, A4 = some ad ∧ 0 < n ∧ i = ad.block)
    ((hb5 b (fun e => hgb e.symm)).trans ((hB.block b h.blk.lt).trans h.blk))
    (by
      have h1 := (o4.stored (f * 2) (.slice A4 n c4)).1
      rw [inoCells_dat _ yd r.ino svs f x h.isl.symm hx] at h1
      rw [List.length_set]
      exact h1)
    (by rw [List.length_set, List.length_set]; exact h.isl)
    (fun i sv y f1 f2 => by
      by_cases hij : i = f
      · subst hij
        rw [List.getElem?_set_self (by omega)] at f2
        rw [List.getElem?_set_self (by rw [h.isl]; omega)] at f1
        cases f1
        cases f2
        refine .inr ⟨A4, c4, by rw [hyd], by rw [hyd]; exact hcap4, by rw [hyd]; exact hin4, fun ad e h0 => ⟨ad, e, by rw [hyd] at h0; exact h0, rfl⟩⟩
      · rw [List.getElem?_set_ne (fun e => hij e.symm)] at f1 f2
        exact .inl ⟨y, f1, f2, rfl⟩)
    (fun i ⟨ad, q1, q2, q3⟩ => by
      have h1 := ho.lt ad.block (by rw [q1]; rfl)
      rw [q3]
      refine ⟨h1.1, by simpa [World.setCell] using h1.2, fun e => ?_⟩
      have : gi = ad.block := by simpa [Value.ownBlock] using e
      omega)
    (.inl rfl)
    { h.wf with
      nino := by rw [List.length_set]; exact h.wf.nino
      fdir := fun p hp => by rw [List.length_set]; exact h.wf.fdir p hp
      fold := fun p hp => by rw [List.length_set]; exact h.wf.fold p hp
      fchs := fun c hc => by rw [List.length_set]; exact h.wf.fchs c hc
      fit := fun y hy => by
        rcases List.mem_or_eq_of_mem_set hy with h1 | h1
        · exact h.wf.fit y h1
        · rw [h1]
          exact ⟨by show x.2 ≤ yd.length; rw [hyd]; exact hx2, by show yd.length ≤ _; rw [hyd]; exact hn⟩ }
/-- The disk as a crash leaves it. -/
theorem IsR1.back {w w' : World} {b : Nat} {G : Nat → Prop} {r : RSt} {vi vc : Value} {A : Option Addr} {c : Nat} {B : Option Addr} {cb : Nat} {svs : List Value} (h : IsR1 w b G r vi vc A c B cb svs)
    (hk2 : ∀ i, i ≠ b → w'.heap[i]? = w.heap[i]?) (hs2 : w.heap.size ≤ w'.heap.size) {A' : Option Addr} {n' c' : Nat} {L : Dir} (hD : DirIn w A' n' L) (hDG : ∀ ad, A' = some ad → 0 < n' → G ad.block) (hL : n' ≤ 100000) (hLf : ∀ p ∈ L, p.2 < r.ino.length)
    (blk : Blk w' b 64 #[.int .i64 r.room, vi, .slice A' n' c', .slice A' n' c', .slice none 0 0, .int .i64 r.done, .bool false, .int .i64 0, .bool false]) :
    IsR1 w' b G { r with dir := L, old := L, chs := [], fused := false, left := 0, off := false } vi (.slice none 0 0) A' c' A' c' svs := by
  have hl := hD.len
  have hdd : DirIn w' A' n' L := hD.keep fun ad e h0 => hk2 _ (fun e2 => h.gb (by rw [← e2]; exact hDG ad e h0))
  subst hl
  exact {
    wf := { h.wf with ndir := hL, nold := hL, nchs := by simp, fdir := hLf, fold := hLf, fchs := by simp, nleft := by simp }
    blk := blk
    ino := ownsRow_block h.ino fun g hg => hk2 g (fun e => own_blk_ne h.ino h.blk (by decide) (by rw [hg, e]))
    isl := h.isl
    dat := fun i sv x e1 e2 => by
      obtain ⟨D, cd, q1, q2, q3, q4⟩ := h.dat i sv x e1 e2
      exact ⟨D, cd, q1, q2, ⟨q3.1, q3.2.1.keep fun ad e h0 => hk2 _ (fun e2 => h.gb (by rw [← e2]; exact q4 ad e h0)), fun ad e h0 => Nat.lt_of_lt_of_le (q3.2.2 ad e h0) hs2⟩, q4⟩
    dir := hdd
    dirG := hDG
    old := hdd
    oldG := hDG
    chs := World.ownsRow_nil _ _ _ _
    gb := h.gb
    gi := h.gi
    gc := fun g hg => by simp [Value.ownBlock] at hg
    glt := fun i hi => Nat.lt_of_lt_of_le (h.glt i hi) hs2 }
/-- How much of a file is synced is written anew. -/
theorem IsR1.setSyn {w : World} {b : Nat} {G : Nat → Prop} {r : RSt} {gi cap : Nat} {vc : Value} {A : Option Addr} {c : Nat} {B : Option Addr} {cb : Nat} {svs : List Value} (h : IsR1 w b G r (.slice (some ⟨gi, 0, none⟩) r.ino.length cap) vc A c B cb svs)
    {f : Nat} {x : Nm × Nat} (hx : r.ino[f]? = some x) (n : Nat) (hn : n ≤ x.1.length) :
    IsR1 (w.drew.setCell ⟨gi, f * 2 + 1, none⟩ (.int .i64 n)) b (fun i => G i ∨ False) { r with ino := r.ino.set f (x.1, n) } (.slice (some ⟨gi, 0, none⟩) r.ino.length cap) vc A c B cb svs := by
  have hf := (List.getElem?_eq_some_iff.1 hx).1
  have hgb : gi ≠ b := fun e => own_blk_ne h.ino h.blk (by decide) (by rw [e]; rfl)
  have hnew := (h.ino.stored (f * 2 + 1) (.int .i64 n)).1
  rw [inoCells_syn n x.1 r.ino svs f x h.isl.symm hx] at hnew
  exact h.inos (w' := w.drew.setCell ⟨gi, f * 2 + 1, none⟩ (.int .i64 n)) (by simp [World.setCell]) (fun i _ h2 _ => heap_setCell_other w ⟨gi, f * 2 + 1, none⟩ (.int .i64 n) (by show i ≠ gi; exact fun e => h2 (by rw [e]; rfl))) (ino' := r.ino.set f (x.1, n)) (vi' := .slice (some ⟨gi, 0, none⟩) r.ino.length cap) (svs' := svs) (fun _ => False)
    ((heap_setCell_other w ⟨gi, f * 2 + 1, none⟩ (.int .i64 n) (by show b ≠ gi; exact fun e => hgb e.symm)).trans h.blk)
    (by rw [List.length_set]; exact hnew) (by rw [List.length_set]; exact h.isl)
    (fun i sv y f1 f2 => by
      by_cases hij : i = f
      · subst hij
        rw [List.getElem?_set_self (by omega)] at f2
        cases f2
        exact .inl ⟨x, f1, hx, rfl⟩
      · rw [List.getElem?_set_ne (fun e => hij e.symm)] at f2
        exact .inl ⟨y, f1, f2, rfl⟩)
    (fun i h => h.elim) (.inl rfl)
    { h.wf with
      nino := by rw [List.length_set]; exact h.wf.nino
      fdir := fun p hp => by rw [List.length_set]; exact h.wf.fdir p hp
      fold := fun p hp => by rw [List.length_set]; exact h.wf.fold p hp
      fchs := fun c hc => by rw [List.length_set]; exact h.wf.fchs c hc
      fit := fun y hy => by
        have hq := h.wf.fit x (List.mem_of_getElem? hx)
        rcases List.mem_or_eq_of_mem_set hy with h1 | h1
        · exact h.wf.fit y h1
        · rw [h1]; exact ⟨hn, hq.2⟩ }

set_option linter.unusedSimpArgs false in
set_option maxHeartbeats 8000000 in
set_option maxRecDepth 100000 in
theorem r1Crash_any (w : World) (F : Nat → Prop) (b : Nat) (r : RSt) (hR : R1At w F b r) (hsum : r.old.length + r.chs.length ≤ 100000) (acts : Int) (hacts : acts ≤ 9223372036854775807) (Ac : Option Addr) (nc cc : Nat) (cs : List Int) (hsrc : Src w Ac nc (cs.map i64v))
    (hAc : ∀ ad, Ac = some ad → 0 < nc → ad.block < w.heap.size ∧ ¬ F ad.block) (hcut : ∀ j, cutOf cs j ≤ 9223372036854775807) :
    Calls Tryz.prog 35 #[at0 b, .agg #[.int .i64 acts, .slice Ac nc cc]] w fun e w' => e = .returned (.tuple #[]) ∧ (∃ F', R1At w' F' b (rCrashed r acts cs) ∧ ∀ i, F' i → F i ∨ w.heap.size ≤ i) ∧ Kept F w w' := by
  obtain ⟨G, vi, vc, A, c, B, cb, svs, h0, hF, hlt⟩ := hR
  have hbl := hlt b (hF b (.inl rfl))
  have hb0 := (Below.refl w.heap.size w).alloc (Nat.le_refl _) (.cells #[.int .i64 acts, .slice Ac nc cc] 48)
  have h := h0.same (w' := w.alloc (.cells #[.int .i64 acts, .slice Ac nc cc] 48)) (fun i hi => hb0.block i (hlt i (hF i hi))) (by simp)
  have hx := Blk.new w 48 #[.int .i64 acts, .slice Ac nc cc]
  have x0 := hx.cell 0
  have x1 := hx.cell 1
  simp at x0 x1
  have c3 := h.blk.cell 3
  have c4 := h.blk.cell 4
  simp at c3 c4
  obtain ⟨Av, cv, hv⟩ := own_slice h.chs
  rw [hv] at c4
  obtain ⟨M, hM⟩ : ∃ M, M = partN acts r.chs.length := ⟨_, rfl⟩
  have hMl : M ≤ r.chs.length := by rw [hM]; exact partN_le _ _
  have ha1 : IntKind.i64.wrap ((r.chs.length : Int) + 1) = (r.chs.length : Int) + 1 := IntWalk.i64_in _ (by omega)
  have HS := Lib.hid hsum
  have H := Lib.hid h
  have H0 := Lib.hid h0
  have HF := Lib.hid hF
  have HLT := Lib.hid hlt
  have HX := Lib.hid hx
  have HSRC := Lib.hid hsrc
  have HAC := Lib.hid hAc
  have HCUT := Lib.hid hcut
  have HM := Lib.hid hM
  have HV := Lib.hid hv
  have HB0 := Lib.hid hb0
  clear h h0 hF hlt hx hsrc hAc hcut hM hv hb0
  unfold at0
  go_enter Tryz.func35, Tryz.ntmps35
  go_upto_if 17 with fail
  go_cut [5] (fun v wx => v = .int .i64 M ∧ ∃ q, wx = (w.alloc (.cells #[.int .i64 acts, .slice Ac nc cc] 48)).drewN q)
  case first =>
    by_cases ha0 : 0 ≤ acts
    · obtain ⟨k, rfl⟩ := Int.eq_ofNat_of_zero_le ha0
      have p1 : (k : Int) ≤ 9223372036854775807 := by omega
      go_wp2_with fail
      go_quiet (fail)
      go_wp2
      go_meet
      have hMk : (k : Int) % ((r.chs.length : Int) + 1) = (M : Int) := by
        rw [HM.out, partN, if_neg (by omega)]
        simp
      exact ⟨by rw [hMk], _, rfl⟩
    · have hMz : M = 0 := by rw [HM.out, partN, if_pos (by omega)]
      go_wp2_with fail
      go_meet
      case rel =>
        exact ⟨by rw [hMz]; rfl, 0, rfl⟩
  case rest =>
    obtain ⟨rfl, q, rfl⟩ := hcut
    obtain ⟨W, hW⟩ : ∃ W, W = (w.alloc (.cells #[.int .i64 acts, .slice Ac nc cc] 48)).drewN q := ⟨_, rfl⟩
    have hWs : W.heap.size = w.heap.size + 1 := by rw [hW]; simp
    have HW := Lib.hid (show IsR1 W b G r vi vc A c B cb svs by rw [hW]; exact H.out.same (fun _ _ => rfl) (Nat.le_refl _))
    have HXW := Lib.hid (show Blk W w.heap.size 48 #[.int .i64 acts, .slice Ac nc cc] by rw [hW]; exact HX.out)
    have HKW := Lib.hid (show Below w.heap.size w W by rw [hW]; exact below_drewN HB0.out q)
    have hWg : w.heap.size ≤ W.heap.size := by omega
    have hWg2 : W.heap.size ≤ w.heap.size + 1 := by omega
    have hWg3 : w.heap.size < W.heap.size := by omega
    rw [← hW]
    clear hW hWs x0 x1 c3 c4 H HX HB0
    go_wp2
    go_loopw [4, 6] (fun l i wr => ∃ (k : Nat) (A' : Option Addr) (n' c' : Nat), k ≤ M ∧ i = .int .i64 k ∧ l = .slice A' n' c' ∧ DirIn wr A' n' (rEffAll r.old (r.chs.take k)) ∧ (∀ ad, A' = some ad → 0 < n' → G ad.block ∨ W.heap.size ≤ ad.block) ∧ Below W.heap.size W wr) (fun _ i _ => M - (intOf i).toNat)
    case atStart => exact ⟨0, B, _, cb, by omega, rfl, rfl, HW.out.old, fun ad e h0 => .inl (HW.out.oldG ad e h0), Below.refl _ _⟩
    case round =>
      obtain ⟨k, A', n', c', hk, rfl, rfl, hD, hG, hB⟩ := hrel
      have hr := HW.out.same (w' := wr) (fun i hi => hB.block i (by have := HLT.out i (HF.out i hi); omega)) hB.size
      have hDl := hD.len
      have hDb := rEffAll_len r.old (r.chs.take k)
      rw [List.length_take] at hDb
      have hn1 : n' ≤ 1000000 := by have := HS.out; omega
      have HR := Lib.hid hr
      have HD := Lib.hid hD
      have HG := Lib.hid hG
      have HB := Lib.hid hB
      clear hD hG hB hDl hDb
      rcases Nat.lt_or_ge k M with hlt | hge
      · have hlt' : (k : Int) < (M : Int) := by omega
        have p0 : (0 : Int) ≤ (k : Int) := by omega
        obtain ⟨x, hx⟩ : ∃ x, r.chs[k]? = some x := ⟨_, List.getElem?_eq_getElem (by omega)⟩
        obtain ⟨g, cap, hvc, e1, e2, e3⟩ := hr.chAt hx
        have c4 := hr.blk.cell 4
        simp at c4
        rw [hvc] at c4
        have p1 : (k : Int) < (r.chs.length : Int) := by omega
        have HXX := Lib.hid hx
        clear hr hx hvc
        go_wp2_with fail
        refine (r1changed_any wr A' n' c' _ HD.out hn1 x).mono ?_
        rintro e w2 ⟨A2, c2, rfl, hd2, hor, hB2⟩
        have HD2 := Lib.hid hd2
        have HOR := Lib.hid hor
        have HB2 := Lib.hid hB2
        clear hd2 hor hB2
        go_wp2
        go_roundw
        case rel =>
          refine ⟨k + 1, A2, _, c2, by omega, by go_num, rfl, ?_, ?_, below_then HB.out HB2.out HB.out.size⟩
          · rw [take_snocD HXX.out, rEffAll_snoc]
            exact HD2.out
          · intro ad e h0
            rcases HOR.out with ⟨h1, h2⟩ | h1
            · rw [h2] at h0
              rw [h1] at e
              exact HG.out ad e (by rw [← HD.out.len]; exact h0)
            · exact .inr (Nat.le_trans HB.out.size (h1 ad e))
        case measure => simp [intOf]; omega
      · obtain rfl : k = M := by omega
        have hlz : ¬ ((k : Int) < (k : Int)) := by omega
        clear hr
        obtain ⟨L, hL⟩ : ∃ L, L = rEffAll r.old (r.chs.take k) := ⟨_, rfl⟩
        have hLB : L = rBack r acts := by rw [hL, HM.out]; rfl
        have hfile : ∀ p ∈ L, p.2 < r.ino.length := by
          rw [hL]
          exact rEffAll_file _ _ _ HW.out.wf.fold fun c hc => HW.out.wf.fchs c (List.mem_of_mem_take hc)
        have hDL : DirIn wr A' n' L := by rw [hL]; exact HD.out
        have hr2 := HR.out.more (fun i => ∃ ad, A' = some ad ∧ 0 < n' ∧ i = ad.block) (fun i ⟨ad, h1, h2, h3⟩ => ⟨by rw [h3]; exact HD.out.lt ad h1 h2, by
          rw [h3]
          rcases HG.out ad h1 h2 with h4 | h4
          · exact .inl h4
          · refine .inr ⟨by omega, fun e => ?_, fun e => ?_⟩
            · have := (HW.out.ino.lt _ e).2; omega
            · have := (HW.out.chs.lt _ e).2; omega⟩)
        have hG2 : ∀ i, (G i ∨ ∃ ad, A' = some ad ∧ 0 < n' ∧ i = ad.block) → F i ∨ w.heap.size < i := fun i hi => by
          rcases hi with h1 | ⟨ad, h1, h2, h3⟩
          · exact .inl (HF.out i (.inr (.inr (.inr h1))))
          · rcases HG.out ad h1 h2 with h4 | h4
            · exact .inl (HF.out i (.inr (.inr (.inr (by rw [h3]; exact h4)))))
            · exact .inr (by omega)
        have hDG : ∀ ad, A' = some ad → 0 < n' → (G ad.block ∨ ∃ ad', A' = some ad' ∧ 0 < n' ∧ ad.block = ad'.block) := fun ad e h0 => .inr ⟨ad, e, h0, rfl⟩
        obtain ⟨G2, hg2⟩ : ∃ G2 : Nat → Prop, G2 = fun i => G i ∨ ∃ ad, A' = some ad ∧ 0 < n' ∧ i = ad.block := ⟨_, rfl⟩
        have HR2 := Lib.hid (show IsR1 wr b G2 r vi vc A c B cb svs by rw [hg2]; exact hr2)
        have HG2 := Lib.hid (show ∀ i, G2 i → F i ∨ w.heap.size < i by rw [hg2]; exact hG2)
        have HDG := Lib.hid (show ∀ ad, A' = some ad → 0 < n' → G2 ad.block by rw [hg2]; exact hDG)
        have HDL := Lib.hid hDL
        have HLB := Lib.hid hLB
        have HFILE := Lib.hid hfile
        have hDfit := hDL.fit
        clear hr2 hG2 hDG hg2 hDL hLB hfile hL
        obtain ⟨V, hV⟩ : ∃ V, V = wr := ⟨_, rfl⟩
        subst hV
        go_wp2
        go_loopw [7] (fun i wx => ∃ (k' : Nat) (G' : Nat → Prop) (svs' : List Value), k' ≤ n' ∧ i = .int .i64 k' ∧ IsR1 wx b G' { r with ino := rCutN r.ino cs L k' } vi vc A c B cb svs' ∧ (∀ i, G' i → G2 i ∨ V.heap.size ≤ i) ∧ (∀ i, G2 i → G' i) ∧ Kept (fun i => vi.ownBlock = some i) V wx) (fun i _ => n' - (intOf i).toNat)
        case atStart => exact ⟨0, G2, svs, by omega, rfl, HR2.out, fun i h => .inl h, fun i h => h, Kept.refl _ _⟩
        case round =>
          obtain ⟨j, G', svs', hj, rfl, hI, hg1, hg2, hK⟩ := hrel
          have HI := Lib.hid hI
          have HG1 := Lib.hid hg1
          have HG2' := Lib.hid hg2
          have HK := Lib.hid hK
          clear hI hg1 hg2 hK
          rcases Nat.lt_or_ge j n' with hlt2 | hge2
          · have hlt3 : (j : Int) < (n' : Int) := by omega
            have p0 : (0 : Int) ≤ (j : Int) := by omega
            have hDx : DirIn wr A' n' L := HDL.out.keep fun ad e h0 => HK.out.block _ (HDL.out.lt ad e h0) (fun e2 => HR2.out.gi _ e2 (HDG.out ad e h0))
            have hX2 : Blk wr w.heap.size 48 #[.int .i64 acts, .slice Ac nc cc] := (HXW.out.below HB.out hWg3).kept HK.out (fun e => by have := HLT.out _ (HF.out _ (.inr (.inl e))); omega)
            have hsrc2 : Src wr Ac nc (cs.map i64v) := HSRC.out.keep fun ad e h0 => by
              have h1 := HAC.out ad e h0
              have h2 := HB.out.size
              rw [HK.out.block _ (by omega) (fun e2 => h1.2 (HF.out _ (.inr (.inl e2)))), HB.out.block _ (by omega), HKW.out.block _ h1.1]
            have x0 := hX2.cell 0
            have x1 := hX2.cell 1
            simp at x0 x1
            obtain ⟨ad, ⟨pn, f⟩, rfl, hp, d1, d2⟩ := hDx.at j hlt2
            have hf : f < r.ino.length := HFILE.out _ (List.mem_of_getElem? hp)
            obtain ⟨⟨xd, xs⟩, hx⟩ : ∃ x, (rCutN r.ino cs L j)[f]? = some x := ⟨_, List.getElem?_eq_getElem (by rw [rCutN_len]; exact hf)⟩
            obtain ⟨gi, cap, D, cd, hvi, hsv, e1, e2, e3, e4, e5⟩ := HI.out.inode hx
            have hvi' : vi = .slice (some ⟨gi, 0, none⟩) r.ino.length cap := by rw [hvi]; show Value.slice _ (rCutN r.ino cs L j).length _ = _; rw [rCutN_len]
            clear hvi
            subst hvi'
            obtain ⟨hft1, hft2⟩ := HI.out.wf.fit _ (List.mem_of_getElem? hx)
            have c1 := HI.out.blk.cell 1
            simp at c1
            simp only at hft1 hft2 e1 e2 e3 e4 e5 d2
            obtain ⟨m, hm⟩ : ∃ m, m = xd.length := ⟨_, rfl⟩
            rw [← hm] at hft1 hft2 e1 e3 e4 e5 hsv
            have hino := HI.out.ino
            simp only [rCutN_len] at hino
            have hgb : gi ≠ b := fun e => own_blk_ne hino HI.out.blk (by decide) (by rw [e]; rfl)
            have ez := hino.frozenAt (f * 2)
            have ez1 := hino.frozenAt (f * 2 + 1)
            have HINO := Lib.hid hino
            clear hino
            obtain ⟨T, hT⟩ : ∃ T : Nat, T = m - xs := ⟨_, rfl⟩
            have hsb : IntKind.i64.wrap ((m : Int) - (xs : Int)) = (T : Int) := by rw [IntWalk.i64_in _ (by omega)]; omega
            have hTl : T ≤ 262144 := by omega
            have hsb1 : IntKind.i64.wrap ((T : Int) + 1) = (T : Int) + 1 := IntWalk.i64_in _ (by omega)
            obtain ⟨C, hC⟩ : ∃ C, C = cutOf cs j := ⟨_, rfl⟩
            have hCl : C ≤ 9223372036854775807 := by rw [hC]; exact HCUT.out j
            obtain ⟨Z, hZ⟩ : ∃ Z, Z = partN C T := ⟨_, rfl⟩
            have hZl : Z ≤ T := by rw [hZ]; exact partN_le _ _
            have q0 : (0 : Int) ≤ (f : Int) := by omega
            have q1 : (f : Int) < (r.ino.length : Int) := by omega
            have HP := Lib.hid hp
            have HX := Lib.hid hx
            have HM2 := Lib.hid hm
            have HSV := Lib.hid hsv
            have HE4 := Lib.hid e4
            have HE5 := Lib.hid e5
            have HSRC2 := Lib.hid hsrc2
            have HT := Lib.hid hT
            have HZ := Lib.hid hZ
            have HC := Lib.hid hC
            have HDX := Lib.hid hDx
            have HX2 := Lib.hid hX2
            clear hp hx hm hsv e4 e5 hsrc2 hT hZ hC hDx hX2 d1 hft1
            go_wp2_with fail
            go_quiet (fail)
            go_upto_region 15 with fail
            go_cut [82] (fun v wy => v = .bool (decide (j < nc ∧ 0 ≤ C)) ∧ wy = wr.drewN nq)
            case first =>
              by_cases hjc : j < nc
              · have l0 : (j : Int) < (nc : Int) := by omega
                obtain ⟨⟨bc, oc, sc⟩, rfl⟩ : ∃ adc, Ac = some adc := by
                  cases Ac with
                  | none => have := HSRC2.out.nil rfl; omega
                  | some ad => exact ⟨ad, rfl⟩
                have hcl : cs.length = nc := by have := HSRC2.out.len; simpa using this
                have hcc : cs[j]? = some C := by rw [HC.out]; unfold cutOf; rw [List.getD_eq_getElem?_getD, List.getElem?_eq_getElem (by omega)]; rfl
                have ec := HSRC2.out.cells _ rfl j (i64v C) (by rw [List.getElem?_map, hcc]; rfl)
                unfold i64v at ec
                clear hcl hcc
                by_cases hz : 0 ≤ C
                · go_wp2_with fail
                  go_meet
                  case rel => exact ⟨by simp [hjc, hz], rfl⟩
                · go_wp2_with fail
                  go_meet
                  case rel => exact ⟨by simp [hz], rfl⟩
              · have l0 : ¬ (j : Int) < (nc : Int) := by omega
                go_wp2_with fail
                go_meet
                case rel => exact ⟨by simp [hjc], rfl⟩
            case rest =>
              obtain ⟨rfl, rfl⟩ := hcut
              obtain ⟨tb, htb⟩ : ∃ tb : Bool, tb = decide (j < nc ∧ 0 ≤ C) := ⟨_, rfl⟩
              rw [← htb]
              have HTB := Lib.hid htb
              clear htb
              go_upto_if 82 with fail
              go_cut [10] (fun v wy => v = .int .i64 Z ∧ ∃ q, wy = wr.drewN q)
              case first =>
                cases tb with
                | true =>
                  have hjc : j < nc ∧ 0 ≤ C := of_decide_eq_true HTB.out.symm
                  have l0 : (j : Int) < (nc : Int) := by omega
                  obtain ⟨⟨bc, oc, sc⟩, rfl⟩ : ∃ adc, Ac = some adc := by
                    cases Ac with
                    | none => have := HSRC2.out.nil rfl; omega
                    | some ad => exact ⟨ad, rfl⟩
                  have hcl : cs.length = nc := by have := HSRC2.out.len; simpa using this
                  have hcc : cs[j]? = some C := by rw [HC.out]; unfold cutOf; rw [List.getD_eq_getElem?_getD, List.getElem?_eq_getElem (by omega)]; rfl
                  have ec := HSRC2.out.cells _ rfl j (i64v C) (by rw [List.getElem?_map, hcc]; rfl)
                  unfold i64v at ec
                  have hZC : 0 ≤ C := hjc.2
                  have hzz : Z = C.toNat % (T + 1) := by rw [HZ.out, partN, if_neg (by omega)]
                  have HZZ := Lib.hid hzz
                  clear hcl hcc hjc hzz
                  obtain ⟨K, hK⟩ := Int.eq_ofNat_of_zero_le hZC
                  subst hK
                  go_wp2_with fail
                  go_meet
                  case rel =>
                    have hzk : (K : Int) % ((T : Int) + 1) = (Z : Int) := by rw [HZZ.out]; simp
                    exact ⟨by rw [hzk], _, rfl⟩
                | false =>
                  have hjc : ¬ (j < nc ∧ 0 ≤ C) := of_decide_eq_false HTB.out.symm
                  have hz0 : Z = 0 := by
                    rw [HZ.out, partN]
                    split
                    · rfl
                    · rename_i h1
                      have h2 : ¬ j < nc := fun h => hjc ⟨h, by omega⟩
                      have hcl : cs.length = nc := by have := HSRC2.out.len; simpa using this
                      have : C = 0 := by rw [HC.out]; unfold cutOf; rw [List.getD_eq_getElem?_getD, List.getElem?_eq_none (by omega)]; rfl
                      rw [this]; simp
                  have HZ0 := Lib.hid hz0
                  clear hjc hz0
                  go_wp2_with fail
                  go_meet
                  case rel => exact ⟨by rw [HZ0.out]; rfl, _, rfl⟩
              case rest =>
                obtain ⟨rfl, q2, rfl⟩ := hcut
                obtain ⟨U, hU⟩ : ∃ U, U = wr.drewN q2 := ⟨_, rfl⟩
                have HIU := Lib.hid (show IsR1 U b G' { r with ino := rCutN r.ino cs L j } (.slice (some ⟨gi, 0, none⟩) r.ino.length cap) vc A c B cb svs' by rw [hU]; exact HI.out.same (fun _ _ => rfl) (Nat.le_refl _))
                have HI2 := Lib.hid (show IsR1 U b G' { r with ino := rCutN r.ino cs L j } (.slice (some ⟨gi, 0, none⟩) (rCutN r.ino cs L j).length cap) vc A c B cb svs' by rw [rCutN_len]; exact HIU.out)
                have HKU := Lib.hid (show Kept (fun i => Value.ownBlock (.slice (some ⟨gi, 0, none⟩) r.ino.length cap) = some i) V U by rw [hU]; exact HK.out.drewN q2)
                have HINU := Lib.hid (show BytesIn U D m xd by rw [hU]; exact HE4.out.drewN q2)
                have j1 : U.cell? ⟨b, 1, none⟩ = some (.slice (some ⟨gi, 0, none⟩) r.ino.length cap) := by rw [hU]; exact c1
                have f1 : U.cell? ⟨gi, f * 2, none⟩ = some (.slice D m cd) := by rw [hU]; exact e1
                have f2 : U.cell? ⟨gi, f * 2 + 1, none⟩ = some (.int .i64 xs) := by rw [hU]; exact e2
                have HINO2 := Lib.hid (show U.ownsRow 0 124 2 (.slice (some ⟨gi, 0, none⟩) r.ino.length cap) r.ino.length (inoCells (rCutN r.ino cs L j) svs') by rw [hU]; exact HINO.out)
                have hVU : V.heap.size ≤ U.heap.size := HKU.out.size
                obtain ⟨Y, hY⟩ : ∃ Y, Y = xs + Z := ⟨_, rfl⟩
                have hTm : T = m - xs := HT.out
                have hxm : xs ≤ m := by have := (HI.out.wf.fit _ (List.mem_of_getElem? HX.out)).1; rw [HM2.out]; exact this
                have hYm : Y ≤ m := by omega
                have hxY : xs ≤ Y := by omega
                have hyz : IntKind.i64.wrap ((xs : Int) + (Z : Int)) = (Y : Int) := by rw [IntWalk.i64_in _ (by omega)]; omega
                have hsl : ∀ w, (Instr.slice 25 (.slice D m cd) none (some (.int .i64 Y)) none).run Tryz.prog w = .ok (.slice D Y cd) w := fun w => slice_to w D m cd Y (by omega)
                have HY := Lib.hid hY
                rw [← hU]
                clear hU hY hTm hxm c1 e1 e2 ez ez1 x0 x1 d2 HI HK HE4 HINO HX2 HDX HSRC2
                have HINO := HINO2
                clear HINO2
                obtain ⟨i0, hi, hz0, hz1, hz2⟩ := info_parts byteInfo
                go_upto_region 17 with fail
                go_cut [9] (fun _ wy => ∃ G'' svs'', IsR1 wy b G'' { r with ino := (rCutN r.ino cs L j).set f (xd.take Y, xs) } (.slice (some ⟨gi, 0, none⟩) (rCutN r.ino cs L j).length cap) vc A c B cb svs'' ∧ Kept (fun i => Value.ownBlock (.slice (some ⟨gi, 0, none⟩) r.ino.length cap) = some i) U wy ∧ (∀ i, G'' i → G' i ∨ U.heap.size ≤ i) ∧ ∀ i, G' i → G'' i)
                case first =>
                  go_wp2_with fail
                  refine wp_region_held_drew (S := fun w' => w'.cell? ⟨b, 1, none⟩ = some (.slice (some ⟨gi, 0, none⟩) r.ino.length cap) ∧ w'.cell? ⟨gi, f * 2 + 1, none⟩ = some (.int .i64 xs)) (by kernel_rfl) ⟨j1, f2⟩ (fun hHeld => ?_)
                  refine wpAnyH_take (i := 0) (oi := ?oi0) (v := ?v0) ?hi0 (by kernel_rfl) (by kernel_rfl) (by kernel_rfl) ?hQ0 (Or.inl ⟨?hw0, ?hy0⟩) (by assumption) ?rest0
                  case hi0 => (first | (simp only [List.getElem?_toArray, List.getElem?_cons_zero, List.getElem?_cons_succ]; rfl) | rfl)
                  case hQ0 => exact fun _ _ _ h => h
                  case hw0 => rfl
                  case hy0 => ((intro w hSw; go_simp); first | done | with_reducible rfl)
                  try simp only [Act.put, List.setIfInBounds_toArray, List.set_cons_zero, List.set_cons_succ]
                  refine wpAnyH_take (i := 1) (oi := ?oi1) (v := ?v1) ?hi1 (by kernel_rfl) (by kernel_rfl) (by kernel_rfl) ?hQ1 (Or.inl ⟨?hw1, ?hy1⟩) (by assumption) ?rest1
                  case hi1 => (first | (simp only [List.getElem?_toArray, List.getElem?_cons_zero, List.getElem?_cons_succ]; rfl) | rfl)
                  case hQ1 => exact fun _ _ _ h => h
                  case hw1 => rfl
                  case hy1 => ((intro w hSw; go_simp); first | done | with_reducible rfl)
                  try simp only [Act.put, List.setIfInBounds_toArray, List.set_cons_zero, List.set_cons_succ]
                  refine wpAnyH_take (i := 2) (oi := ?oi2) (v := ?v2) ?hi2 (by kernel_rfl) (by kernel_rfl) (by kernel_rfl) ?hQ2 (Or.inl ⟨?hw2, ?hy2⟩) (by assumption) ?rest2
                  case hi2 => (first | (simp only [List.getElem?_toArray, List.getElem?_cons_zero, List.getElem?_cons_succ]; rfl) | rfl)
                  case hQ2 => exact fun _ _ _ h => h
                  case hw2 => rfl
                  case hy2 => ((intro w hSw; go_simp); first | done | with_reducible rfl)
                  try simp only [Act.put, List.setIfInBounds_toArray, List.set_cons_zero, List.set_cons_succ]
                  refine wpAnyH_take (i := 3) (oi := ?oi3) (v := ?v3) ?hi3 (by kernel_rfl) (by kernel_rfl) (by kernel_rfl) ?hQ3 (Or.inl ⟨?hw3, ?hy3⟩) (by assumption) ?rest3
                  case hi3 => (first | (simp only [List.getElem?_toArray, List.getElem?_cons_zero, List.getElem?_cons_succ]; rfl) | rfl)
                  case hQ3 => exact fun _ _ _ h => h
                  case hw3 => rfl
                  case hy3 => ((intro w hSw; go_simp); first | done | with_reducible rfl)
                  try simp only [Act.put, List.setIfInBounds_toArray, List.set_cons_zero, List.set_cons_succ]
                  refine wpAnyH_take (i := 4) (oi := ?oi4) (v := ?v4) ?hi4 (by kernel_rfl) (by kernel_rfl) (by kernel_rfl) ?hQ4 (Or.inl ⟨?hw4, ?hy4⟩) (by assumption) ?rest4
                  case hi4 => (first | (simp only [List.getElem?_toArray, List.getElem?_cons_zero, List.getElem?_cons_succ]; rfl) | rfl)
                  case hQ4 => exact fun _ _ _ h => h
                  case hw4 => rfl
                  case hy4 => ((intro w hSw; go_simp); first | done | with_reducible rfl)
                  try simp only [Act.put, List.setIfInBounds_toArray, List.set_cons_zero, List.set_cons_succ]
                  refine wpAnyH_take (i := 6) (oi := ?oi6) (v := ?v6) ?hi6 (by kernel_rfl) (by kernel_rfl) (by kernel_rfl) ?hQ6 (Or.inl ⟨?hw6, ?hy6⟩) (by assumption) ?rest6
                  case hi6 => (first | (simp only [List.getElem?_toArray, List.getElem?_cons_zero, List.getElem?_cons_succ]; rfl) | rfl)
                  case hQ6 => exact fun _ _ _ h => h
                  case hw6 => rfl
                  case hy6 => ((intro w hSw; go_simp); first | done | with_reducible rfl)
                  try simp only [Act.put, List.setIfInBounds_toArray, List.set_cons_zero, List.set_cons_succ]
                  refine wpAnyH_take (i := 7) (oi := ?oi7) (v := ?v7) ?hi7 (by kernel_rfl) (by kernel_rfl) (by kernel_rfl) ?hQ7 (Or.inl ⟨?hw7, ?hy7⟩) (by assumption) ?rest7
                  case hi7 => (first | (simp only [List.getElem?_toArray, List.getElem?_cons_zero, List.getElem?_cons_succ]; rfl) | rfl)
                  case hQ7 => exact fun _ _ _ h => h
                  case hw7 => rfl
                  case hy7 => ((intro w hSw; go_simp); first | done | with_reducible rfl)
                  try simp only [Act.put, List.setIfInBounds_toArray, List.set_cons_zero, List.set_cons_succ]
                  refine wpAnyH_take (i := 8) (oi := ?oi8) (v := ?v8) ?hi8 (by kernel_rfl) (by kernel_rfl) (by kernel_rfl) ?hQ8 (Or.inl ⟨?hw8, ?hy8⟩) (by assumption) ?rest8
                  case hi8 => (first | (simp only [List.getElem?_toArray, List.getElem?_cons_zero, List.getElem?_cons_succ]; rfl) | rfl)
                  case hQ8 => exact fun _ _ _ h => h
                  case hw8 => rfl
                  case hy8 => ((intro w hSw; go_simp); first | done | with_reducible rfl)
                  try simp only [Act.put, List.setIfInBounds_toArray, List.set_cons_zero, List.set_cons_succ]
                  refine wpAnyH_take (i := 9) (oi := ?oi9) (v := ?v9) ?hi9 (by kernel_rfl) (by kernel_rfl) (by kernel_rfl) ?hQ9 (Or.inl ⟨?hw9, ?hy9⟩) (by assumption) ?rest9
                  case hi9 => (first | (simp only [List.getElem?_toArray, List.getElem?_cons_zero, List.getElem?_cons_succ]; rfl) | rfl)
                  case hQ9 => exact fun _ _ _ h => h
                  case hw9 => rfl
                  case hy9 => ((intro w hSw; go_simp); first | done | with_reducible rfl)
                  try simp only [Act.put, List.setIfInBounds_toArray, List.set_cons_zero, List.set_cons_succ]
                  refine wpAnyH_take (i := 10) (oi := ?oi10) (v := ?v10) ?hi10 (by kernel_rfl) (by kernel_rfl) (by kernel_rfl) ?hQ10 (Or.inl ⟨?hw10, ?hy10⟩) (by assumption) ?rest10
                  case hi10 => (first | (simp only [List.getElem?_toArray, List.getElem?_cons_zero, List.getElem?_cons_succ]; rfl) | rfl)
                  case hQ10 => exact fun _ _ _ h => h
                  case hw10 => rfl
                  case hy10 => ((intro w hSw; go_simp); first | done | with_reducible rfl)
                  try simp only [Act.put, List.setIfInBounds_toArray, List.set_cons_zero, List.set_cons_succ]
                  refine wpAnyH_take (i := 11) (oi := ?oi11) (v := ?v11) ?hi11 (by kernel_rfl) (by kernel_rfl) (by kernel_rfl) ?hQ11 (Or.inl ⟨?hw11, ?hy11⟩) (by assumption) ?rest11
                  case hi11 => (first | (simp only [List.getElem?_toArray, List.getElem?_cons_zero, List.getElem?_cons_succ]; rfl) | rfl)
                  case hQ11 => exact fun _ _ _ h => h
                  case hw11 => rfl
                  case hy11 => ((intro w hSw; go_simp); first | done | with_reducible rfl)
                  try simp only [Act.put, List.setIfInBounds_toArray, List.set_cons_zero, List.set_cons_succ]
                  refine wpAnyH_take (i := 12) (oi := ?oi12) (v := ?v12) ?hi12 (by kernel_rfl) (by kernel_rfl) (by kernel_rfl) ?hQ12 (Or.inl ⟨?hw12, ?hy12⟩) (by assumption) ?rest12
                  case hi12 => (first | (simp only [List.getElem?_toArray, List.getElem?_cons_zero, List.getElem?_cons_succ]; rfl) | rfl)
                  case hQ12 => exact fun _ _ _ h => h
                  case hw12 => rfl
                  case hy12 => ((intro w hSw; go_simp); first | done | with_reducible rfl)
                  try simp only [Act.put, List.setIfInBounds_toArray, List.set_cons_zero, List.set_cons_succ]
                  refine wpAnyH_take (i := 14) (oi := ?oi14) (v := ?v14) ?hi14 (by kernel_rfl) (by kernel_rfl) (by kernel_rfl) ?hQ14 (Or.inl ⟨?hw14, ?hy14⟩) (by assumption) ?rest14
                  case hi14 => (first | (simp only [List.getElem?_toArray, List.getElem?_cons_zero, List.getElem?_cons_succ]; rfl) | rfl)
                  case hQ14 => exact fun _ _ _ h => h
                  case hw14 => rfl
                  case hy14 => ((intro w hSw; go_simp); first | done | with_reducible rfl)
                  try simp only [Act.put, List.setIfInBounds_toArray, List.set_cons_zero, List.set_cons_succ]
                  refine wpAnyH_take (i := 15) (oi := ?oi15) (v := ?v15) ?hi15 (by kernel_rfl) (by kernel_rfl) (by kernel_rfl) ?hQ15 (Or.inl ⟨?hw15, ?hy15⟩) (by assumption) ?rest15
                  case hi15 => (first | (simp only [List.getElem?_toArray, List.getElem?_cons_zero, List.getElem?_cons_succ]; rfl) | rfl)
                  case hQ15 => exact fun _ _ _ h => h
                  case hw15 => rfl
                  case hy15 => ((intro w hSw; go_simp); first | done | with_reducible rfl)
                  try simp only [Act.put, List.setIfInBounds_toArray, List.set_cons_zero, List.set_cons_succ]
                  refine wpAnyH_take (i := 16) (oi := ?oi16) (v := ?v16) ?hi16 (by kernel_rfl) (by kernel_rfl) (by kernel_rfl) ?hQ16 (Or.inl ⟨?hw16, ?hy16⟩) (by assumption) ?rest16
                  case hi16 => (first | (simp only [List.getElem?_toArray, List.getElem?_cons_zero, List.getElem?_cons_succ]; rfl) | rfl)
                  case hQ16 => exact fun _ _ _ h => h
                  case hw16 => rfl
                  case hy16 => ((intro w hSw; go_simp); first | done | with_reducible rfl)
                  try simp only [Act.put, List.setIfInBounds_toArray, List.set_cons_zero, List.set_cons_succ]
                  refine wpAnyH_take (i := 17) (oi := ?oi17) (v := ?v17) ?hi17 (by kernel_rfl) (by kernel_rfl) (by kernel_rfl) ?hQ17 (Or.inl ⟨?hw17, ?hy17⟩) (by assumption) ?rest17
                  case hi17 => (first | (simp only [List.getElem?_toArray, List.getElem?_cons_zero, List.getElem?_cons_succ]; rfl) | rfl)
                  case hQ17 => exact fun _ _ _ h => h
                  case hw17 => rfl
                  case hy17 => ((intro w hSw; go_simp); first | done | with_reducible rfl)
                  try simp only [Act.put, List.setIfInBounds_toArray, List.set_cons_zero, List.set_cons_succ]
                  refine wpAnyH_take (i := 18) (oi := ?oi18) (v := ?v18) ?hi18 (by kernel_rfl) (by kernel_rfl) (by kernel_rfl) ?hQ18 (Or.inl ⟨?hw18, ?hy18⟩) (by assumption) ?rest18
                  case hi18 => (first | (simp only [List.getElem?_toArray, List.getElem?_cons_zero, List.getElem?_cons_succ]; rfl) | rfl)
                  case hQ18 => exact fun _ _ _ h => h
                  case hw18 => rfl
                  case hy18 => ((intro w hSw; go_simp); first | done | with_reducible rfl)
                  try simp only [Act.put, List.setIfInBounds_toArray, List.set_cons_zero, List.set_cons_succ]
                  refine wpAnyH_take (i := 19) (oi := ?oi19) (v := ?v19) ?hi19 (by kernel_rfl) (by kernel_rfl) (by kernel_rfl) ?hQ19 (Or.inl ⟨?hw19, ?hy19⟩) (by assumption) ?rest19
                  case hi19 => (first | (simp only [List.getElem?_toArray, List.getElem?_cons_zero, List.getElem?_cons_succ]; rfl) | rfl)
                  case hQ19 => exact fun _ _ _ h => h
                  case hw19 => rfl
                  case hy19 => ((intro w hSw; go_simp); first | done | with_reducible rfl)
                  try simp only [Act.put, List.setIfInBounds_toArray, List.set_cons_zero, List.set_cons_succ]
                  refine wpAnyH_take (i := 20) (oi := ?oi20) (v := ?v20) ?hi20 (by kernel_rfl) (by kernel_rfl) (by kernel_rfl) ?hQ20 (Or.inl ⟨?hw20, ?hy20⟩) (by assumption) ?rest20
                  case hi20 => (first | (simp only [List.getElem?_toArray, List.getElem?_cons_zero, List.getElem?_cons_succ]; rfl) | rfl)
                  case hQ20 => exact fun _ _ _ h => h
                  case hw20 => rfl
                  case hy20 => ((intro w hSw; go_simp); first | done | with_reducible rfl)
                  try simp only [Act.put, List.setIfInBounds_toArray, List.set_cons_zero, List.set_cons_succ]
                  refine wpAnyH_take (i := 21) (oi := ?oi21) (v := ?v21) ?hi21 (by kernel_rfl) (by kernel_rfl) (by kernel_rfl) ?hQ21 (Or.inl ⟨?hw21, ?hy21⟩) (by assumption) ?rest21
                  case hi21 => (first | (simp only [List.getElem?_toArray, List.getElem?_cons_zero, List.getElem?_cons_succ]; rfl) | rfl)
                  case hQ21 => exact fun _ _ _ h => h
                  case hw21 => rfl
                  case hy21 => ((intro w hSw; go_simp); first | done | with_reducible rfl)
                  try simp only [Act.put, List.setIfInBounds_toArray, List.set_cons_zero, List.set_cons_succ]
                  refine wpAnyH_take (i := 22) (oi := ?oi22) (v := ?v22) ?hi22 (by kernel_rfl) (by kernel_rfl) (by kernel_rfl) ?hQ22 (Or.inl ⟨?hw22, ?hy22⟩) (by assumption) ?rest22
                  case hi22 => (first | (simp only [List.getElem?_toArray, List.getElem?_cons_zero, List.getElem?_cons_succ]; rfl) | rfl)
                  case hQ22 => exact fun _ _ _ h => h
                  case hw22 => rfl
                  case hy22 => ((intro w hSw; go_simp); first | done | with_reducible rfl)
                  try simp only [Act.put, List.setIfInBounds_toArray, List.set_cons_zero, List.set_cons_succ]
                  refine wpAnyH_take (i := 23) (oi := ?oi23) (v := ?v23) ?hi23 (by kernel_rfl) (by kernel_rfl) (by kernel_rfl) ?hQ23 (Or.inl ⟨?hw23, ?hy23⟩) (by assumption) ?rest23
                  case hi23 => (first | (simp only [List.getElem?_toArray, List.getElem?_cons_zero, List.getElem?_cons_succ]; rfl) | rfl)
                  case hQ23 => exact fun _ _ _ h => h
                  case hw23 => rfl
                  case hy23 => ((intro w hSw; go_simp); first | done | with_reducible rfl)
                  try simp only [Act.put, List.setIfInBounds_toArray, List.set_cons_zero, List.set_cons_succ]
                  have hA0 := (Below.refl U.heap.size U).alloc (Nat.le_refl _) (.cells #[] 5)
                  have HIN := Lib.hid ((HINU.out.upto Y hYm).below hA0).drew
                  have j1b : (U.alloc (.cells #[] 5)).drew.cell? ⟨b, 1, none⟩ = some (.slice (some ⟨gi, 0, none⟩) r.ino.length cap) := below_cells hA0 j1
                  have f1b : (U.alloc (.cells #[] 5)).drew.cell? ⟨gi, f * 2, none⟩ = some (.slice D m cd) := below_cells hA0 f1
                  have f2b : (U.alloc (.cells #[] 5)).drew.cell? ⟨gi, f * 2 + 1, none⟩ = some (.int .i64 xs) := below_cells hA0 f2
                  clear hA0
                  refine wpAnyH_ready (rs := [5, 13]) (by kernel_rfl) (by simp) ?_
                  refine AllReadyH.cons (o := ?oP) ?hiP ?stepP (AllReadyH.cons (o := ?oQ) ?hiQ ?stepQ AllReadyH.nil)
                  case hiP => (simp only [List.getElem?_toArray, List.getElem?_cons_zero, List.getElem?_cons_succ]; rfl)
                  case hiQ => (simp only [List.getElem?_toArray, List.getElem?_cons_zero, List.getElem?_cons_succ]; rfl)
                  case stepP =>
                    intro K hK
                    go_simp
                    refine hK.out _ _ ⟨j1b, f2b⟩ (fun hHeldA => ?_)
                    clear hK K
                    try simp only [Act.put, List.setIfInBounds_toArray, List.set_cons_zero, List.set_cons_succ]
                    refine wpAnyH_ready (rs := [13]) (by kernel_rfl) (by simp) ?_
                    refine AllReadyH.cons (o := ?oPA) ?hiPA ?stepPA AllReadyH.nil
                    case hiPA => (simp only [List.getElem?_toArray, List.getElem?_cons_zero, List.getElem?_cons_succ]; rfl)
                    intro K hK
                    go_simp
                    refine hK.out _ _ hHeldA (fun hHeldB => ?_)
                    clear hK K
                    try simp only [Act.put, List.setIfInBounds_toArray, List.set_cons_zero, List.set_cons_succ]
                    refine wpAnyH_take (i := 24) (oi := ?oip24) (v := ?vp24) ?hip24 (by kernel_rfl) (by kernel_rfl) (by kernel_rfl) ?hQp24 (Or.inl ⟨?hwp24, ?hyp24⟩) (by assumption) ?restp24
                    case hip24 => (first | (simp only [List.getElem?_toArray, List.getElem?_cons_zero, List.getElem?_cons_succ]; rfl) | rfl)
                    case hQp24 => exact fun _ _ _ h => h
                    case hwp24 => rfl
                    case hyp24 => ((intro w hSw; go_simp); first | done | with_reducible rfl)
                    try simp only [Act.put, List.setIfInBounds_toArray, List.set_cons_zero, List.set_cons_succ]
                    refine wpAnyH_ready (rs := [25]) (by kernel_rfl) (by simp) ?_
                    refine AllReadyH.cons (o := ?opB) ?hipB ?steppB AllReadyH.nil
                    case hipB => (simp only [List.getElem?_toArray, List.getElem?_cons_zero, List.getElem?_cons_succ]; rfl)
                    intro K hK
                    refine step_append_src _ rfl (.tmp 96) (.tmp 115) 25 rfl U.heap.size 5 i0 (.int .u8 0) 1 Tryz.underlying25 hi hz0 hz1 hz2 rfl (.slice (some ⟨U.heap.size, 0, none⟩) 0 0) 0 [] rfl (World.ownsRow_made U #[] 0 (Nat.le_refl _) (Nat.zero_le _) rfl) D Y cd ((xd.take Y).map byteV) rfl HIN.out.2.1 (u8_one _) (by unfold maxLen; omega) (by omega) (by simp) ?_
                    intro v4 w4 hown hgrow hloc
                    obtain ⟨A4, c4, rfl⟩ := own_slice hown
                    rw [Nat.zero_add, List.nil_append] at hown
                    rw [Nat.zero_add]
                    have HB4 : Hid (Below U.heap.size U w4) := Lib.hid ((((Below.refl _ U).alloc (Nat.le_refl _) (.cells #[] 5)).drew).grown hgrow (by simp) (fun k e => by cases e; exact Nat.le_refl _))
                    have HO4 := Lib.hid hown
                    clear hown hgrow hloc
                    refine hK.out _ _ ⟨below_cells HB4.out j1, below_cells HB4.out f2⟩ (fun hHeldD => ?_)
                    clear hK K
                    try simp only [Act.put, List.setIfInBounds_toArray, List.set_cons_zero, List.set_cons_succ]
                    refine wpAnyH_take (i := 26) (oi := ?oip26) (v := ?vp26) ?hip26 (by kernel_rfl) (by kernel_rfl) (by kernel_rfl) ?hQp26 (Or.inl ⟨?hwp26, ?hyp26⟩) (by assumption) ?restp26
                    case hip26 => (first | (simp only [List.getElem?_toArray, List.getElem?_cons_zero, List.getElem?_cons_succ]; rfl) | rfl)
                    case hQp26 => exact fun _ _ _ h => h
                    case hwp26 => rfl
                    case hyp26 => ((intro w hSw; go_simp); first | done | with_reducible rfl)
                    try simp only [Act.put, List.setIfInBounds_toArray, List.set_cons_zero, List.set_cons_succ]
                    refine wpAnyH_take (i := 27) (oi := ?oip27) (v := ?vp27) ?hip27 (by kernel_rfl) (by kernel_rfl) (by kernel_rfl) ?hQp27 (Or.inl ⟨?hwp27, ?hyp27⟩) (by assumption) ?restp27
                    case hip27 => (first | (simp only [List.getElem?_toArray, List.getElem?_cons_zero, List.getElem?_cons_succ]; rfl) | rfl)
                    case hQp27 => exact fun _ _ _ h => h
                    case hwp27 => rfl
                    case hyp27 => ((intro w hSw; go_simp); first | done | with_reducible rfl)
                    try simp only [Act.put, List.setIfInBounds_toArray, List.set_cons_zero, List.set_cons_succ]
                    have o4 := ownsRow_block HINO.out fun g hg => HB4.out.block g (HINO.out.lt g hg).2
                    have n1 := below_cells HB4.out f1
                    have n1z := o4.frozenAt (f * 2)
                    clear o4
                    refine wpAnyH_ready (rs := [28]) (by kernel_rfl) (by simp) ?_
                    refine AllReadyH.cons (o := ?opD) ?hipD ?steppD AllReadyH.nil
                    case hipD => (simp only [List.getElem?_toArray, List.getElem?_cons_zero, List.getElem?_cons_succ]; rfl)
                    intro K hK
                    go_simp
                    refine hK.out _ _ ⟨(World.cell?_of_block (a := ⟨b, 1, none⟩) (heap_setCell_other w4 ⟨gi, f * 2, none⟩ (.slice A4 Y c4) (by show b ≠ gi; exact fun e => hgb e.symm))).trans (below_cells HB4.out j1), (World.cell?_setCell_other w4 ⟨gi, f * 2, none⟩ ⟨gi, f * 2 + 1, none⟩ (.slice A4 Y c4) (by simp)).trans (below_cells HB4.out f2)⟩ (fun hHeldE => ?_)
                    clear hK K
                    try simp only [Act.put, List.setIfInBounds_toArray, List.set_cons_zero, List.set_cons_succ]
                    refine wpAnyH_done (by kernel_rfl) ?_ _
                    clear hHeld hHeldA hHeldB hHeldD hHeldE
                    go_wp2_with fail
                    go_meet
                    case rel =>
                      have h9 := HI2.out.setDat HX.out HB4.out HO4.out (by rw [List.length_take]; have := HM2.out; omega) (by show xs ≤ Y; omega) (by omega)
                      refine ⟨_, _, h9, (Kept.below (F := fun i => Value.ownBlock (.slice (some ⟨gi, 0, none⟩) r.ino.length cap) = some i) HB4.out).setCell (.inl (by rfl)) _, fun i hi => ?_, fun i hi => .inl hi⟩
                      rcases hi with hi | ⟨ad, h1, h2, h3⟩
                      · exact .inl hi
                      · exact .inr (by rw [h3]; exact (HO4.out.lt ad.block (by rw [h1]; rfl)).1)
                  case stepQ =>
                    intro K hK
                    go_simp
                    refine hK.out _ _ hHeld (fun hHeldA => ?_)
                    clear hK K
                    try simp only [Act.put, List.setIfInBounds_toArray, List.set_cons_zero, List.set_cons_succ]
                    refine wpAnyH_take (i := 24) (oi := ?oiq24) (v := ?vq24) ?hiq24 (by kernel_rfl) (by kernel_rfl) (by kernel_rfl) ?hQq24 (Or.inl ⟨?hwq24, ?hyq24⟩) (by assumption) ?restq24
                    case hiq24 => (first | (simp only [List.getElem?_toArray, List.getElem?_cons_zero, List.getElem?_cons_succ]; rfl) | rfl)
                    case hQq24 => exact fun _ _ _ h => h
                    case hwq24 => rfl
                    case hyq24 => ((intro w hSw; go_simp); first | done | with_reducible rfl)
                    try simp only [Act.put, List.setIfInBounds_toArray, List.set_cons_zero, List.set_cons_succ]
                    refine wpAnyH_ready (rs := [5]) (by kernel_rfl) (by simp) ?_
                    refine AllReadyH.cons (o := ?oQA) ?hiQA ?stepQA AllReadyH.nil
                    case hiQA => (simp only [List.getElem?_toArray, List.getElem?_cons_zero, List.getElem?_cons_succ]; rfl)
                    intro K hK
                    go_simp
                    refine hK.out _ _ ⟨j1b, f2b⟩ (fun hHeldB => ?_)
                    clear hK K
                    try simp only [Act.put, List.setIfInBounds_toArray, List.set_cons_zero, List.set_cons_succ]
                    refine wpAnyH_ready (rs := [25]) (by kernel_rfl) (by simp) ?_
                    refine AllReadyH.cons (o := ?oqB) ?hiqB ?stepqB AllReadyH.nil
                    case hiqB => (simp only [List.getElem?_toArray, List.getElem?_cons_zero, List.getElem?_cons_succ]; rfl)
                    intro K hK
                    refine step_append_src _ rfl (.tmp 96) (.tmp 115) 25 rfl U.heap.size 5 i0 (.int .u8 0) 1 Tryz.underlying25 hi hz0 hz1 hz2 rfl (.slice (some ⟨U.heap.size, 0, none⟩) 0 0) 0 [] rfl (World.ownsRow_made U #[] 0 (Nat.le_refl _) (Nat.zero_le _) rfl) D Y cd ((xd.take Y).map byteV) rfl HIN.out.2.1 (u8_one _) (by unfold maxLen; omega) (by omega) (by simp) ?_
                    intro v4 w4 hown hgrow hloc
                    obtain ⟨A4, c4, rfl⟩ := own_slice hown
                    rw [Nat.zero_add, List.nil_append] at hown
                    rw [Nat.zero_add]
                    have HB4 : Hid (Below U.heap.size U w4) := Lib.hid ((((Below.refl _ U).alloc (Nat.le_refl _) (.cells #[] 5)).drew).grown hgrow (by simp) (fun k e => by cases e; exact Nat.le_refl _))
                    have HO4 := Lib.hid hown
                    clear hown hgrow hloc
                    refine hK.out _ _ ⟨below_cells HB4.out j1, below_cells HB4.out f2⟩ (fun hHeldD => ?_)
                    clear hK K
                    try simp only [Act.put, List.setIfInBounds_toArray, List.set_cons_zero, List.set_cons_succ]
                    refine wpAnyH_take (i := 26) (oi := ?oiq26) (v := ?vq26) ?hiq26 (by kernel_rfl) (by kernel_rfl) (by kernel_rfl) ?hQq26 (Or.inl ⟨?hwq26, ?hyq26⟩) (by assumption) ?restq26
                    case hiq26 => (first | (simp only [List.getElem?_toArray, List.getElem?_cons_zero, List.getElem?_cons_succ]; rfl) | rfl)
                    case hQq26 => exact fun _ _ _ h => h
                    case hwq26 => rfl
                    case hyq26 => ((intro w hSw; go_simp); first | done | with_reducible rfl)
                    try simp only [Act.put, List.setIfInBounds_toArray, List.set_cons_zero, List.set_cons_succ]
                    refine wpAnyH_take (i := 27) (oi := ?oiq27) (v := ?vq27) ?hiq27 (by kernel_rfl) (by kernel_rfl) (by kernel_rfl) ?hQq27 (Or.inl ⟨?hwq27, ?hyq27⟩) (by assumption) ?restq27
                    case hiq27 => (first | (simp only [List.getElem?_toArray, List.getElem?_cons_zero, List.getElem?_cons_succ]; rfl) | rfl)
                    case hQq27 => exact fun _ _ _ h => h
                    case hwq27 => rfl
                    case hyq27 => ((intro w hSw; go_simp); first | done | with_reducible rfl)
                    try simp only [Act.put, List.setIfInBounds_toArray, List.set_cons_zero, List.set_cons_succ]
                    have o4 := ownsRow_block HINO.out fun g hg => HB4.out.block g (HINO.out.lt g hg).2
                    have n1 := below_cells HB4.out f1
                    have n1z := o4.frozenAt (f * 2)
                    clear o4
                    refine wpAnyH_ready (rs := [28]) (by kernel_rfl) (by simp) ?_
                    refine AllReadyH.cons (o := ?oqD) ?hiqD ?stepqD AllReadyH.nil
                    case hiqD => (simp only [List.getElem?_toArray, List.getElem?_cons_zero, List.getElem?_cons_succ]; rfl)
                    intro K hK
                    go_simp
                    refine hK.out _ _ ⟨(World.cell?_of_block (a := ⟨b, 1, none⟩) (heap_setCell_other w4 ⟨gi, f * 2, none⟩ (.slice A4 Y c4) (by show b ≠ gi; exact fun e => hgb e.symm))).trans (below_cells HB4.out j1), (World.cell?_setCell_other w4 ⟨gi, f * 2, none⟩ ⟨gi, f * 2 + 1, none⟩ (.slice A4 Y c4) (by simp)).trans (below_cells HB4.out f2)⟩ (fun hHeldE => ?_)
                    clear hK K
                    try simp only [Act.put, List.setIfInBounds_toArray, List.set_cons_zero, List.set_cons_succ]
                    refine wpAnyH_done (by kernel_rfl) ?_ _
                    clear hHeld hHeldA hHeldB hHeldD hHeldE
                    go_wp2_with fail
                    go_meet
                    case rel =>
                      have h9 := HI2.out.setDat HX.out HB4.out HO4.out (by rw [List.length_take]; have := HM2.out; omega) (by show xs ≤ Y; omega) (by omega)
                      refine ⟨_, _, h9, (Kept.below (F := fun i => Value.ownBlock (.slice (some ⟨gi, 0, none⟩) r.ino.length cap) = some i) HB4.out).setCell (.inl (by rfl)) _, fun i hi => ?_, fun i hi => .inl hi⟩
                      rcases hi with hi | ⟨ad, h1, h2, h3⟩
                      · exact .inl hi
                      · exact .inr (by rw [h3]; exact (HO4.out.lt ad.block (by rw [h1]; rfl)).1)
                case rest =>
                  obtain ⟨G3, svs3, hI3, hK3, hG3a, hG3b⟩ := hcut
                  have hyl : (xd.take Y).length = Y := by rw [List.length_take]; have := HM2.out; omega
                  have hx3 : ((rCutN r.ino cs L j).set f (xd.take Y, xs))[f]? = some (xd.take Y, xs) := List.getElem?_set_self (by rw [rCutN_len]; exact hf)
                  have hs3 : IsR1 wc b G3 { r with ino := (rCutN r.ino cs L j).set f (xd.take Y, xs) } (.slice (some ⟨gi, 0, none⟩) ((rCutN r.ino cs L j).set f (xd.take Y, xs)).length cap) vc A c B cb svs3 := by rw [List.length_set]; exact hI3
                  have HS3 := Lib.hid hs3
                  clear hs3
                  rw [rCutN_len] at hI3
                  obtain ⟨gi2, cap2, D3, cd3, hvi3, hsv3, g1, g2, g3, g4, g5⟩ := hI3.inode hx3
                  have hgi : gi = gi2 := by injection hvi3 with q1; injection q1 with q1; injection q1
                  subst hgi
                  simp only at g1
                  rw [hyl] at g1
                  have c1 := hI3.blk.cell 1
                  simp at c1
                  have hino3 := hI3.ino
                  simp only [List.length_set, rCutN_len] at hino3
                  have ez1 := hino3.frozenAt (f * 2 + 1)
                  have HYL := Lib.hid hyl
                  have HX3 := Lib.hid hx3
                  have HK3 := Lib.hid hK3
                  have HG3a := Lib.hid hG3a
                  have HG3b := Lib.hid hG3b
                  clear hI3 hK3 hG3a hG3b hvi3 hsv3 g3 g4 g5 hx3 hino3 j1 f1 f2 hyl hsl hyz
                  go_wp2_with fail
                  refine wp_region_held_drew (S := fun w' => w'.cell? ⟨b, 1, none⟩ = some (.slice (some ⟨gi, 0, none⟩) r.ino.length cap) ∧ w'.cell? ⟨gi, f * 2, none⟩ = some (.slice D3 Y cd3)) (by kernel_rfl) ⟨c1, g1⟩ (fun hHeldZ => ?_)
                  refine wpAnyH_take (i := 0) (oi := ?oiz0) (v := ?vz0) ?hiz0 (by kernel_rfl) (by kernel_rfl) (by kernel_rfl) ?hQz0 (Or.inl ⟨?hwz0, ?hyz0⟩) (by assumption) ?restz0
                  case hiz0 => (first | (simp only [List.getElem?_toArray, List.getElem?_cons_zero, List.getElem?_cons_succ]; rfl) | rfl)
                  case hQz0 => exact fun _ _ _ h => h
                  case hwz0 => rfl
                  case hyz0 => ((intro w hSw; go_simp); first | done | with_reducible rfl)
                  try simp only [Act.put, List.setIfInBounds_toArray, List.set_cons_zero, List.set_cons_succ]
                  refine wpAnyH_take (i := 1) (oi := ?oiz1) (v := ?vz1) ?hiz1 (by kernel_rfl) (by kernel_rfl) (by kernel_rfl) ?hQz1 (Or.inl ⟨?hwz1, ?hyz1⟩) (by assumption) ?restz1
                  case hiz1 => (first | (simp only [List.getElem?_toArray, List.getElem?_cons_zero, List.getElem?_cons_succ]; rfl) | rfl)
                  case hQz1 => exact fun _ _ _ h => h
                  case hwz1 => rfl
                  case hyz1 => ((intro w hSw; go_simp); first | done | with_reducible rfl)
                  try simp only [Act.put, List.setIfInBounds_toArray, List.set_cons_zero, List.set_cons_succ]
                  refine wpAnyH_take (i := 2) (oi := ?oiz2) (v := ?vz2) ?hiz2 (by kernel_rfl) (by kernel_rfl) (by kernel_rfl) ?hQz2 (Or.inl ⟨?hwz2, ?hyz2⟩) (by assumption) ?restz2
                  case hiz2 => (first | (simp only [List.getElem?_toArray, List.getElem?_cons_zero, List.getElem?_cons_succ]; rfl) | rfl)
                  case hQz2 => exact fun _ _ _ h => h
                  case hwz2 => rfl
                  case hyz2 => ((intro w hSw; go_simp); first | done | with_reducible rfl)
                  try simp only [Act.put, List.setIfInBounds_toArray, List.set_cons_zero, List.set_cons_succ]
                  refine wpAnyH_take (i := 3) (oi := ?oiz3) (v := ?vz3) ?hiz3 (by kernel_rfl) (by kernel_rfl) (by kernel_rfl) ?hQz3 (Or.inl ⟨?hwz3, ?hyz3⟩) (by assumption) ?restz3
                  case hiz3 => (first | (simp only [List.getElem?_toArray, List.getElem?_cons_zero, List.getElem?_cons_succ]; rfl) | rfl)
                  case hQz3 => exact fun _ _ _ h => h
                  case hwz3 => rfl
                  case hyz3 => ((intro w hSw; go_simp); first | done | with_reducible rfl)
                  try simp only [Act.put, List.setIfInBounds_toArray, List.set_cons_zero, List.set_cons_succ]
                  refine wpAnyH_take (i := 4) (oi := ?oiz4) (v := ?vz4) ?hiz4 (by kernel_rfl) (by kernel_rfl) (by kernel_rfl) ?hQz4 (Or.inl ⟨?hwz4, ?hyz4⟩) (by assumption) ?restz4
                  case hiz4 => (first | (simp only [List.getElem?_toArray, List.getElem?_cons_zero, List.getElem?_cons_succ]; rfl) | rfl)
                  case hQz4 => exact fun _ _ _ h => h
                  case hwz4 => rfl
                  case hyz4 => ((intro w hSw; go_simp); first | done | with_reducible rfl)
                  try simp only [Act.put, List.setIfInBounds_toArray, List.set_cons_zero, List.set_cons_succ]
                  refine wpAnyH_take (i := 5) (oi := ?oiz5) (v := ?vz5) ?hiz5 (by kernel_rfl) (by kernel_rfl) (by kernel_rfl) ?hQz5 (Or.inl ⟨?hwz5, ?hyz5⟩) (by assumption) ?restz5
                  case hiz5 => (first | (simp only [List.getElem?_toArray, List.getElem?_cons_zero, List.getElem?_cons_succ]; rfl) | rfl)
                  case hQz5 => exact fun _ _ _ h => h
                  case hwz5 => rfl
                  case hyz5 => ((intro w hSw; go_simp); first | done | with_reducible rfl)
                  try simp only [Act.put, List.setIfInBounds_toArray, List.set_cons_zero, List.set_cons_succ]
                  refine wpAnyH_take (i := 6) (oi := ?oiz6) (v := ?vz6) ?hiz6 (by kernel_rfl) (by kernel_rfl) (by kernel_rfl) ?hQz6 (Or.inl ⟨?hwz6, ?hyz6⟩) (by assumption) ?restz6
                  case hiz6 => (first | (simp only [List.getElem?_toArray, List.getElem?_cons_zero, List.getElem?_cons_succ]; rfl) | rfl)
                  case hQz6 => exact fun _ _ _ h => h
                  case hwz6 => rfl
                  case hyz6 => ((intro w hSw; go_simp); first | done | with_reducible rfl)
                  try simp only [Act.put, List.setIfInBounds_toArray, List.set_cons_zero, List.set_cons_succ]
                  refine wpAnyH_take (i := 7) (oi := ?oiz7) (v := ?vz7) ?hiz7 (by kernel_rfl) (by kernel_rfl) (by kernel_rfl) ?hQz7 (Or.inl ⟨?hwz7, ?hyz7⟩) (by assumption) ?restz7
                  case hiz7 => (first | (simp only [List.getElem?_toArray, List.getElem?_cons_zero, List.getElem?_cons_succ]; rfl) | rfl)
                  case hQz7 => exact fun _ _ _ h => h
                  case hwz7 => rfl
                  case hyz7 => ((intro w hSw; go_simp); first | done | with_reducible rfl)
                  try simp only [Act.put, List.setIfInBounds_toArray, List.set_cons_zero, List.set_cons_succ]
                  refine wpAnyH_take (i := 8) (oi := ?oiz8) (v := ?vz8) ?hiz8 (by kernel_rfl) (by kernel_rfl) (by kernel_rfl) ?hQz8 (Or.inl ⟨?hwz8, ?hyz8⟩) (by assumption) ?restz8
                  case hiz8 => (first | (simp only [List.getElem?_toArray, List.getElem?_cons_zero, List.getElem?_cons_succ]; rfl) | rfl)
                  case hQz8 => exact fun _ _ _ h => h
                  case hwz8 => rfl
                  case hyz8 => ((intro w hSw; go_simp); first | done | with_reducible rfl)
                  try simp only [Act.put, List.setIfInBounds_toArray, List.set_cons_zero, List.set_cons_succ]
                  refine wpAnyH_take (i := 9) (oi := ?oiz9) (v := ?vz9) ?hiz9 (by kernel_rfl) (by kernel_rfl) (by kernel_rfl) ?hQz9 (Or.inl ⟨?hwz9, ?hyz9⟩) (by assumption) ?restz9
                  case hiz9 => (first | (simp only [List.getElem?_toArray, List.getElem?_cons_zero, List.getElem?_cons_succ]; rfl) | rfl)
                  case hQz9 => exact fun _ _ _ h => h
                  case hwz9 => rfl
                  case hyz9 => ((intro w hSw; go_simp); first | done | with_reducible rfl)
                  try simp only [Act.put, List.setIfInBounds_toArray, List.set_cons_zero, List.set_cons_succ]
                  refine wpAnyH_take (i := 10) (oi := ?oiz10) (v := ?vz10) ?hiz10 (by kernel_rfl) (by kernel_rfl) (by kernel_rfl) ?hQz10 (Or.inl ⟨?hwz10, ?hyz10⟩) (by assumption) ?restz10
                  case hiz10 => (first | (simp only [List.getElem?_toArray, List.getElem?_cons_zero, List.getElem?_cons_succ]; rfl) | rfl)
                  case hQz10 => exact fun _ _ _ h => h
                  case hwz10 => rfl
                  case hyz10 => ((intro w hSw; go_simp); first | done | with_reducible rfl)
                  try simp only [Act.put, List.setIfInBounds_toArray, List.set_cons_zero, List.set_cons_succ]
                  refine wpAnyH_take (i := 11) (oi := ?oiz11) (v := ?vz11) ?hiz11 (by kernel_rfl) (by kernel_rfl) (by kernel_rfl) ?hQz11 (Or.inl ⟨?hwz11, ?hyz11⟩) (by assumption) ?restz11
                  case hiz11 => (first | (simp only [List.getElem?_toArray, List.getElem?_cons_zero, List.getElem?_cons_succ]; rfl) | rfl)
                  case hQz11 => exact fun _ _ _ h => h
                  case hwz11 => rfl
                  case hyz11 => ((intro w hSw; go_simp); first | done | with_reducible rfl)
                  try simp only [Act.put, List.setIfInBounds_toArray, List.set_cons_zero, List.set_cons_succ]
                  refine wpAnyH_take (i := 12) (oi := ?oiz12) (v := ?vz12) ?hiz12 (by kernel_rfl) (by kernel_rfl) (by kernel_rfl) ?hQz12 (Or.inl ⟨?hwz12, ?hyz12⟩) (by assumption) ?restz12
                  case hiz12 => (first | (simp only [List.getElem?_toArray, List.getElem?_cons_zero, List.getElem?_cons_succ]; rfl) | rfl)
                  case hQz12 => exact fun _ _ _ h => h
                  case hwz12 => rfl
                  case hyz12 => ((intro w hSw; go_simp); first | done | with_reducible rfl)
                  try simp only [Act.put, List.setIfInBounds_toArray, List.set_cons_zero, List.set_cons_succ]
                  refine wpAnyH_take (i := 13) (oi := ?oiz13) (v := ?vz13) ?hiz13 (by kernel_rfl) (by kernel_rfl) (by kernel_rfl) ?hQz13 (Or.inl ⟨?hwz13, ?hyz13⟩) (by assumption) ?restz13
                  case hiz13 => (first | (simp only [List.getElem?_toArray, List.getElem?_cons_zero, List.getElem?_cons_succ]; rfl) | rfl)
                  case hQz13 => exact fun _ _ _ h => h
                  case hwz13 => rfl
                  case hyz13 => ((intro w hSw; go_simp); first | done | with_reducible rfl)
                  try simp only [Act.put, List.setIfInBounds_toArray, List.set_cons_zero, List.set_cons_succ]
                  refine wpAnyH_take (i := 14) (oi := ?oiz14) (v := ?vz14) ?hiz14 (by kernel_rfl) (by kernel_rfl) (by kernel_rfl) ?hQz14 (Or.inl ⟨?hwz14, ?hyz14⟩) (by assumption) ?restz14
                  case hiz14 => (first | (simp only [List.getElem?_toArray, List.getElem?_cons_zero, List.getElem?_cons_succ]; rfl) | rfl)
                  case hQz14 => exact fun _ _ _ h => h
                  case hwz14 => rfl
                  case hyz14 => ((intro w hSw; go_simp); first | done | with_reducible rfl)
                  try simp only [Act.put, List.setIfInBounds_toArray, List.set_cons_zero, List.set_cons_succ]
                  refine wpAnyH_take (i := 15) (oi := ?oiz15) (v := ?vz15) ?hiz15 (by kernel_rfl) (by kernel_rfl) (by kernel_rfl) ?hQz15 (Or.inl ⟨?hwz15, ?hyz15⟩) (by assumption) ?restz15
                  case hiz15 => (first | (simp only [List.getElem?_toArray, List.getElem?_cons_zero, List.getElem?_cons_succ]; rfl) | rfl)
                  case hQz15 => exact fun _ _ _ h => h
                  case hwz15 => rfl
                  case hyz15 => ((intro w hSw; go_simp); first | done | with_reducible rfl)
                  try simp only [Act.put, List.setIfInBounds_toArray, List.set_cons_zero, List.set_cons_succ]
                  refine wpAnyH_ready (rs := [16]) (by kernel_rfl) (by simp) ?_
                  refine AllReadyH.cons (o := ?oZ8) ?hiZ8 ?stepZ8 AllReadyH.nil
                  case hiZ8 => (simp only [List.getElem?_toArray, List.getElem?_cons_zero, List.getElem?_cons_succ]; rfl)
                  intro K hK
                  go_simp
                  refine hK.out _ _ ⟨(World.cell?_of_block (a := ⟨b, 1, none⟩) (heap_setCell_other wc ⟨gi, f * 2 + 1, none⟩ (.int .i64 Y) (by show b ≠ gi; exact fun e => hgb e.symm))).trans c1, (World.cell?_setCell_other wc ⟨gi, f * 2 + 1, none⟩ ⟨gi, f * 2, none⟩ (.int .i64 Y) (by simp)).trans g1⟩ (fun hHeldZ1 => ?_)
                  clear hK K
                  try simp only [Act.put, List.setIfInBounds_toArray, List.set_cons_zero, List.set_cons_succ]
                  refine wpAnyH_done (by kernel_rfl) ?_ _
                  clear hHeldZ hHeldZ1
                  have h9 := HS3.out.setSyn HX3.out Y (by show Y ≤ (xd.take Y).length; rw [HYL.out]; exact Nat.le_refl _)
                  have hkeep : rKeep (xd, xs) (cutOf cs j) = Y := by
                    unfold rKeep
                    rw [← HC.out]
                    show xs + partN C (xd.length - xs) = Y
                    rw [← HM2.out, ← HT.out, ← HZ.out, HY.out]
                  have hnext : rCutN r.ino cs L (j + 1) = ((rCutN r.ino cs L j).set f (xd.take Y, xs)).set f (xd.take Y, Y) := by
                    rw [rCutN_succ r.ino cs L j HP.out HX.out, List.set_set]
                    unfold rCut
                    rw [hkeep]
                  have hlen3 : ((rCutN r.ino cs L j).set f (xd.take Y, xs)).length = r.ino.length := by rw [List.length_set, rCutN_len]
                  simp only at h9
                  rw [← hnext, hlen3] at h9
                  have HR9 := Lib.hid h9
                  clear h9 hnext hkeep hlen3
                  go_wp2
                  go_roundw
                  case rel =>
                    refine ⟨j + 1, _, svs3, by omega, by go_num, HR9.out, fun i hi => ?_, fun i hi => .inl (HG3b.out i (HG2'.out i hi)), (HKU.out.trans HK3.out (fun _ _ h => h)).drew.setCell (.inl (by rfl)) _⟩
                    rcases hi with hi | hi
                    · rcases HG3a.out i hi with h1 | h1
                      · exact HG1.out i h1
                      · exact .inr (by omega)
                    · exact hi.elim
                  case measure => simp [intOf]; omega
          · obtain rfl : j = n' := by omega
            have hlz : ¬ ((j : Int) < (j : Int)) := by omega
            have k2 := HI.out.blk.cell 2
            have k3 := HI.out.blk.cell 3
            have k4 := HI.out.blk.cell 4
            have k6 := HI.out.blk.cell 6
            have k7 := HI.out.blk.cell 7
            have k8 := HI.out.blk.cell 8
            have z2 := HI.out.blk.frozen 2
            have z3 := HI.out.blk.frozen 3
            have z4 := HI.out.blk.frozen 4
            have z6 := HI.out.blk.frozen 6
            have z7 := HI.out.blk.frozen 7
            have z8 := HI.out.blk.frozen 8
            simp at k2 k3 k4 k6 k7 k8
            rw [HV.out] at k4
            have hDx : DirIn wr A' j L := HDL.out.keep fun ad e h0 => HK.out.block _ (HDL.out.lt ad e h0) (fun e2 => HR2.out.gi _ e2 (HDG.out ad e h0))
            have hjl : j ≤ 100000 := by
              have h1 := HDL.out.len
              have h2 := rEffAll_len r.old (r.chs.take (partN acts r.chs.length))
              have h3 : (r.chs.take (partN acts r.chs.length)).length ≤ r.chs.length := by rw [List.length_take]; omega
              have h4 := HS.out
              have h5 : L.length = (rEffAll r.old (r.chs.take (partN acts r.chs.length))).length := by rw [HLB.out]; rfl
              omega
            have hfin : ∀ w', (∀ i, i ≠ b → w'.heap[i]? = wr.heap[i]?) → wr.heap.size ≤ w'.heap.size → Blk w' b 64 #[.int .i64 r.room, vi, .slice A' j c', .slice A' j c', .slice none 0 0, .int .i64 r.done, .bool false, .int .i64 0, .bool false] → ∃ F', R1At w' F' b (rCrashed r acts cs) ∧ ∀ i, F' i → F i ∨ w.heap.size ≤ i := fun w' hb hs blk => by
              have h1 := HI.out.back hb hs hDx (fun ad e h0 => HG2'.out _ (HDG.out ad e h0)) hjl (fun p hp => by show p.2 < (rCutN r.ino cs L j).length; rw [rCutN_len]; exact HFILE.out p hp) blk
              have h2 : rCrashed r acts cs = { r with ino := rCutN r.ino cs L j, dir := L, old := L, chs := [], fused := false, left := 0, off := false } := by
                unfold rCrashed
                rw [← HLB.out, HDL.out.len]
              rw [h2]
              refine ⟨OfR1 b vi (.slice none 0 0) G', ⟨G', vi, _, A', c', A', c', svs', h1, fun i hi => hi, fun i hi => ?_⟩, fun i hi => ?_⟩
              · rcases hi with h3 | h3 | h3 | h3
                · rw [h3]; exact blk.lt
                · exact (h1.ino.lt i h3).2
                · simp [Value.ownBlock] at h3
                · exact h1.glt i h3
              · rcases hi with h3 | h3 | h3 | h3
                · exact .inl (HF.out i (.inl h3))
                · exact .inl (HF.out i (.inr (.inl h3)))
                · simp [Value.ownBlock] at h3
                · rcases HG1.out i h3 with h4 | h4
                  · exact (HG2.out i h4).imp id Nat.le_of_lt
                  · have := HB.out.size
                    exact .inr (by omega)
            have hkall : Kept F w wr := ((Kept.below (F := F) HKW.out).trans (Kept.below (F := F) HB.out) (fun _ _ h => h)).trans HK.out (fun i _ h => HF.out i (.inr (.inl h)))
            have HFIN := Lib.hid hfin
            have HKALL := Lib.hid hkall
            clear hfin hkall hDx
            go_wp2
            go_end0
            refine ⟨rfl, HFIN.out _ (fun i hi => ?_) ?_ ?_, HKALL.out.trans (F := F) (((((((Kept.refl F wr).setCell (.inl (HF.out b (.inl rfl))) _).setCell (.inl (HF.out b (.inl rfl))) _).setCell (.inl (HF.out b (.inl rfl))) _).setCell (.inl (HF.out b (.inl rfl))) _).setCell (.inl (HF.out b (.inl rfl))) _).setCell (.inl (HF.out b (.inl rfl))) _) (fun _ _ h => h)⟩
            · exact (heap_setCell_other _ _ _ hi).trans ((heap_setCell_other _ _ _ hi).trans ((heap_setCell_other _ _ _ hi).trans ((heap_setCell_other _ _ _ hi).trans ((heap_setCell_other _ _ _ hi).trans (heap_setCell_other _ _ _ hi)))))
            · simp [World.setCell]
            · have h2 := (((((HI.out.blk.set_ 2 (.slice A' j c')).set_ 3 (.slice A' j c')).set_ 4 (.slice none 0 0)).set_ 6 (.bool false)).set_ 7 (.int .i64 0)).set_ 8 (.bool false)
              simpa using h2
end Go.Proofs.YtmhiekbpmoikfaaGreatDoor
namespace Go.Proofs.YtmhiekbpmoikfaaGreatDoor
open Go.RowKit Go.Maps Go.WideMaps

theorem dir_names_len {w : World} {b : Nat} {d : Dir} (h : dirAt w b d) : ∀ p ∈ d, p.1.length ≤ maxLen := by
  obtain ⟨es, he, hk⟩ := h.keysOf
  have e : es = d.map ent := by injection he with he; exact he.symm
  intro p hp
  obtain ⟨v, hv⟩ := hk (ent p) (by rw [e]; exact List.mem_map_of_mem hp)
  obtain ⟨x, _, hx, hl⟩ := Maps.keyOf_str Tryz.underlying9 hv
  have : p.1 = x := by simpa [ent] using hx
  rw [this]; exact hl
theorem dget_of_mem : ∀ {d : Dir}, d.Pairwise (fun p q => p.1 ≠ q.1) → ∀ p ∈ d, dget d p.1 = some p.2
  | [], _, p, hp => by simp at hp
  | q :: r, h, p, hp => by
    obtain ⟨h1, h2⟩ := List.pairwise_cons.1 h
    rcases List.mem_cons.1 hp with e | e
    · subst e; simp [dget]
    · have := dget_of_mem h2 p e
      unfold dget at this ⊢
      have hne : (q.1 == p.1) = false := by simpa using h1 p e
      rw [List.find?_cons, hne]
      exact this

/-- The directory's files, cut one by one. -/
def cutN (s : St) (cs : List Int) (d : Dir) : Nat → St
  | 0 => s
  | j + 1 => match d[j]? with
    | some p => (cutN s cs d j).cutFile p.2 (cutOf cs j)
    | none => cutN s cs d j
theorem cutN_now (s : St) (cs : List Int) (d : Dir) : ∀ j, (cutN s cs d j).now = s.now
  | 0 => rfl
  | j + 1 => by
    simp only [cutN]
    cases d[j]? with
    | none => exact cutN_now s cs d j
    | some p => exact cutN_now s cs d j
theorem cutN_ids (s : St) (cs : List Int) (d : Dir) : ∀ j, (cutN s cs d j).ids = s.ids
  | 0 => rfl
  | j + 1 => by
    simp only [cutN]
    cases d[j]? with
    | none => exact cutN_ids s cs d j
    | some p => exact cutN_ids s cs d j
theorem cutN_succ (s : St) (cs : List Int) (d : Dir) (j : Nat) {p : Nm × Nat} (h : d[j]? = some p) : cutN s cs d (j + 1) = (cutN s cs d j).cutFile p.2 (cutOf cs j) := by
  simp only [cutN, h]
def St.replayed (s : St) (acts : Int) : St := { s with now := effAll s.old (s.chs.take (partN acts s.chs.length)), mid := true }
def St.crashed (s : St) (acts : Int) (cs : List Int) : St :=
  { cutN (s.replayed acts) cs (s.replayed acts).now (s.replayed acts).now.length with old := (s.replayed acts).now, chs := [], mid := false, fuse := -1, down := false }

set_option maxHeartbeats 4000000 in
set_option maxRecDepth 100000 in
theorem Crash_any {w : World} {F : Nat → Prop} {b : Nat} {s : St} (hD : Disk w F b s) (hcs : s.chs.length < 1099511627776) (acts : Int) (hacts : acts ≤ 9223372036854775807) (A : Option Addr) (n c : Nat) (cs : List Int) (hsrc : Src w A n (cs.map i64v))
    (hA : ∀ ad, A = some ad → 0 < n → ad.block < w.heap.size ∧ ¬ F ad.block) (hcut : ∀ j, cutOf cs j ≤ 9223372036854775807) :
    Calls Tryz.prog 34 #[at0 b, .agg #[.int .i64 acts, .slice A n c]] w fun e w' => e = .returned (.tuple #[]) ∧ (∃ F', Disk w' F' b (s.crashed acts cs) ∧ ∀ i, F' i → F i ∨ w.heap.size ≤ i) ∧ Kept F w w' := by
  have hlt : ∀ i, F i → i < w.heap.size := by obtain ⟨bn, bo, cv, cls, fv, hd⟩ := hD; exact hd.lt
  have hFb : F b := by obtain ⟨bn, bo, cv, cls, fv, hd⟩ := hD; exact hd.fb
  have hD0 := hD.alloc (.cells #[.int .i64 acts, .slice A n c] 48)
  have hbx : Blk (w.alloc (.cells #[.int .i64 acts, .slice A n c] 48)) w.heap.size 48 #[.int .i64 acts, .slice A n c] := Blk.new _ _ _
  have x0 := hbx.cell 0
  simp at x0
  have hrep := fun W (h : Disk W F b s) => replay_any (w := W) h (partN acts s.chs.length) (partN_le _ _) hcs
  have HREP := Lib.hid hrep
  have HD0 := Lib.hid hD0
  have HBX := Lib.hid hbx
  clear hrep hbx
  obtain ⟨bn, bo, cv, cls, fv, hd⟩ := hD0
  have c3 := hd.blk.cell 3
  obtain ⟨A3, cp3, hv3⟩ := own_slice hd.row
  rw [hv3] at c3
  simp at c3
  clear hv3 hd
  unfold at0
  go_enter Tryz.func34, Tryz.ntmps34
  go_wp2
  go_region_law (first
    | (go_simp; go_at_call 101; refine (part_any _ _ _ (by omega) hacts).mono ?_; rintro e w' ⟨rfl, rfl⟩)
    | (go_simp; go_at_call 100; refine (HREP.out _ (by exact HD0.out.drew)).mono ?_; rintro e w1 ⟨rfl, hD1, hk1⟩))
  all_goals
    have hF1 : ∀ i, Own F (w.alloc (.cells #[.int .i64 acts, .slice A n c] 48)).drew w1 i → (F i ∨ w.heap.size < i) ∧ i < w1.heap.size := fun i hi => by
      rcases hi with h | h
      · have h1 := hlt i h
        have h2 := hk1.size
        simp at h2
        exact ⟨.inl h, by omega⟩
      · have h1 := h.1
        simp at h1
        exact ⟨.inr (by omega), h.2⟩
    have hs1 : w.heap.size + 1 ≤ w1.heap.size := by have := hk1.size; simpa using this
    have hbx1 : Blk w1 w.heap.size 48 #[.int .i64 acts, .slice A n c] := (HBX.out.drew).kept hk1 (fun h => by have := hlt _ h; omega)
    have hsrc1 : Src w1 A n (cs.map i64v) := hsrc.keep fun ad e h0 => by
      have h1 := hA ad e h0
      rw [hk1.block _ (by simp; omega) h1.2]
      exact Below.heap_alloc w _ _ h1.1
    have hkw : Kept F w w1 := ((Kept.refl F w).alloc _).drew.trans hk1 (fun _ _ h => h)
    generalize hG : Own F (w.alloc (.cells #[.int .i64 acts, .slice A n c] 48)).drew w1 = G at hD1 hF1
    have HG := Lib.hid hG
    clear hG hk1 x0 c3
    obtain ⟨S1, hS1⟩ : ∃ S1, S1 = s.replayed acts := ⟨_, rfl⟩
    have hD1' : Disk w1 G b S1 := by rw [hS1]; exact hD1
    have hnoG : ∀ i, i ≤ w.heap.size → ¬ F i → ¬ G i := fun i hi hn h => by
      rcases (hF1 i h).1 with h3 | h3
      · exact hn h3
      · omega
    have HS1 := Lib.hid hS1
    have HD1 := Lib.hid hD1'
    clear hD1 hS1
    obtain ⟨bn1, bo1, cv1, cls1, fv1, hd1⟩ := hD1'
    have hN := names_any hd1.now (by have := hd1.wf.nnow; omega)
    have hlen := hd1.wf.nnow
    have hpw := Lib.hid (pairs_ne (dir_sorted hd1.now))
    have hnl := Lib.hid (dir_names_len hd1.now)
    have hids := Lib.hid hd1.wf.now_id
    have e1 := hd1.blk.cell 1
    simp at e1
    have HN := Lib.hid hN
    clear hd1 hN
    go_wp2_with (go_at_call 102; refine (Hid.out HN).mono ?_; rintro e w2 ⟨v, rfl, hrow, hbl2⟩; obtain ⟨An, cpn, hvn⟩ := own_slice hrow; rw [hvn]; have HROW := Lib.hid (show w2.ownsRow w1.heap.size 9 1 (.slice An S1.now.length cpn) S1.now.length (S1.now.map fun p => encStr p.1) by rw [← hvn]; exact hrow); clear hvn hrow)
    go_loopw [22] (fun i wr => ∃ (j : Nat) (Fr : Nat → Prop), j ≤ S1.now.length ∧ i = .int .i64 j ∧ Disk wr Fr b (cutN S1 cs S1.now j) ∧ (∀ k, Fr k → G k ∨ w2.heap.size ≤ k) ∧ Kept G w2 wr)
      (fun i _ => S1.now.length - (intOf i).toNat)
    case atStart => exact ⟨0, G, Nat.zero_le _, rfl, HD1.out.kept (Kept.below (F := fun _ => False) hbl2) (fun _ _ => id), fun _ h => .inl h, Kept.refl G w2⟩
    case round =>
      obtain ⟨j, Fr, hj, rfl, hDr, hFr, hkr⟩ := hrel
      have HDR := Lib.hid hDr
      have hs2 := hbl2.size
      have hs3 := hkr.size
      by_cases hjl : j < S1.now.length
      · have hp : S1.now[j]? = some S1.now[j] := List.getElem?_eq_getElem hjl
        have hmem : S1.now[j] ∈ S1.now := List.getElem_mem hjl
        obtain ⟨bnr, bor, cvr, clsr, fvr, hdr⟩ := hDr
        have hnow : dirAt wr bnr S1.now := by have h := hdr.now; rw [cutN_now] at h; exact h
        have hi : S1.now[j].2 ∈ (cutN S1 cs S1.now j).ids := by rw [cutN_ids]; exact hids.out _ hmem
        have hlk : (Instr.lookup 116 (.map (some bnr)) (.string ⟨S1.now[j].1.toArray⟩) false).run Tryz.prog wr.drew = .ok (.pointer (some ⟨S1.now[j].2, 0, none⟩)) wr.drew := by
          have h := look_at (w := wr.drew) (bn := bnr) (d := S1.now) hnow (nm := ⟨S1.now[j].1.toArray⟩) (by have := hnl.out _ hmem; simpa [ByteArray.size] using this)
          have h2 := dget_of_mem hpw.out _ hmem
          simp only [h2, ptrOf, at0] at h
          exact h
        have f1 := hdr.blk.cell 1
        simp at f1
        have hbxr : Blk wr w.heap.size 48 #[.int .i64 acts, .slice A n c] := by
          have h2 : Blk w2 w.heap.size 48 #[.int .i64 acts, .slice A n c] := hbx1.below hbl2 hbx1.lt
          exact h2.kept hkr (hnoG _ (Nat.le_refl _) (fun h => by have := hlt _ h; omega))
        have x1 := hbxr.cell 1
        simp at x1
        have hsrcr : Src wr.drew A n (cs.map i64v) := hsrc1.keep fun ad e h0 => by
          have h1 := hA ad e h0
          show wr.heap[ad.block]? = _
          rw [hkr.block _ (by omega) (hnoG _ (by omega) h1.2)]
          exact hbl2.block _ (by omega)
        rcases HROW.out.2 with ⟨_, h0⟩ | ⟨gn, capn, cur, hvn, hgn, hgh, _⟩
        · omega
        have hAn : An = some ⟨gn, 0, none⟩ := by injection hvn
        have hnc : wr.cell? ⟨gn, j, none⟩ = some (.string ⟨S1.now[j].1.toArray⟩) := by
          have hgl : gn < w2.heap.size := (HROW.out.lt gn (by rw [hAn]; rfl)).2
          have h1 := HROW.out.cells (g := gn) (by rw [hAn]; rfl) j (.string ⟨S1.now[j].1.toArray⟩) (by rw [List.getElem?_map, hp]; rfl)
          have e1 : ((⟨gn, 0, none⟩ : Addr).add j) = ⟨gn, j, none⟩ := by
            unfold Addr.add
            split
            · rename_i h0; subst h0; rfl
            · simp
          rw [e1] at h1
          rw [World.cell?_of_block (w := w2) (hkr.block gn hgl (fun h => by have := (hF1 _ h).2; omega)), h1]
        have hfc := fcrash_any (w := wr.drew) (HDR.out.drew) hi (cutOf cs j) (hcut j)
        have hca := cutAt_any (w := wr.drew) A n c cs hsrcr j (by omega)
        have HFC := Lib.hid hfc
        have HCA := Lib.hid hca
        have HP := Lib.hid hp
        have HAN := Lib.hid hAn
        have hcst := cutN_succ S1 cs S1.now j hp
        have HCS := Lib.hid hcst
        clear hfc hca hdr hnow hbxr hsrcr hvn hgh hp hAn hcst
        rw [HAN.out]
        generalize hq : S1.now[j] = q at *
        have HQ := Lib.hid hq
        clear hq
        unfold at0 at HFC
        go_wp2
        go_region_law (first
          | (go_simp; go_at_call 104; refine (Hid.out HCA).mono ?_; rintro e w' ⟨rfl, rfl⟩)
          | (go_simp; go_at_call 103; refine (Hid.out HFC).mono ?_; rintro e w5 ⟨rfl, hD5, hk5⟩))
        all_goals
          have HD5 := Lib.hid hD5
          clear hD5
          go_wp2
          go_roundw
          case rel =>
            have hk5' : Kept Fr wr w5 := ⟨hk5.os, hk5.tape, hk5.output, hk5.size, hk5.block⟩
            refine ⟨j + 1, _, by omega, by go_num, by rw [HCS.out]; exact HD5.out, ?_, hkr.trans hk5' (fun i hi h => (hFr i h).resolve_right (by omega))⟩
            intro k hk
            rcases hk with h | h
            · exact hFr k h
            · have := h.1
              simp at this
              exact .inr (by omega)
          case measure => simp [intOf]; omega
      · have hje : j = S1.now.length := by omega
        subst hje
        have hset := settle_any hDr
        have HSET := Lib.hid hset
        clear hDr hset
        go_wp2_with (go_at_call 75; refine (Hid.out HSET).mono ?_; rintro e w4 ⟨rfl, hD4, hk4⟩; have HD4 := Lib.hid hD4; obtain ⟨bn4, bo4, cv4, cls4, fv4, hd4⟩ := hD4; have y5 := hd4.blk.cell 5; have y6 := hd4.blk.cell 6; have z5 := hd4.blk.frozen 5; have z6 := hd4.blk.frozen 6; simp at y5 y6; have HI4 := Lib.hid hd4; clear hd4)
        go_end0
        have hd4 := HI4.out
        have h5 := hd4.atB (w' := (w4.setCell ⟨b, 5, none⟩ (.int .i64 (-1))).setCell ⟨b, 6, none⟩ (.bool false)) (f := -1) (d := false) (fun i hi => by rw [heap_setCell_other _ _ _ hi, heap_setCell_other _ _ _ hi]) (by rw [size_setCell', size_setCell']; exact Nat.le_refl _)
          (by simpa using (hd4.blk.set_ 5 (.int .i64 (-1))).set_ 6 (.bool false)) (by omega) (by omega)
        have est : s.crashed acts cs = { cutN S1 cs S1.now S1.now.length with old := (cutN S1 cs S1.now S1.now.length).now, chs := [], mid := false, acts := (cutN S1 cs S1.now S1.now.length).acts, fuse := -1, down := false } := by
          unfold St.crashed
          rw [← HS1.out, cutN_now]
        refine ⟨rfl, ⟨Own Fr wr w4, by rw [est]; exact ⟨bn4, bo4, cv4, cls4, fv4, h5⟩, ?_⟩, ?_⟩
        · intro i hi
          rcases hi with h | h
          · rcases hFr i h with h1 | h1
            · rcases (hF1 i h1).1 with h2 | h2
              · exact .inl h2
              · exact .inr (by omega)
            · exact .inr (by omega)
          · have := h.1
            exact .inr (by omega)
        · have k1 : Kept G w1 wr := (Kept.below hbl2).trans hkr (fun _ _ h => h)
          have k2 : Kept F w wr := hkw.trans k1 (fun i hi h => by
            rcases (hF1 i h).1 with h2 | h2
            · exact h2
            · omega)
          have k3 : Kept F w w4 := k2.trans hk4 (fun i hi h => by
            rcases hFr i h with h1 | h1
            · rcases (hF1 i h1).1 with h2 | h2
              · exact h2
              · omega
            · omega)
          exact (k3.setCell (.inl hFb) _).setCell (.inl hFb) _
end Go.Proofs.YtmhiekbpmoikfaaGreatDoor
