import Derived.Test.YthcjikpabpgpfaaGreatZp0
import Derived.Test.YthcjikpabpgpfaaGreatZp22
import Derived.Laws.ResultCell
import Derived.Test.YthcjikpabpgpfaaGreatZp19
set_option linter.unusedSimpArgs false
set_option maxHeartbeats 16000000
set_option maxRecDepth 100000
namespace Go.Proofs.YthcjikpabpgpfaaGreat
open Go.RowKit Go.Maps Go.WideMaps
def ofN (l : List (Int × Int)) : Nat → Voc
 | 0 => ⟨ones, []⟩
 | k + 1 => if (buildAll (l.take (k + 1))).2 = 0 then (buildAll (l.take (k + 1))).1 else ofN l k
def ofV (l : List (Int × Int)) : Voc := ofN l (min l.length 599)
theorem build_bad_more {l : List (Int × Int)} {k : Nat} (h : (buildAll (l.take k)).2 ≠ 0) : ∀ m, k ≤ m → (buildAll (l.take m)).2 ≠ 0
 | 0, hm => by
  have : k = 0 := by omega
  subst this
  exact h
 | m + 1, hm => by
  rcases Nat.lt_or_ge m k with h1 | h1
  ·have : k = m + 1 := by omega
   subst this
   exact h
  ·have ih := build_bad_more h m h1
   rw [List.take_add_one]
   cases l[m]? with
   | none => simpa using ih
   | some p =>
    show (buildAll (l.take m ++ [p])).2 ≠ 0
    unfold buildAll at ih ⊢
    rw [build_more_err p _ _ ih]
    exact ih
theorem ofN_stop {l : List (Int × Int)} {k : Nat} (h : (buildAll (l.take (k + 1))).2 ≠ 0) : ∀ m, k ≤ m → ofN l m = ofN l k
 | 0, hm => by
  have : k = 0 := by omega
  subst this
  rfl
 | m + 1, hm => by
  rcases Nat.lt_or_ge m k with h1 | h1
  ·have : k = m + 1 := by omega
   subst this
   rfl
  ·have := build_bad_more h (m + 1) (by omega)
   rw [ofN, if_neg this, ofN_stop h m h1]
theorem ofN_ok (l : List (Int × Int)) : ∀ k, VOk (ofN l k)
 | 0 => ones_ok
 | k + 1 => by
  rw [ofN]
  split
  ·exact build_ok _ _ ones_ok (by assumption)
  ·exact ofN_ok l k
theorem ofV_ok (l : List (Int × Int)) : VOk (ofV l) := ofN_ok l _
theorem ofN_good {l : List (Int × Int)} {k : Nat} (h : (buildAll (l.take k)).2 = 0) : ofN l k = (buildAll (l.take k)).1 := by
 cases k with
 | zero => simp [ofN, buildAll, buildV]
 | succ k => rw [ofN, if_pos h]
theorem PairsIn.upto {w : World} {A : Option Addr} {n : Nat} {l : List (Int × Int)} (h : PairsIn w A n l) (q : Nat) (hq : q ≤ n) : PairsIn w A q (l.take q) where
 len := by rw [List.length_take, h.len]; omega
 fit := Nat.le_trans hq h.fit
 vals := fun p hp => h.vals p (List.mem_of_mem_take hp)
 nil := fun e => by have := h.nil e; omega
 cells := fun ad e i p hp => by
  rw [List.getElem?_take] at hp
  split at hp
  ·exact h.cells ad e i p hp
  ·cases hp
theorem PairsIn.none (w : World) : PairsIn w none 0 [] := ⟨rfl, Nat.zero_le _, by simp, fun _ => rfl, fun _ e => by cases e⟩
def OfOut (w : World) (V : Voc) (e : Ending) (w' : World) : Prop :=
 ∃ A B n m ca cb, e = .returned (vocV A B n m ca cb) ∧ VocSee w' A B n m ca cb V ∧ Below w.heap.size w w'
structure OfAt (w0 w : World) (l : List (Int × Int)) (p2 p3 k : Nat) (F : Nat → Prop) (b : Nat) (tv mv : Value) (svs : List Value) : Prop where
 rv : IsRV w F b (ofN l (k - 1)) tv mv svs
 far : ∀ i, F i → i ≠ p2 ∧ i ≠ p3
 cur : Blk w p3 30 #[tv, mv]
 res : Blk w p2 30 #[.slice none 0 0, .slice none 0 0]
 below : Below w0.heap.size w0 w
 good : ∀ j, j < k → (buildAll (l.take j)).2 = 0
 le2 : w0.heap.size ≤ p2
 le3 : p2 < p3
theorem slice_notB (A : Option Addr) (n c : Nat) : ∀ x, (Value.slice A n c) ≠ byteV x := by intro x h; cases h
theorem vocab_notB {w : World} {g : Nat} {a b : Value} (h : Blk w g 30 #[a, b]) (h1 : ∀ c, a ≠ byteV c) (h2 : ∀ c, b ≠ byteV c) : ∀ (A : Option Addr) (x : Nm), BytesIn w A x.length x → ∀ ad, A = some ad → 0 < x.length → ad.block ≠ g :=
 not_bytes h fun i c e => by
  rcases i with _ | _ | i
  ·simp at e; exact h1 c e
  ·simp at e; exact h2 c e
  ·simp at e
theorem OfAt.then {w0 w w' : World} {l : List (Int × Int)} {p2 p3 k : Nat} {F : Nat → Prop} {b : Nat} {tv mv : Value} {svs : List Value} (h : OfAt w0 w l p2 p3 k F b tv mv svs) (hb : Below w.heap.size w w') : OfAt w0 w' l p2 p3 k F b tv mv svs where
 rv := h.rv.kept hb
 far := h.far
 cur := h.cur.below hb h.cur.lt
 res := h.res.below hb h.res.lt
 below := below_then h.below hb h.below.size
 good := h.good
 le2 := h.le2
 le3 := h.le3
theorem OfAt.next {w0 w w5 w6 : World} {l : List (Int × Int)} {p2 p3 k : Nat} {F F' : Nat → Prop} {b b' : Nat} {A B : Option Addr} {n m ca cb : Nat} {tv mv : Value} {svs svs' : List Value} (h : OfAt w0 w l p2 p3 k F b tv mv svs) (h5 : Below w.heap.size w w5)
  (hI : IsRV w5 F' b' (buildAll (l.take k)).1 (.slice A n ca) (.slice B m cb) svs') (hF : ∀ i, F' i → w.heap.size ≤ i) (he : (buildAll (l.take k)).2 = 0) (h6 : Below w5.heap.size w5 w6) :
  OfAt w0 ((w6.setCell ⟨p3, 0, none⟩ (.slice A n ca)).setCell ⟨p3, 1, none⟩ (.slice B m cb)) l p2 p3 (k + 1) F' b' (.slice A n ca) (.slice B m cb) svs' := by
 have h56 := below_then h5 h6 h5.size
 have hc := h.cur.below h56 h.cur.lt
 have hr := h.res.below h56 h.res.lt
 have hk : Kept (fun i => i = p3) w6 ((w6.setCell ⟨p3, 0, none⟩ (.slice A n ca)).setCell ⟨p3, 1, none⟩ (.slice B m cb)) := ((Kept.refl (fun i => i = p3) w6).setCell (p := ⟨p3, 0, none⟩) (.inl rfl) _).setCell (p := ⟨p3, 1, none⟩) (.inl rfl) _
 have hnb : ∀ (A : Option Addr) (x : Nm), BytesIn w6 A x.length x → ∀ ad, A = some ad → 0 < x.length → ad.block ≠ p3 := by
  obtain ⟨a1, c1, e1⟩ := own_slice h.rv.trow
  obtain ⟨a2, c2, e2⟩ := own_slice h.rv.mrow
  subst e1
  subst e2
  exact vocab_notB hc (slice_notB _ _ _) (slice_notB _ _ _)
 have l3 := h.cur.lt
 have l2 := h.le3
 exact {
  rv := by
   rw [Nat.add_sub_cancel, ofN_good he]
   exact (hI.kept h6).far hk (fun e => by have := hF _ e; omega) hnb
  far := fun i hi => by have := hF i hi; constructor <;> omega
  cur := by
   have := (hc.set_ 0 (.slice A n ca)).set_ 1 (.slice B m cb)
   simpa [Blk] using this
  res := (hr.far (p := ⟨p3, 0, none⟩) (by show p2 ≠ p3; omega) _).far (p := ⟨p3, 1, none⟩) (by show p2 ≠ p3; omega) _
  below := ((below_then h.below h56 h.below.size).setCell (p := ⟨p3, 0, none⟩) (by have := h.le2; show _ ≤ p3; omega) _).setCell (p := ⟨p3, 1, none⟩) (by have := h.le2; show _ ≤ p3; omega) _
  good := fun j hj => by
   rcases Nat.lt_or_ge j k with h1 | h1
   ·exact h.good j h1
   ·have : j = k := by omega
    subst this
    exact he
  le2 := h.le2
  le3 := h.le3 }
theorem two_cellsO {w : World} {g : Nat} {t : TypeId} {x y : Value} (h : Blk w g t #[x, y]) : w.cell? ⟨g, 0, none⟩ = some x ∧ w.cell? ⟨g, 1, none⟩ = some y := by
 have h0 := h.cell 0
 have h1 := h.cell 1
 exact ⟨h0, h1⟩
theorem OfAt.out {w0 w : World} {l : List (Int × Int)} {p2 p3 k j : Nat} {F : Nat → Prop} {b : Nat} {A B : Option Addr} {n m ca cb : Nat} {svs : List Value} (h : OfAt w0 w l p2 p3 k F b (.slice A n ca) (.slice B m cb) svs) (hj : ofN l (k - 1) = ofN l j) :
  OfOut w0 (ofN l j) (.returned (vocV A B n m ca cb)) ((w.setCell ⟨p2, 0, none⟩ (.slice A n ca)).setCell ⟨p2, 1, none⟩ (.slice B m cb)) := by
 have hk : Kept (fun i => i = p2) w ((w.setCell ⟨p2, 0, none⟩ (.slice A n ca)).setCell ⟨p2, 1, none⟩ (.slice B m cb)) := ((Kept.refl (fun i => i = p2) w).setCell (p := ⟨p2, 0, none⟩) (.inl rfl) _).setCell (p := ⟨p2, 1, none⟩) (.inl rfl) _
 have h2 := h.rv.far hk (fun e => (h.far _ e).1 rfl) (vocab_notB h.res (slice_notB _ _ _) (slice_notB _ _ _))
 rw [hj] at h2
 have hO := ofN_ok l j
 obtain ⟨A1, B1, c1, c2, e1, e2, hs⟩ := h2.see (by have := hO.tl; omega) (by have := hO.ml; omega)
 cases e1
 cases e2
 exact ⟨A, B, _, _, ca, cb, rfl, hs, (h.below.setCell h.le2 _).setCell h.le2 _⟩
theorem OfOut.then {w w1 w2 : World} {V : Voc} {e : Ending} (h : OfOut w V e w1) (hb : Below w1.heap.size w1 w2) : OfOut w V e w2 := by
 obtain ⟨A, B, n, m, ca, cb, h1, h2, h3⟩ := h
 exact ⟨A, B, n, m, ca, cb, h1, h2.below hb, below_then h3 hb h3.size⟩
theorem results_cell_row {P : Program} {fn : Func} {p : Tmp} {ty : TypeId} (h : fn.results = #[.cell p ty]) (tmps : Array Value) (w : World) (g : Nat) (t : TypeId) (cs : Array Value) (fr : Nat × Nat) (d : TypeDesc)
  (hp : tmps.getD p undef = .pointer (some ⟨g, 0, none⟩)) (hg : w.heap[g]? = some (.cells cs t fr))
  (hu : P.underlying ty = some d) (hd : (match d with | .struct _ | .array _ _ => true | _ => false) = true) (hi : (P.info? ty).map (·.size) = some cs.size) :
  (results fn tmps).run P w = .ok (.agg cs) w := by
 have hp' : tmps[p]?.getD undef = .pointer (some ⟨g, 0, none⟩) := by simpa using hp
 simp only [results, h]
 simp [Sem.run_bind, Result.andThen, hp', asAddr, run_loadVar_row w g t ty cs fr d hg hu hd hi]
theorem r6Of_any (w : World) (A : Option Addr) (n c : Nat) (l : List (Int × Int)) (hl : PairsIn w A n l) (hn : n ≤ 1048576) (hc : n ≤ c) :
  Calls Tryz.prog 11 #[.slice A n c] w (OfOut w (ofV l)) := by
 have HL := Lib.hid hl
 have hll := hl.len
 have HLL := Lib.hid hll
 clear hl hll
 obtain ⟨V, hV⟩ : ∃ V, V = ofV l := ⟨_, rfl⟩
 rw [← hV]
 have HVV := Lib.hid hV
 clear hV
 obtain ⟨W1, hW1⟩ : ∃ W1, W1 = w.alloc (.cells #[.slice none 0 0, .slice none 0 0] 30) := ⟨_, rfl⟩
 have hv0 : Blk W1 w.heap.size 30 #[.slice none 0 0, .slice none 0 0] := by rw [hW1]; exact Blk.new _ _ _
 have hb1 : Below w.heap.size w W1 := by rw [hW1]; exact (Below.refl _ w).alloc (Nat.le_refl _) _
 have HW1 := Lib.hid hW1
 have HV0 := Lib.hid hv0
 have HB1 := Lib.hid hb1
 clear hW1 hv0 hb1
 go_enter Tryz.func11, Tryz.ntmps11
 go_wp2_with fail
 rw [← HW1.out]
 refine ((r5Build_any W1 none 0 0 [] (PairsIn.none _) (by omega))).mono ?_
 rintro e w2 ⟨tv, mv, svs, F, b, rfl, hb2, h0, -⟩
 obtain ⟨hI, hF⟩ := h0 rfl
 obtain ⟨TA, tca, rfl⟩ := own_slice hI.trow
 obtain ⟨MB, mcb, rfl⟩ := own_slice hI.mrow
 have h256 : (buildAll []).1.tok.length = 256 := ones_len
 have h00 : (buildAll []).1.mer.length = 0 := rfl
 have hR : OfAt w (w2.alloc (.cells #[.slice TA (buildAll []).1.tok.length tca, .slice MB (buildAll []).1.mer.length mcb] 30)) l w.heap.size w2.heap.size 0 F b (.slice TA (buildAll []).1.tok.length tca) (.slice MB (buildAll []).1.mer.length mcb) svs := {
  rv := hI.kept ((Below.refl _ w2).alloc (Nat.le_refl _) _)
  far := fun i hi => by have h1 := hF i hi; have h2 := hI.lt i hi; have h3 := HV0.out.lt; constructor <;> omega
  cur := Blk.new _ _ _
  res := (HV0.out.below hb2 HV0.out.lt).alloc _
  below := (below_then HB1.out hb2 HB1.out.size).alloc (by have := HB1.out.size; have := hb2.size; omega) _
  good := fun j hj => by omega
  le2 := Nat.le_refl _
  le3 := Nat.lt_of_lt_of_le HV0.out.lt hb2.size }
 have HR := Lib.hid hR
 clear hI hF h0 hb2 hR
 go_wp2_with fail
 go_loopw [5] (fun i wr => ∃ (k : Nat) (A B : Option Addr) (n' m' ca cb : Nat) (F : Nat → Prop) (b : Nat) (svs : List Value), k ≤ n + 1 ∧ k ≤ 600 ∧ i = .int .i64 (k : Nat) ∧ OfAt w wr l w.heap.size w2.heap.size k F b (.slice A n' ca) (.slice B m' cb) svs) (fun i _ => n + 1 - (intOf i).toNat)
 case atStart => exact ⟨0, _, _, _, _, _, _, _, _, _, by omega, by omega, rfl, HR.out⟩
 case round =>
  obtain ⟨k, A, B, n', m', ca, cb, F, b, svs, hk1, hk2, rfl, hR⟩ := hrel
  have HR := Lib.hid hR
  obtain ⟨m0, m1⟩ := two_cellsO hR.cur
  clear hR
  by_cases hin : k ≤ n ∧ k < 600
  ·obtain ⟨h1, h2⟩ := hin
   have d1 : (k : Int) ≤ (n : Int) := by omega
   have d2 : (k : Int) < 600 := by omega
   have d3 : (0 : Int) ≤ (k : Int) := by omega
   have d4 : (k : Int) ≤ (c : Int) := by omega
   have d5 : k ≤ c := by omega
   clear m0 m1
   go_wp2_with fail
   refine (r5Build_any wr _ k c (l.take k) ((HL.out.below HR.out.below).upto k h1) (by omega)).mono ?_
   rintro e w5 ⟨tv, mv, svs', F', b', rfl, hb5, h0, hz⟩
   by_cases he : (buildAll (l.take k)).2 = 0
   ·obtain ⟨hI, hF⟩ := h0 he
    obtain ⟨TA, tca, rfl⟩ := own_slice hI.trow
    obtain ⟨MB, mcb, rfl⟩ := own_slice hI.mrow
    rw [he]
    have HN := Lib.hid (HR.out.next hb5 hI hF he (Below.refl _ w5))
    have HR5 := Lib.hid (HR.out.then hb5)
    clear h0 hz hb5 hI hF he
    obtain ⟨m0, m1⟩ := two_cellsO HR5.out.cur
    have z0 := HR5.out.cur.frozen 0
    have z1 := HR5.out.cur.frozen 1
    have q3 := HR5.out.cur.lt
    go_wp2_with fail
    go_roundw
    case rel => exact ⟨k + 1, _, _, _, _, _, _, _, _, _, by omega, by omega, by go_num, HN.out.then ((Below.refl _ _).alloc (Nat.le_refl _) _)⟩
    case measure => simp [intOf]; omega
   ·obtain ⟨rfl, rfl⟩ := hz he
    have HR5 := Lib.hid (HR.out.then hb5)
    have HE := Lib.hid he
    obtain ⟨E, hE⟩ : ∃ E, E = (buildAll (l.take k)).2 := ⟨_, rfl⟩
    rw [← hE] at he ⊢
    have d6 : (E != 0) = true := by simpa using he
    clear h0 hz hb5 he
    obtain ⟨m0, m1⟩ := two_cellsO HR5.out.cur
    obtain ⟨r0, r1⟩ := two_cellsO HR5.out.res
    have z0 := HR5.out.res.frozen 0
    have z1 := HR5.out.res.frozen 1
    have q2 := HR5.out.res.lt
    have q3 := HR5.out.cur.lt
    go_wp2_with fail
    refine bodyPost_ret (results_cell_row rfl _ _ w.heap.size 30 #[.slice A n' ca, .slice B m' cb] (0, 0) _ rfl ?_ Tryz.underlying30 rfl vocabCells) rfl ?_
    ·have := ((HR5.out.res.set_ 0 (.slice A n' ca)).set_ 1 (.slice B m' cb)).alloc (.cells #[.slice none 0 0, .slice none 0 0] 30)
     simpa [Blk] using this
    ·have hk0 : k ≠ 0 := fun e => HE.out (by rw [e]; rfl)
     have hst : ofV l = ofN l (k - 1) := by
      unfold ofV
      rw [HLL.out]
      exact ofN_stop (by rw [Nat.sub_add_cancel (by omega)]; exact HE.out) _ (by omega)
     rw [HVV.out, hst]
     exact (HR5.out.out rfl).then ((Below.refl _ _).alloc (Nat.le_refl _) _)
  ·have hgo : ¬ ((k : Int) ≤ (n : Int)) ∨ ((k : Int) ≤ (n : Int) ∧ ¬ ((k : Int) < 600)) := by omega
   have HJ : Hid (V = ofN l (k - 1)) := Lib.hid (by
    rw [HVV.out]
    unfold ofV
    rw [HLL.out]
    congr 1
    omega)
   obtain ⟨r0, r1⟩ := two_cellsO HR.out.res
   have z0 := HR.out.res.frozen 0
   have z1 := HR.out.res.frozen 1
   rcases hgo with d1 | ⟨d1, d2⟩
   ·go_wp2_with fail
    refine bodyPost_ret (results_cell_row rfl _ _ w.heap.size 30 #[.slice A n' ca, .slice B m' cb] (0, 0) _ rfl ?_ Tryz.underlying30 rfl vocabCells) rfl ?_
    ·have := (HR.out.res.set_ 0 (.slice A n' ca)).set_ 1 (.slice B m' cb)
     simpa [Blk] using this
    ·rw [HJ.out]
     exact HR.out.out rfl
   ·go_wp2_with fail
    refine bodyPost_ret (results_cell_row rfl _ _ w.heap.size 30 #[.slice A n' ca, .slice B m' cb] (0, 0) _ rfl ?_ Tryz.underlying30 rfl vocabCells) rfl ?_
    ·have := (HR.out.res.set_ 0 (.slice A n' ca)).set_ 1 (.slice B m' cb)
     simpa [Blk] using this
    ·rw [HJ.out]
     exact HR.out.out rfl
end Go.Proofs.YthcjikpabpgpfaaGreat
