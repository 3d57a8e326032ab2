import Derived.Test.YthcjikpabpgpfaaGreatZp0
import Derived.Test.YthcjikpabpgpfaaGreatZp7
import Derived.Test.YthcjikpabpgpfaaGreatZp6
import Derived.Test.YthcjikpabpgpfaaGreatZp5
import Derived.Deep.QuietTactic
import Derived.BigQuiet
import Derived.Laws.StructEq
import Derived.Lib.SmallJoins
import Derived.Deep.SlicePairs
import Derived.Deep.Strs
import Derived.ChangeOld
set_option linter.unusedSimpArgs false
set_option maxHeartbeats 16000000
set_option maxRecDepth 100000
namespace Go.Proofs.YthcjikpabpgpfaaGreat
open Go.RowKit Go.Maps Go.WideMaps Go.ChangeShapes Go.WideShapes Go.ChangeAt Go.Deep
structure DocsIn (w : World) (A : Option Addr) (n : Nat) (l : List (Nm × Nm)) : Prop where
 len : l.length = n
 fit : n ≤ maxLen
 vals : ∀ p ∈ l, p.1.length ≤ maxLen ∧ p.2.length ≤ maxLen
 nil : A = none → n = 0
 cells : ∀ ad, A = some ad → ∀ (i : Nat) (p : Nm × Nm), l[i]? = some p → w.cell? (ad.add (i * 2)) = some (.string ⟨p.1.toArray⟩) ∧ w.cell? (ad.add (i * 2 + 1)) = some (.string ⟨p.2.toArray⟩)
theorem DocsIn.below {w w' : World} {A : Option Addr} {n : Nat} {l : List (Nm × Nm)} (h : DocsIn w A n l) (hb : Below w.heap.size w w') : DocsIn w' A n l :=
 ⟨h.len, h.fit, h.vals, h.nil, fun ad e i p hp => by
  obtain ⟨h1, h2⟩ := h.cells ad e i p hp
  exact ⟨(hb.cell (World.block_lt_of_cell? w _ h1)).trans h1, (hb.cell (World.block_lt_of_cell? w _ h2)).trans h2⟩⟩
theorem DocsIn.at {w : World} {A : Option Addr} {n : Nat} {l : List (Nm × Nm)} (h : DocsIn w A n l) (k : Nat) (hk : k < n) :
  ∃ ad p, A = some ad ∧ l[k]? = some p ∧ w.cell? (ad.add (k * 2)) = some (.string ⟨p.1.toArray⟩) ∧ w.cell? ⟨(ad.add (k * 2)).block, (ad.add (k * 2)).off + 1, none⟩ = some (.string ⟨p.2.toArray⟩) ∧ p.1.length ≤ maxLen ∧ p.2.length ≤ maxLen := by
 have hl := h.len
 cases hA : A with
 | none => have := h.nil hA; omega
 | some ad =>
  subst hA
  have hx : l[k]? = some (l[k]'(by omega)) := List.getElem?_eq_getElem _
  obtain ⟨h1, h2⟩ := h.cells ad rfl k _ hx
  have hv := h.vals _ (List.getElem_mem (h := (by omega : k < l.length)))
  rw [add_pos' _ _ _ (by omega)] at h2
  exact ⟨ad, _, rfl, hx, h1, h2, hv.1, hv.2⟩
def docOk (p : Nm × Nm) : Prop := 1 ≤ p.1.length ∧ p.1.length ≤ 32 ∧ p.2.length ≤ 4096
instance (p : Nm × Nm) : Decidable (docOk p) := by unfold docOk; infer_instance
def docsR (l : List (Nm × Nm)) : Prop := l.length ≤ 64 ∧ (∀ p ∈ l, docOk p) ∧ (l.map Prod.fst).Nodup
instance (l : List (Nm × Nm)) : Decidable (docsR l) := by unfold docsR; infer_instance
theorem docsR_bad {l : List (Nm × Nm)} {i : Nat} {p : Nm × Nm} (h : l[i]? = some p) (hb : ¬ docOk p) : ¬ docsR l := fun e => hb (e.2.1 p (List.mem_of_getElem? h))
theorem str_beq (x y : Nm) : ((⟨x.toArray⟩ : ByteArray).toList == (⟨y.toArray⟩ : ByteArray).toList) = decide (x = y) := by
 rw [ByteArray.toList_eq, ByteArray.toList_eq]
 by_cases h : x = y
 ·subst h; simp
 ·simp [h]
theorem str_size (x : Nm) : (⟨x.toArray⟩ : ByteArray).size = x.length := by simp [ByteArray.size]
end Go.Proofs.YthcjikpabpgpfaaGreat
namespace Go.Proofs.YthcjikpabpgpfaaGreat
open Go.RowKit Go.Maps Go.WideMaps
structure PostsSee (w : World) (A : Option Addr) (n : Nat) (l : List (Int × List (Int × Int))) : Prop where
 len : l.length = n
 fit : n ≤ maxLen
 nil : A = none → n = 0
 at_ : ∀ ad, A = some ad → ∀ (i : Nat) (x : Int × List (Int × Int)), l[i]? = some x → fits64 x.1 ∧ w.cell? (ad.add (i * 2)) = some (.int .i64 x.1) ∧ ∃ B c, w.cell? (ad.add (i * 2 + 1)) = some (.slice B x.2.length c) ∧ x.2.length ≤ c ∧ PairsIn w B x.2.length x.2
theorem PostsSee.below {w w' : World} {A : Option Addr} {n : Nat} {l : List (Int × List (Int × Int))} (h : PostsSee w A n l) (hb : Below w.heap.size w w') : PostsSee w' A n l where
 len := h.len
 fit := h.fit
 nil := h.nil
 at_ := fun ad e i x hx => by
  obtain ⟨h1, h2, B, c, h3, h4, h5⟩ := h.at_ ad e i x hx
  exact ⟨h1, below_cells hb h2, B, c, below_cells hb h3, h4, h5.below hb⟩
theorem PostsSee.at {w : World} {A : Option Addr} {n : Nat} {l : List (Int × List (Int × Int))} (h : PostsSee w A n l) (k : Nat) (hk : k < n) :
  ∃ ad x B c, A = some ad ∧ l[k]? = some x ∧ fits64 x.1 ∧ w.cell? (ad.add (k * 2)) = some (.int .i64 x.1) ∧ w.cell? ⟨(ad.add (k * 2)).block, (ad.add (k * 2)).off + 1, none⟩ = some (.slice B x.2.length c) ∧ x.2.length ≤ c ∧ PairsIn w B x.2.length x.2 := by
 have hl := h.len
 cases hA : A with
 | none => have := h.nil hA; omega
 | some ad =>
  subst hA
  have hx : l[k]? = some (l[k]'(by omega)) := List.getElem?_eq_getElem _
  obtain ⟨h1, h2, B, c, h3, h4, h5⟩ := h.at_ ad rfl k _ hx
  rw [add_pos' _ _ _ (by omega)] at h3
  exact ⟨ad, _, B, c, rfl, hx, h1, h2, h3, h4, h5⟩
def docCells (p : Int × Value) : List Value := [.int .i64 p.1, p.2]
theorem doc_len (l : List (Int × Value)) : (l.flatMap docCells).length = l.length * 2 := by
 induction l with
 | nil => rfl
 | cons a r ih => rw [List.flatMap_cons, List.length_append, ih, List.length_cons]; simp [docCells]; omega
theorem doc_at : ∀ (l : List (Int × Value)) (i j : Nat) (p : Int × Value) (u : Value), l[i]? = some p → (docCells p)[j]? = some u → (l.flatMap docCells)[i * 2 + j]? = some u
 | [], i, j, p, u, h, _ => by simp at h
 | a :: r, 0, j, p, u, h, h2 => by
  simp at h
  subst h
  rw [List.flatMap_cons, List.getElem?_append_left (by have := (List.getElem?_eq_some_iff.1 h2).1; omega)]
  simpa using h2
 | a :: r, i + 1, j, p, u, h, h2 => by
  have hl : (docCells a).length = 2 := rfl
  rw [List.flatMap_cons, List.getElem?_append_right (by omega), hl, show (i + 1) * 2 + j - 2 = i * 2 + j by omega]
  exact doc_at r i j p u (by simpa using h) h2
theorem doc_one (d : Int) (A : Option Addr) (n c : Nat) : ∀ u ∈ docCells (d, .slice A n c), u.oneCell' = true := fun u hu => by
 simp [docCells] at hu
 rcases hu with rfl | rfl <;> rfl
theorem doc_src {w : World} {g : Nat} {e : TypeId} {p : Int × Value} (h : Blk w g e #[.int .i64 p.1, p.2]) : ∀ (j : Nat) (u : Value), (docCells p)[j]? = some u → w.cell? ((⟨g, 0, none⟩ : Addr).add j) = some u := by
 intro j u hu
 match j with
 | 0 =>
  simp [docCells] at hu
  subst hu
  exact h.cell 0
 | 1 =>
  simp [docCells] at hu
  subst hu
  exact h.cell 1
 | j + 2 => simp [docCells] at hu
def PostAt (w : World) (x : Int × List (Int × Int)) (p : Int × Value) (far : Nat → Prop) : Prop :=
 p.1 = x.1 ∧ fits64 x.1 ∧ ∃ A c, p.2 = .slice A x.2.length c ∧ x.2.length ≤ c ∧ PairsIn w A x.2.length x.2 ∧ ∀ ad, A = some ad → 0 < x.2.length → ad.block < w.heap.size ∧ far ad.block
theorem PostAt.mono {w w' : World} {x : Int × List (Int × Int)} {p : Int × Value} {f g : Nat → Prop} (h : PostAt w x p f) (hk : ∀ i, i < w.heap.size → f i → w'.heap[i]? = w.heap[i]? ∧ g i) (hs : w.heap.size ≤ w'.heap.size) : PostAt w' x p g := by
 obtain ⟨h1, h2, A, c, h3, h4, h5, h6⟩ := h
 refine ⟨h1, h2, A, c, h3, h4, ⟨h5.len, h5.fit, h5.vals, h5.nil, fun ad e i q hq => ?_⟩, fun ad e h0 => ⟨Nat.lt_of_lt_of_le (h6 ad e h0).1 hs, (hk _ (h6 ad e h0).1 (h6 ad e h0).2).2⟩⟩
 have hlt := (List.getElem?_eq_some_iff.1 hq).1
 obtain ⟨q1, q2⟩ := h6 ad e (by omega)
 obtain ⟨c1, c2⟩ := h5.cells ad e i q hq
 have hb := (hk _ q1 q2).1
 have hblk : ∀ k, (ad.add k).block = ad.block := fun k => by unfold Addr.add; split <;> rfl
 exact ⟨(World.cell?_of_block (by rw [hblk]; exact hb)).trans c1, (World.cell?_of_block (by rw [hblk]; exact hb)).trans c2⟩
def PostsO (w : World) (base : Nat) (v : Value) (L : List (Int × List (Int × Int))) : Prop :=
 ∃ R : List (Int × Value), R.length = L.length ∧ w.ownsRow base 62 2 v L.length (R.flatMap docCells) ∧ ∀ (i : Nat) (p : Int × Value) (x : Int × List (Int × Int)), R[i]? = some p → L[i]? = some x → PostAt w x p fun i => base ≤ i ∧ v.ownBlock ≠ some i
theorem PostsO.nil (w : World) (base : Nat) : PostsO w base (.slice none 0 0) [] := ⟨[], rfl, ⟨rfl, .inl ⟨rfl, rfl⟩⟩, fun i p x h _ => by simp at h⟩
theorem PostsO.below {w w' : World} {base : Nat} {v : Value} {L : List (Int × List (Int × Int))} (h : PostsO w base v L) (hb : Below w.heap.size w w') : PostsO w' base v L := by
 obtain ⟨R, h0, h1, h2⟩ := h
 exact ⟨R, h0, ownsRow_block h1 fun g hg => hb.block g (h1.lt g hg).2, fun i p x e1 e2 => (h2 i p x e1 e2).mono (fun i hi hf => ⟨hb.block i hi, hf⟩) hb.size⟩
theorem PostsO.keepIn {w w' : World} {base : Nat} {v : Value} {L : List (Int × List (Int × Int))} (h : PostsO w base v L) (hk : ∀ i, base ≤ i → i < w.heap.size → w'.heap[i]? = w.heap[i]?) (hs : w.heap.size ≤ w'.heap.size) : PostsO w' base v L := by
 obtain ⟨R, h0, h1, h2⟩ := h
 exact ⟨R, h0, ownsRow_block h1 fun g hg => hk g (h1.lt g hg).1 (h1.lt g hg).2, fun i p x e1 e2 => (h2 i p x e1 e2).mono (fun i hi hf => ⟨hk i hf.1 hi, hf⟩) hs⟩
theorem PostsO.see {w : World} {base n c : Nat} {A : Option Addr} {L : List (Int × List (Int × Int))} (h : PostsO w base (.slice A n c) L) (hn : L.length = n) (h63 : n ≤ maxLen) : PostsSee w A n L where
 len := hn
 fit := h63
 nil := fun e => by
  obtain ⟨R, h0, h1, h2⟩ := h
  rcases h1.2 with ⟨_, h3⟩ | ⟨g, cap, cur, h3, _⟩
  ·omega
  ·rw [e] at h3; cases h3
 at_ := fun ad e i x hx => by
  obtain ⟨R, h0, h1, h2⟩ := h
  subst e
  have hz : ad = ⟨ad.block, 0, none⟩ := by
   rcases h1.2 with ⟨h3, _⟩ | ⟨g, cap, cur, h3, _⟩
   ·cases h3
   ·cases h3; rfl
  have hlt := (List.getElem?_eq_some_iff.1 hx).1
  obtain ⟨p, hp⟩ : ∃ p, R[i]? = some p := ⟨_, List.getElem?_eq_getElem (by omega)⟩
  obtain ⟨q1, q2, B, cc, q3, q4, q5, q6⟩ := h2 i p x hp hx
  have hc := fun j u (hj : (docCells p)[j]? = some u) => h1.cells (g := ad.block) rfl (i * 2 + j) u (doc_at R i j p u hp hj)
  have c0 := hc 0 _ rfl
  have c1 := hc 1 _ rfl
  have ha : ∀ k, (⟨ad.block, 0, none⟩ : Addr).add k = ⟨ad.block, k, none⟩ := fun k => by
   unfold Addr.add
   split
   ·rename_i h0; rw [h0]
   ·simp
  rw [ha] at c0 c1
  refine ⟨q2, ?_, B, cc, ?_, q4, q5⟩
  ·rw [hz, ha, ← q1]; exact c0
  ·rw [hz, ha, ← q3]; exact c1
theorem PostsO.push {w w' : World} {base : Nat} {v v' : Value} {L : List (Int × List (Int × Int))} {x : Int × List (Int × Int)} {p : Int × Value} {R : List (Int × Value)} (h0 : R.length = L.length)
  (h2 : ∀ (i : Nat) (p : Int × Value) (x : Int × List (Int × Int)), R[i]? = some p → L[i]? = some x → PostAt w x p fun i => base ≤ i ∧ v.ownBlock ≠ some i) (hx : PostAt w x p fun i => base ≤ i ∧ v.ownBlock ≠ some i)
  (ho : w'.ownsRow base 62 2 v' (L.length + 1) (R.flatMap docCells ++ docCells p)) (hg : w.grownBy w' v.ownBlock) (hloc : v'.ownBlock = v.ownBlock ∨ ∃ g, v'.ownBlock = some g ∧ w.heap.size ≤ g) : PostsO w' base v' (L ++ [x]) := by
 have keep : ∀ {y q}, PostAt w y q (fun i => base ≤ i ∧ v.ownBlock ≠ some i) → PostAt w' y q fun i => base ≤ i ∧ v'.ownBlock ≠ some i := fun h => h.mono (fun i hi hf => ⟨hg.block i hi (fun e => hf.2 e.symm), hf.1, by
  rcases hloc with e | ⟨g, e, hge⟩
  ·rw [e]; exact hf.2
  ·rw [e]
   intro e2
   have : g = i := Option.some.inj e2
   omega⟩) hg.size
 refine ⟨R ++ [p], by simp [h0], by simpa using ho, fun i q y e1 e2 => ?_⟩
 rcases Nat.lt_or_ge i L.length with hi | hi
 ·rw [List.getElem?_append_left (by omega)] at e1 e2
  exact keep (h2 i q y e1 e2)
 ·have hlt := (List.getElem?_eq_some_iff.1 e2).1
  simp at hlt
  obtain rfl : i = L.length := by omega
  rw [List.getElem?_append_right (by omega)] at e1 e2
  simp [h0] at e1 e2
  subst e1 e2
  exact keep hx
def IntsBack (w : World) (l : List Int) (e : Ending) (w' : World) : Prop := ∃ A c, e = .returned (.slice A l.length c) ∧ IntsIn w' A l.length l ∧ l.length ≤ c ∧ Below w.heap.size w w'
def PostsBack (w : World) (l : List (Int × List (Int × Int))) (e : Ending) (w' : World) : Prop := ∃ A c, e = .returned (.slice A l.length c) ∧ PostsSee w' A l.length l ∧ l.length ≤ c ∧ Below w.heap.size w w'
theorem int64Info : (Tryz.prog.info? 2).map (fun i => (i.zero, i.size, i.bytes)) = some (some (.int .i64 0), 1, 8) := by kernel_rfl
theorem docv_fields : ∃ f g : Field, Tryz.prog.fieldsOf 49 = #[f, g] ∧ f.name ≠ "_" ∧ g.name ≠ "_" ∧ f.type = 9 ∧ g.type = 9 ∧ f.offset = 0 ∧ g.offset = 1 :=
 ⟨_, _, rfl, by decide, by decide, rfl, rfl, rfl, rfl⟩
theorem docNe (p q : Nm × Nm) {r : Bool} (h : decide (p = q) = r) (w : World) : (binOp .neq 49 (.agg #[.string ⟨p.1.toArray⟩, .string ⟨p.2.toArray⟩]) (.agg #[.string ⟨q.1.toArray⟩, .string ⟨q.2.toArray⟩])).run Tryz.prog w = .ok (.bool (!r)) w := by
 have hpq : decide (p = q) = (decide (p.1 = q.1) && decide (p.2 = q.2)) := by
  rw [Bool.eq_iff_iff]
  simp [Prod.ext_iff]
 subst h
 rw [hpq]
 obtain ⟨f, g, h1, h2, h3, h4, h5, h6, h7⟩ := docv_fields
 rw [run_neq_struct, run_equalIn_struct w 9999 49 _ _ rfl (by kernel_rfl), h1]
 have he : ∀ a b : Nm, ∀ w : World, (Op.equalIn 9999 9 (.string ⟨a.toArray⟩) (.string ⟨b.toArray⟩)).run Tryz.prog w = .ok (decide (a = b)) w := fun a b w => by
  rw [run_equalIn_string w 9998 9 _ _ Tryz.underlying9, str_beq]
 simp only [Op.eqFields, h4, h5, h6, h7, if_pos h2, if_pos h3]
 simp [part, he]
 cases hA : decide (p.1 = q.1) <;> cases hB : decide (p.2 = q.2) <;> simp_all
theorem segNil (w : World) (p : Option Addr) : (binOp .eql 38 (.pointer p) (.pointer none)).run Tryz.prog w = .ok (.bool p.isNone) w ∧ (binOp .neq 38 (.pointer p) (.pointer none)).run Tryz.prog w = .ok (.bool (!p.isNone)) w := by
 have h : ∀ d : Nat, (Op.equalIn (d + 1) 38 (.pointer p) (.pointer none)).run Tryz.prog w = .ok p.isNone w := fun d => by
  cases p <;> simp [Op.equalIn, run_underlying Tryz.underlying38]
 simp only [binOp]
 simp [Op.equal, Op.maxDepth, h 9999]
theorem coderNil (w : World) (p : Option Addr) : (binOp .eql 35 (.pointer p) (.pointer none)).run Tryz.prog w = .ok (.bool p.isNone) w ∧ (binOp .neq 35 (.pointer p) (.pointer none)).run Tryz.prog w = .ok (.bool (!p.isNone)) w := by
 have h : ∀ d : Nat, (Op.equalIn (d + 1) 35 (.pointer p) (.pointer none)).run Tryz.prog w = .ok p.isNone w := fun d => by
  cases p <;> simp [Op.equalIn, run_underlying Tryz.underlying35]
 simp only [binOp]
 simp [Op.equal, Op.maxDepth, h 9999]
theorem cursNil (w : World) (p : Option Addr) : (binOp .eql 58 (.pointer p) (.pointer none)).run Tryz.prog w = .ok (.bool p.isNone) w ∧ (binOp .neq 58 (.pointer p) (.pointer none)).run Tryz.prog w = .ok (.bool (!p.isNone)) w := by
 have h : ∀ d : Nat, (Op.equalIn (d + 1) 58 (.pointer p) (.pointer none)).run Tryz.prog w = .ok p.isNone w := fun d => by
  cases p <;> simp [Op.equalIn, run_underlying Tryz.underlying58]
 simp only [binOp]
 simp [Op.equal, Op.maxDepth, h 9999]
theorem clone_any (w : World) (A : Option Addr) (n c : Nat) (l : Nm) (hl : BytesIn w A n l) (hn : n ≤ 140737488355328) :
  Calls Tryz.prog 40 #[.slice A n c] w fun e w' => ∃ v, e = .returned v ∧ w'.ownsRow w.heap.size 5 1 v n (l.map byteV) ∧ Below w.heap.size w w' := by
 obtain ⟨i0, hi, hz0, hz1, hz2⟩ := info_parts byteInfo
 have q22 : ∀ (w : World) (a : Option Addr) (n c n' c' : Nat), (binOp .eql 24 (.slice a n c) (.slice none n' c')).run Tryz.prog w = .ok (.bool a.isNone) w := fun w a n c n' c' => Lib.run_eql_slice_nil w _ _ a n c n' c' Tryz.underlying24
 cases A with
 | none =>
  have h0 := hl.2.1.nil rfl
  have hx : l = [] := List.eq_nil_of_length_eq_zero (by have := hl.2.1.len; simp at this; omega)
  subst h0 hx
  clear hl
  go_enter Tryz.func40, Tryz.ntmps40
  go_wp2
  go_ret
  exact ⟨_, rfl, ⟨rfl, .inl ⟨rfl, rfl⟩⟩, Below.refl _ _⟩
 | some ad =>
  have HL := Lib.hid (BytesIn.below hl ((Below.refl _ w).alloc (Nat.le_refl _) (.cells #[] 5)))
  clear hl
  go_enter Tryz.func40, Tryz.ntmps40
  go_wp2_with (at_builtin; refine wpList_append_src _ rfl (.tmp 5) (.tmp 6) 24 rfl w.heap.size 5 i0 (.int .u8 0) 1 Tryz.underlying24 hi hz0 hz1 hz2 rfl _ 0 [] rfl (World.ownsRow_made w #[] 0 (Nat.le_refl _) (Nat.zero_le _) rfl) (some ad) n c (l.map byteV) rfl HL.out.2.1 (u8_one l) (by unfold maxLen; omega) (by omega) (by simp) ?_; intro v w2 hown hgrow hloc; rw [Nat.zero_add, List.nil_append] at hown; have HO := Lib.hid hown; have HB : Hid (Below w.heap.size w w2) := Lib.hid ((((Below.refl _ w).alloc (Nat.le_refl _) (.cells #[] 5)).grown hgrow (by simp) (fun k e => by cases e; exact Nat.le_refl _))); clear hown hgrow hloc)
  go_ret
  exact ⟨_, rfl, HO.out, HB.out⟩
end Go.Proofs.YthcjikpabpgpfaaGreat
namespace Go.Proofs.YthcjikpabpgpfaaGreat
open Go.RowKit Go.Maps Go.WideMaps Go.ChangeShapes Go.WideShapes Go.ChangeAt Go.Deep
section
variable {H : Type} {enc : TypeId × Value → H} {w : World}
theorem doc_in {cs : List Value} {x : DataW H × List MemPlace} {fuel : Nat} {base : Nat} {spare : Nat → Bool} {held : Bool} (h : DataW.trod enc Tryz.prog w base spare held fuel 49 cs = some x) :
  ∃ p : Nm × Nm, cs = [.string ⟨p.1.toArray⟩, .string ⟨p.2.toArray⟩] ∧ p.1.length ≤ maxLen ∧ p.2.length ≤ maxLen := by
 obtain ⟨fs, f0, f1, he, hf0, hf1, hs2, t0, t1, c0, c1, o0, o1⟩ : ∃ (fs : Array Field) (f0 f1 : Field), Tryz.prog.underlying 49 = some (.struct fs) ∧ fs[0]? = some f0 ∧ fs[1]? = some f1 ∧ fs.size = 2 ∧ Tryz.prog.underlying f0.type = some .string ∧ Tryz.prog.underlying f1.type = some .string ∧ Tryz.prog.cellsOf f0.type = 1 ∧ Tryz.prog.cellsOf f1.type = 1 ∧ f0.offset = 0 ∧ f1.offset = 1 :=
  ⟨_, _, _, Tryz.underlying49, rfl, rfl, rfl, Tryz.underlying9, Tryz.underlying9, by kernel_rfl, by kernel_rfl, rfl, rfl⟩
 have h2 : Tryz.prog.cellsOf 49 = 2 := by kernel_rfl
 obtain ⟨ys, m, _, _, hlen, hy, hf⟩ := DataW.trod_struct he h
 rw [h2] at hlen
 have g0 := hf 0 _ hf0
 have g1 := hf 1 _ hf1
 rw [c0, o0, List.getElem?_eq_getElem (by omega)] at g0
 rw [c1, o1, List.getElem?_eq_getElem (by omega)] at g1
 match cs, hlen with
 | [a, b], _ =>
  simp only [List.drop_zero, List.drop_succ_cons, List.take_succ_cons, List.take_zero] at g0 g1
  obtain ⟨s0, e0, _, w0⟩ := DataW.trod_string t0 g0
  obtain ⟨s1, e1, _, w1⟩ := DataW.trod_string t1 g1
  simp only [List.cons.injEq, and_true] at e0 e1
  subst e0 e1
  exact ⟨(s0.data.toList, s1.data.toList), by simp, by show s0.data.toList.length ≤ maxLen; rw [Array.length_toList]; exact w0, by show s1.data.toList.length ≤ maxLen; rw [Array.length_toList]; exact w1⟩
theorem docsIn {A : Option Addr} {n c : Nat} {x : DataW H × List MemPlace} {fuel : Nat} {base : Nat} {spare : Nat → Bool} {held : Bool} (h : DataW.trod enc Tryz.prog w base spare held fuel 23 [.slice A n c] = some x) (_ : Sized 23 x.1) : ∃ l, DocsIn w A n l := by
 have ht : Tryz.prog.underlying 23 = some (.slice 49) := by kernel_rfl
 have h2 : Tryz.prog.cellsOf 49 = 2 := by kernel_rfl
 rcases open_slice ht h with ⟨hcs, _⟩ | ⟨a, len, cap, m, f, D, Pl, hcs, _, hl, hm, hmm, hx, hi⟩
 ·simp only [List.cons.injEq, Value.slice.injEq, and_true] at hcs
  obtain ⟨rfl, rfl, rfl⟩ := hcs
  exact ⟨[], rfl, by unfold maxLen; omega, by simp, fun _ => rfl, fun ad e => by cases e⟩
 ·simp only [List.cons.injEq, Value.slice.injEq, and_true] at hcs
  obtain ⟨rfl, rfl, rfl⟩ := hcs
  have hlm : n ≤ m := by rw [hmm]; split <;> omega
  have hex : ∀ i, i < n → ∃ p : Nm × Nm, (p.1.length ≤ maxLen ∧ p.2.length ≤ maxLen) ∧ w.cell? (a.add (i * 2)) = some (.string ⟨p.1.toArray⟩) ∧ w.cell? (a.add (i * 2 + 1)) = some (.string ⟨p.2.toArray⟩) := by
   intro i hlt
   obtain ⟨cs', hc, hd⟩ := hi i (by omega)
   rw [h2] at hc
   obtain ⟨p, rfl, h3, h4⟩ := doc_in hd
   obtain ⟨_, _, hat⟩ := World.cells?_some hc
   have k0 := hat 0 (by simp)
   have k1 := hat 1 (by simp)
   rw [add_add] at k0 k1
   exact ⟨p, ⟨h3, h4⟩, k0, k1⟩
  have hw : ∀ k, k ≤ n → ∃ l : List (Nm × Nm), l.length = k ∧ ∀ (i : Nat) (p : Nm × Nm), l[i]? = some p → (p.1.length ≤ maxLen ∧ p.2.length ≤ maxLen) ∧ w.cell? (a.add (i * 2)) = some (.string ⟨p.1.toArray⟩) ∧ w.cell? (a.add (i * 2 + 1)) = some (.string ⟨p.2.toArray⟩) := by
   intro k
   induction k with
   | zero => intro _; exact ⟨[], rfl, by simp⟩
   | succ k ih =>
    intro hk
    obtain ⟨l, h1, h4⟩ := ih (by omega)
    obtain ⟨p, h5⟩ := hex k (by omega)
    refine ⟨l ++ [p], by simp [h1], fun i y hy => ?_⟩
    rcases Nat.lt_or_ge i k with hik | hik
    ·rw [List.getElem?_append_left (by omega)] at hy
     exact h4 i y hy
    ·have hlt := (List.getElem?_eq_some_iff.1 hy).1
     simp [h1] at hlt
     obtain rfl : i = k := by omega
     rw [List.getElem?_append_right (by omega), h1, Nat.sub_self] at hy
     simp at hy
     subst hy
     exact h5
  obtain ⟨l, h1, h4⟩ := hw n (Nat.le_refl _)
  refine ⟨l, h1, by omega, fun p hp => ?_, (fun e => by cases e), fun ad e i p hp => ?_⟩
  ·obtain ⟨i, hi⟩ := List.getElem?_of_mem hp
   exact (h4 i p hi).1
  ·cases e
   exact (h4 i p hp).2
end
end Go.Proofs.YthcjikpabpgpfaaGreat
