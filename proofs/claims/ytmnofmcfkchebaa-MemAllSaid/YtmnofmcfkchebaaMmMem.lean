/- Documents in memory: to read; the document's own, in blocks of its own. -/
import Derived.Test.YtmnofmcfkchebaaMmRef1
import Derived.Test.YtmnofmcfkchebaaKPairs
namespace Go.Proofs.Ytmnofmcfkchebaa
open Go.RowKit Go.Maps Go.WideMaps
set_option linter.unusedSimpArgs false

/-- Documents to read. -/
structure OnesSee (w : World) (A : Option Addr) (n : Nat) (L : List MDoc) : Prop where
  len : L.length = n
  fit : n ≤ maxLen
  nil : A = none → n = 0
  at_ : ∀ ad, A = some ad → ∀ (i : Nat) (x : MDoc), L[i]? = some x → fits64 x.doc ∧ w.cell? (ad.add (i * 3)) = some (.int .i64 x.doc) ∧ (∃ B c, w.cell? (ad.add (i * 3 + 1)) = some (.slice B x.T.length c) ∧ x.T.length ≤ c ∧ IntsIn w B x.T.length x.T) ∧ ∃ B c, w.cell? (ad.add (i * 3 + 2)) = some (.slice B x.S.length c) ∧ x.S.length ≤ c ∧ IntsIn w B x.S.length x.S
theorem OnesSee.below {w w' : World} {A : Option Addr} {n : Nat} {L : List MDoc} (h : OnesSee w A n L) (hb : Below w.heap.size w w') : OnesSee w' A n L where
  len := h.len
  fit := h.fit
  nil := h.nil
  at_ := fun ad e i x hx => by
    obtain ⟨h1, h2, ⟨B, c, h3, h4, h5⟩, C, d, h6, h7, h8⟩ := h.at_ ad e i x hx
    exact ⟨h1, below_cells hb h2, ⟨B, c, below_cells hb h3, h4, h5.below hb⟩, C, d, below_cells hb h6, h7, h8.below hb⟩
theorem OnesSee.at {w : World} {A : Option Addr} {n : Nat} {L : List MDoc} (h : OnesSee w A n L) (k : Nat) (hk : k < n) :
    ∃ ad x B c C d, A = some ad ∧ L[k]? = some x ∧ fits64 x.doc ∧ w.cell? (ad.add (k * 3)) = some (.int .i64 x.doc) ∧ w.cell? ⟨(ad.add (k * 3)).block, (ad.add (k * 3)).off + 1, none⟩ = some (.slice B x.T.length c) ∧ w.cell? ⟨(ad.add (k * 3)).block, (ad.add (k * 3)).off + 2, none⟩ = some (.slice C x.S.length d) ∧ x.T.length ≤ c ∧ IntsIn w B x.T.length x.T ∧ x.S.length ≤ d ∧ IntsIn w C x.S.length x.S := by
  have hl := h.len
  cases hA : A with
  | none => have := h.nil hA; omega
  | some ad =>
    subst hA
    have hx : L[k]? = some (L[k]'(by omega)) := List.getElem?_eq_getElem _
    obtain ⟨h1, h2, ⟨B, c, h3, h4, h5⟩, C, d, h6, h7, h8⟩ := h.at_ ad rfl k _ hx
    rw [add_pos' _ _ _ (by omega)] at h3 h6
    exact ⟨ad, _, B, c, C, d, rfl, hx, h1, h2, h3, h6, h4, h5, h7, h8⟩
/-- Numbers to read in the blocks G. -/
def IntsG (w : World) (G : Nat → Prop) (v : Value) (l : List Int) : Prop := ∃ A c, v = .slice A l.length c ∧ l.length ≤ c ∧ IntsIn w A l.length l ∧ ∀ ad, A = some ad → 0 < l.length → G ad.block
theorem IntsG.keep {w w' : World} {G G' : Nat → Prop} {v : Value} {l : List Int} (h : IntsG w G v l) (hk : ∀ i, G i → w'.heap[i]? = w.heap[i]?) (hs : w.heap.size ≤ w'.heap.size) (hG : ∀ i, i < w.heap.size → G i → G' i) : IntsG w' G' v l := by
  obtain ⟨A, c, h1, h2, h3, h4⟩ := h
  exact ⟨A, c, h1, h2, ⟨h3.1, h3.2.1.keep fun ad e h0 => hk _ (h4 ad e h0), h3.2.2.1, fun ad e h0 => Nat.lt_of_lt_of_le (h3.2.2.2 ad e h0) hs⟩, fun ad e h0 => hG _ (h3.2.2.2 ad e h0) (h4 ad e h0)⟩
def oneCells (p : Int × Value × Value) : List Value := [.int .i64 p.1, p.2.1, p.2.2]
theorem mones_at : ∀ (l : List (Int × Value × Value)) (i j : Nat) (p : Int × Value × Value) (u : Value), l[i]? = some p → (oneCells p)[j]? = some u → (l.flatMap oneCells)[i * 3 + j]? = some u
  | [], i, j, p, u, h, _ => by simp at h
  | a :: r, 0, j, p, u, h, h2 => by
    simp at h
    subst h
    rw [List.flatMap_cons, List.getElem?_append_left (by have := (List.getElem?_eq_some_iff.1 h2).1; omega)]
    simpa using h2
  | a :: r, i + 1, j, p, u, h, h2 => by
    have hl : (oneCells a).length = 3 := rfl
    rw [List.flatMap_cons, List.getElem?_append_right (by omega), hl, show (i + 1) * 3 + j - 3 = i * 3 + j by omega]
    exact mones_at r i j p u (by simpa using h) h2
/-- The document's Mem lies at b, in the blocks G. -/
def R12At (w : World) (G : Nat → Prop) (b : Nat) (L : List MDoc) : Prop :=
  G b ∧ (∀ i, G i → i < w.heap.size) ∧ ∃ (v : Value) (R : List (Int × Value × Value)), Blk w b 29 #[v] ∧ R.length = L.length ∧ w.ownsRow 0 56 3 v L.length (R.flatMap oneCells) ∧ (∀ g, v.ownBlock = some g → G g ∧ g ≠ b) ∧
    ∀ (i : Nat) (p : Int × Value × Value) (x : MDoc), R[i]? = some p → L[i]? = some x → p.1 = x.doc ∧ fits64 x.doc ∧ IntsG w (fun i => G i ∧ i ≠ b ∧ v.ownBlock ≠ some i) p.2.1 x.T ∧ IntsG w (fun i => G i ∧ i ≠ b ∧ v.ownBlock ≠ some i) p.2.2 x.S
theorem R12At.keep {w w' : World} {G : Nat → Prop} {b : Nat} {L : List MDoc} (h : R12At w G b L) (hk : ∀ i, G i → w'.heap[i]? = w.heap[i]?) (hs : w.heap.size ≤ w'.heap.size) : R12At w' G b L := by
  obtain ⟨h1, h2, v, R, h3, h4, h5, h6, h7⟩ := h
  refine ⟨h1, fun i hi => Nat.lt_of_lt_of_le (h2 i hi) hs, v, R, (hk b h1).trans h3, h4, ownsRow_block h5 fun g e => hk g (h6 g e).1, h6, fun i p x e1 e2 => ?_⟩
  obtain ⟨q1, q2, q3, q4⟩ := h7 i p x e1 e2
  exact ⟨q1, q2, q3.keep (fun i hi => hk i hi.1) hs (fun _ _ h => h), q4.keep (fun i hi => hk i hi.1) hs (fun _ _ h => h)⟩
theorem R12At.below {w w' : World} {G : Nat → Prop} {b : Nat} {L : List MDoc} (h : R12At w G b L) (hb : Below w.heap.size w w') : R12At w' G b L := h.keep (fun i hi => hb.block i (h.2.1 i hi)) hb.size
/-- Its documents, to read. -/
theorem R12At.see {w : World} {G : Nat → Prop} {b : Nat} {L : List MDoc} (h : R12At w G b L) (hn : L.length ≤ 1000000) : ∃ A c, Blk w b 29 #[.slice A L.length c] ∧ OnesSee w A L.length L := by
  obtain ⟨h1, h2, v, R, h3, h4, h5, h6, h7⟩ := h
  obtain ⟨A, c, rfl⟩ := own_slice h5
  have hz : ∀ ad, A = some ad → ad = ⟨ad.block, 0, none⟩ := fun ad e => by
    rcases h5.2 with ⟨h8, _⟩ | ⟨g, cap, cur, h8, _⟩
    · injection h8 with h8
      rw [h8] at e; cases e
    · injection h8 with h8
      rw [h8] at e
      injection e with e
      rw [← e]
  have ha : ∀ g k, (⟨g, 0, none⟩ : Addr).add k = ⟨g, k, none⟩ := fun g k => by
    unfold Addr.add
    split
    · rename_i h0; rw [h0]
    · simp
  refine ⟨A, c, h3, rfl, by unfold maxLen; omega, fun e => ?_, fun ad e i x hx => ?_⟩
  · rcases h5.2 with ⟨_, h8⟩ | ⟨g, cap, cur, h8, _⟩
    · exact h8
    · injection h8 with h8
      rw [h8] at e; cases e
  · have hlt := (List.getElem?_eq_some_iff.1 hx).1
    obtain ⟨p, hp⟩ : ∃ p, R[i]? = some p := ⟨_, List.getElem?_eq_getElem (by omega)⟩
    obtain ⟨q1, q2, ⟨B, cB, q3, q4, q5, _⟩, C, cC, q6, q7, q8, _⟩ := h7 i p x hp hx
    have hz := hz ad e
    have hc := fun j u (hj : (oneCells p)[j]? = some u) => h5.cells (g := ad.block) (by rw [e]; rfl) (i * 3 + j) u (mones_at R i j p u hp hj)
    have c0 := hc 0 _ rfl
    have c1 := hc 1 _ rfl
    have c2 := hc 2 _ rfl
    rw [ha] at c0 c1 c2
    refine ⟨q2, ?_, ⟨B, cB, ?_, q4, q5⟩, C, cC, ?_, q7, q8⟩
    · rw [hz, ha, ← q1]; exact c0
    · rw [hz, ha, ← q3]; exact c1
    · rw [hz, ha, ← q6]; exact c2

set_option maxHeartbeats 8000000 in
set_option maxRecDepth 100000 in
theorem r12Terms_any {w : World} {G : Nat → Prop} {b : Nat} {L : List MDoc} (h : R12At w G b L) (hW : MWF L) (hT : totT L ≤ 900000) : Calls Try.prog 15 #[.pointer (some ⟨b, 0, none⟩)] w (IntsOut w (mTerms L)) := by
  obtain ⟨A, c, hblk, hsee⟩ := h.see (by have := hW.few; omega)
  have HB := Lib.hid hblk
  have HS := Lib.hid hsee
  have hfew := hW.few
  have hbl := hblk.lt
  obtain ⟨n, hn⟩ : ∃ n, n = L.length := ⟨_, rfl⟩
  rw [← hn] at HB HS hfew
  have HN := Lib.hid hn
  clear h hW hblk hsee hn
  go_enter Try.func15, Try.ntmps15
  go_wp2
  go_loopw [3, 4] (fun v iv wr => ∃ (i : Nat) (o : List Int), i ≤ n ∧ iv = .int .i64 i ∧ o = mTerms (L.take i) ∧ wr.ownsRow w.heap.size 3 1 v o.length (o.map i64V) ∧ Below w.heap.size w wr) (fun _ iv _ => n - (intOf iv).toNat)
  case atStart => exact ⟨0, [], by omega, rfl, rfl, ⟨rfl, .inl ⟨rfl, rfl⟩⟩, Below.refl _ _⟩
  case round =>
    obtain ⟨i, o, hi, rfl, ho, hO, hb⟩ := hrel
    have HO := Lib.hid hO
    have HBW := Lib.hid hb
    have HOE := Lib.hid ho
    have hblk2 := HB.out.below hb hbl
    have c0 := hblk2.cell 0
    simp only [List.getElem?_toArray, List.getElem?_cons_zero] at c0
    obtain ⟨Av, cv, rfl, hcv⟩ := own_cap hO
    clear hO hb ho hblk2
    rcases Nat.lt_or_ge i n with hlt | hge
    · have hlt' : (i : Int) < (n : Int) := by omega
      have p0 : (0 : Int) ≤ (i : Int) := by omega
      have hw5 : IntKind.i64.wrap ((i : Int) + 1) = (i : Int) + 1 := IntWalk.i64_in _ (by omega)
      obtain ⟨_, x, _, _, _, _, -, hx, -⟩ := HS.out.at i hlt
      have HTK : Hid (mTerms (L.take (i + 1)) = termOne (mTerms (L.take i)) x.T) := Lib.hid (by
        rw [List.take_add_one, hx]
        exact terms_append _ _)
      have HTL : Hid (x.T.length + totT (L.take i) ≤ 900000) := Lib.hid (by
        have h1 : totT L = totT (L.take (i + 1)) + totT (L.drop (i + 1)) := by rw [← totT_append, List.take_append_drop]
        have h2 : L.take (i + 1) = L.take i ++ [x] := by rw [List.take_add_one, hx]; rfl
        have h3 : totT [x] = x.T.length := by simp [totT]
        rw [h2, totT_append, h3] at h1
        omega)
      obtain ⟨m, hm⟩ : ∃ m, m = x.T.length := ⟨_, rfl⟩
      have HM := Lib.hid hm
      have hm9 : m ≤ 900000 := by have := HTL.out; omega
      have HCE : Hid (∀ u, Below w.heap.size w u → ∃ pa B cB, A = some pa ∧ u.cell? ⟨b, 0, none⟩ = some (.slice A n c) ∧ u.cell? ⟨(pa.add (i * 3)).block, (pa.add (i * 3)).off + 1, none⟩ = some (.slice B m cB) ∧ IntsIn u B m x.T) := Lib.hid (fun u hu => by
        obtain ⟨pa, x', B, cB, C, d, e1, hx', -, -, a1, -, -, hI, -, -⟩ := (HS.out.below hu).at i hlt
        obtain rfl := Option.some.inj (hx.symm.trans hx')
        have := (HB.out.below hu hbl).cell 0
        rw [hm]
        exact ⟨pa, B, cB, e1, by simpa using this, a1, hI⟩)
      clear hx hm
      obtain ⟨wo, hwo⟩ : ∃ z, z = wr := ⟨_, rfl⟩
      subst hwo
      go_wp2
      go_loopw [3, 5] (fun v kv wi => ∃ (k : Nat) (o : List Int), k ≤ m ∧ kv = .int .i64 k ∧ o = termOne (mTerms (L.take i)) (x.T.take k) ∧ wi.ownsRow w.heap.size 3 1 v o.length (o.map i64V) ∧ Below w.heap.size w wi) (fun _ kv _ => m - (intOf kv).toNat)
      case atStart => exact ⟨0, o, by omega, rfl, HOE.out, HO.out, HBW.out⟩
      case round =>
        obtain ⟨k, o2, hk, rfl, ho2, hO2, hb2⟩ := hrel
        have hol : o2.length ≤ 900000 := by
          have h1 := termOne_len (x.T.take k) (mTerms (L.take i))
          have h2 := terms_len (L.take i)
          have h3 := HTL.out
          rw [← ho2, List.length_take] at h1
          omega
        have HO2 := Lib.hid hO2
        have HB2 := Lib.hid hb2
        have HE2 := Lib.hid ho2
        have hbz2 := hb2.size
        obtain ⟨pa, B, cB, e1, b0, b1, hI⟩ := HCE.out wr hb2
        subst e1
        have HI := Lib.hid hI
        obtain ⟨Av2, cv2, rfl, hcv2⟩ := own_cap hO2
        clear hO2 hb2 ho2 hI
        have q0 : (0 : Int) ≤ (i : Int) := by omega
        have q1 : (i : Int) < (n : Int) := by omega
        rcases Nat.lt_or_ge k m with hlt2 | hge2
        · have hlt2' : (k : Int) < (m : Int) := by omega
          have p1 : (0 : Int) ≤ (k : Int) := by omega
          have hw6 : IntKind.i64.wrap ((k : Int) + 1) = (k : Int) + 1 := IntWalk.i64_in _ (by omega)
          obtain ⟨pb, t, rfl, ht, a0, -, -⟩ := HI.out.at k hlt2
          have HTN : Hid (termOne (mTerms (L.take i)) (x.T.take (k + 1)) = insI t (termOne (mTerms (L.take i)) (x.T.take k))) := Lib.hid (by rw [take_this ht, termOne_append]; rfl)
          have HII := Lib.hid (IntsIn.own HO2.out (by unfold maxLen; omega) (fun y hy => by
            rw [HE2.out] at hy
            rcases termOne_mem.1 hy with h1 | h1
            · obtain ⟨z, h2, h3⟩ := terms_mem.1 h1
              have hzL := List.mem_of_mem_take h2
              obtain ⟨j, hj⟩ := List.getElem?_of_mem hzL
              have hjl := (List.getElem?_eq_some_iff.1 hj).1
              obtain ⟨_, x', _, _, _, _, _, hx', -, -, -, -, -, hI', -⟩ := HS.out.at j (by have := HN.out; omega)
              obtain rfl := Option.some.inj (hj.symm.trans hx')
              exact hI'.2.2.1 y h3
            · exact HI.out.2.2.1 y (List.mem_of_mem_take h1)))
          have HWI := Lib.hid (r12With_any wr Av2 o2.length cv2 o2 t HII.out (by omega))
          clear ht
          go_wp2_with fail
          refine HWI.out.mono ?_
          rintro e w9 ⟨v9, rfl, ho9, hb9⟩
          have HO9 := Lib.hid (rowBase_le ho9 hbz2)
          have HB9 := Lib.hid (below_then HB2.out hb9 HB2.out.size)
          clear ho9 hb9 HWI
          go_wp2
          go_roundw
          case rel => exact ⟨k + 1, _, by omega, by go_num, by rw [HTN.out, ← HE2.out], HO9.out, HB9.out⟩
          case measure => simp [intOf]; omega
        · obtain rfl : k = m := by omega
          have hlz : ¬ ((k : Int) < (k : Int)) := by omega
          have HFN : Hid (o2 = mTerms (L.take (i + 1))) := Lib.hid (by
            have h1 : x.T.take k = x.T := List.take_of_length_le (by rw [← HM.out]; exact Nat.le_refl _)
            rw [HTK.out, HE2.out, h1])
          go_wp2
          go_roundw
          case rel => exact ⟨i + 1, o2, by omega, by go_num, HFN.out, HO2.out, HB2.out⟩
          case measure => simp [intOf]; omega
    · obtain rfl : i = n := by omega
      have hlz : ¬ ((i : Int) < (i : Int)) := by omega
      have HFN : Hid (mTerms L = o) := Lib.hid (by rw [HOE.out, HN.out, List.take_length])
      go_wp2
      go_ret
      rw [HFN.out]
      exact ⟨_, rfl, HO.out, HBW.out⟩
end Go.Proofs.Ytmnofmcfkchebaa
