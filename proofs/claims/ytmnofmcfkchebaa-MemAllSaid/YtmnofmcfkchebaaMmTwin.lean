/- The program's documents and the document's, side by side. -/
import Derived.Test.YtmnofmcfkchebaaMmLaw0
import Derived.Test.YtmnofmcfkchebaaMmAdd
import Derived.Test.YtmnofmcfkchebaaMmPosts
namespace Go.Proofs.Ytmnofmcfkchebaa
open Go.RowKit Go.Maps Go.WideMaps
set_option linter.unusedSimpArgs false

/-- What came back as one's own, to read. -/
theorem ints_back {w w' : World} {l : List Int} {e : Ending} (h : IntsOut w l e w') (h63 : l.length ≤ maxLen) (hl : ∀ x ∈ l, -9223372036854775808 ≤ x ∧ x ≤ 9223372036854775807) : IntsBack w l e w' := by
  obtain ⟨v, rfl, ho, hb⟩ := h
  obtain ⟨A, c, rfl⟩ := own_slice ho
  exact ⟨A, c, rfl, IntsIn.own ho h63 hl, rowCap_le ho, hb⟩
theorem posts_back {w w' : World} {l : List Pst} {e : Ending} (h : PostsOut w l e w') (h63 : l.length ≤ maxLen) : PostsBack w l e w' := by
  obtain ⟨v, rfl, ho, hb⟩ := h
  obtain ⟨A, c, rfl, hc⟩ : ∃ A c, v = .slice A l.length c ∧ l.length ≤ c := by
    obtain ⟨R, _, h1, _⟩ := ho
    obtain ⟨A, c, rfl⟩ := own_slice h1
    exact ⟨A, c, rfl, rowCap_le h1⟩
  exact ⟨A, c, rfl, ho.see rfl h63, hc, hb⟩
theorem terms_fit {L : List MDoc} (h : MWF L) : ∀ x ∈ mTerms L, -9223372036854775808 ≤ x ∧ x ≤ 9223372036854775807 := fun x hx => by
  obtain ⟨y, hy, hxy⟩ := terms_mem.1 hx
  obtain ⟨k, hk, rfl⟩ := List.getElem_of_mem hxy
  have h1 := ((h.ok y hy).tok hk).1
  rw [List.getD_eq_getElem?_getD, List.getElem?_eq_getElem hk] at h1
  have h2 := (h.ok y hy).fit.1 _ hxy
  have h3 : (some y.T[k]).getD 0 = y.T[k] := rfl
  omega
theorem r12Terms_back {w : World} {G : Nat → Prop} {b : Nat} {L : List MDoc} (h : R12At w G b L) (hW : MWF L) (hT : totT L ≤ 20000) : Calls Try.prog 15 #[.pointer (some ⟨b, 0, none⟩)] w (IntsBack w (mTerms L)) :=
  (r12Terms_any h hW (by omega)).mono fun e w' ho => ints_back ho (by have := terms_len L; unfold maxLen; omega) (terms_fit hW)
theorem r12Posts_back {w : World} {G : Nat → Prop} {b : Nat} {L : List MDoc} (h : R12At w G b L) (hW : MWF L) (t : Int) : Calls Try.prog 18 #[.pointer (some ⟨b, 0, none⟩), .int .i64 t] w (PostsBack w (mPosts L t)) :=
  (r12Posts_any h hW t).mono fun e w' ho => posts_back ho (by have := postUp_len L t L.length; have := hW.few; unfold maxLen mPosts; omega)
/-- The document's, empty. -/
theorem r12_new (w : World) : R12At (w.alloc (.cells #[.slice none 0 0] 29)) (fun i => i = w.heap.size) w.heap.size [] :=
  ⟨rfl, fun i hi => by rw [hi]; simp, .slice none 0 0, [], Blk.new _ _ _, rfl, World.ownsRow_nil _ _ _ _, fun g e => (by cases e), fun i p x e _ => (by simp at e)⟩

/-- Both, apart; new since W. -/
structure Twin (M : World → (Nat → Prop) → Nat → List MDoc → Prop) (W w : World) (F : Nat → Prop) (b : Nat) (G : Nat → Prop) (d : Nat) (L1 L2 : List MDoc) : Prop where
  m : M w F b L1
  r : R12At w G d L2
  nf : MNew W F
  ng : MNew W G
  ap : ∀ i, F i → ¬ G i
  hb : Below W.heap.size W w
section
variable {M : World → (Nat → Prop) → Nat → List MDoc → Prop} (hK : MemOk M)
include hK
theorem Twin.below {W w w' : World} {F G : Nat → Prop} {b d : Nat} {L1 L2 : List MDoc} (t : Twin M W w F b G d L1 L2) (h : Below w.heap.size w w') : Twin M W w' F b G d L1 L2 :=
  ⟨hK.below t.m h, t.r.below h, t.nf, t.ng, t.ap, below_then t.hb h t.hb.size⟩
theorem Twin.start {W w : World} {F : Nat → Prop} {b : Nat} (hM : M w F b []) (hF : MNew W F) (hB : Below W.heap.size W w) : Twin M W (w.alloc (.cells #[.slice none 0 0] 29)) F b (fun i => i = w.heap.size) w.heap.size [] [] :=
  ⟨hK.below hM ((Below.refl _ w).alloc (Nat.le_refl _) _), r12_new w, hF, fun i hi => by rw [hi]; exact hB.size, fun i h1 h2 => by have := hK.lt hM i h1; omega, hB.alloc hB.size _⟩
end
/-- The i-th of the documents that came in. -/
theorem law_doc {W : World} {A : Option Addr} {n i : Nat} {X : List MDoc} (h : OnesSee W A n X) (hi : i < n) :
    ∃ pa x B cB C cC, A = some pa ∧ X[i]? = some x ∧ mD X i = x ∧ fits64 x.doc ∧ x.T.length ≤ cB ∧ x.S.length ≤ cC ∧ ∀ u, Below W.heap.size W u → u.cell? (pa.add (i * 3)) = some (.int .i64 x.doc) ∧ u.cell? ⟨(pa.add (i * 3)).block, (pa.add (i * 3)).off + 1, none⟩ = some (.slice B x.T.length cB) ∧ u.cell? ⟨(pa.add (i * 3)).block, (pa.add (i * 3)).off + 2, none⟩ = some (.slice C x.S.length cC) ∧ IntsIn u B x.T.length x.T ∧ IntsIn u C x.S.length x.S ∧ (∀ ad, B = some ad → 0 < x.T.length → ad.block < W.heap.size) ∧ ∀ ad, C = some ad → 0 < x.S.length → ad.block < W.heap.size := by
  obtain ⟨pa, x, B, cB, C, cC, rfl, hx, hfx, a0, a1, a2, hcB, hIB, hcC, hIC⟩ := h.at i hi
  exact ⟨pa, x, B, cB, C, cC, rfl, hx, mD_at hx, hfx, hcB, hcC, fun u hu => ⟨below_cells hu a0, below_cells hu a1, below_cells hu a2, hIB.below hu, hIC.below hu, hIB.2.2.2, hIC.2.2.2⟩⟩
section
variable {M : World → (Nat → Prop) → Nat → List MDoc → Prop} (hK : MemOk M)
include hK
theorem twin_add1 {W w u : World} {F G : Nat → Prop} {b d : Nat} {L : List MDoc} {x : MDoc} {B C : Option Addr} {n m cB cC : Nat} (t : Twin M W w F b G d L L) (hu : Below w.heap.size w u) (hw : MWF L) (ht : totT L ≤ 20000) (j1 : IntsIn u B n x.T) (j2 : IntsIn u C m x.S) (hcB : n ≤ cB) (hcC : m ≤ cC) (k1 : ∀ ad, B = some ad → 0 < n → ad.block < W.heap.size) (k2 : ∀ ad, C = some ad → 0 < m → ad.block < W.heap.size) (hfx : fits64 x.doc) :
    Calls Try.prog 10 #[.pointer (some ⟨b, 0, none⟩), .int .i64 x.doc, .slice B n cB, .slice C m cC] u fun e w' => e = .returned (.int .i64 (mErr L x)) ∧ ∃ F', Twin M W w' F' b G d (mAdd L x) L := by
  have hBu := below_then t.hb hu t.hb.size
  refine (hK.add (hK.below t.m hu) hw ht x B C _ _ cB cC j1 j2 hcB hcC (fun ad e h0 hf => ?_) (fun ad e h0 hf => ?_) hfx).mono ?_
  · have h1 := k1 ad e h0
    have h2 := t.nf _ hf
    omega
  · have h1 := k2 ad e h0
    have h2 := t.nf _ hf
    omega
  · rintro e w' ⟨rfl, F', h1, h2, h3⟩
    have hr := t.r.below hu
    refine ⟨rfl, F', h1, hr.keep (fun i hi => h2.block i (hr.2.1 i hi) fun hf => t.ap i hf hi) h2.size, t.nf.more h3 hBu.size, t.ng, fun i hf hg => ?_, below_mine hBu h2 t.nf⟩
    rcases h3 i hf with h | h
    · exact t.ap i h hg
    · have := hr.2.1 i hg; omega
theorem twin_add2 {W w u : World} {F G : Nat → Prop} {b d : Nat} {L1 L : List MDoc} {x : MDoc} {B C : Option Addr} {n m cB cC : Nat} (t : Twin M W w F b G d L1 L) (hu : Below w.heap.size w u) (hw : MWF L) (j1 : IntsIn u B n x.T) (j2 : IntsIn u C m x.S) (hfx : fits64 x.doc) :
    Calls Try.prog 11 #[.pointer (some ⟨d, 0, none⟩), .int .i64 x.doc, .slice B n cB, .slice C m cC] u fun e w' => e = .returned (.int .i64 (mErr L x)) ∧ ∃ G', Twin M W w' F b G' d L1 (mAdd L x) := by
  have hBu := below_then t.hb hu t.hb.size
  refine (r12Add_any (t.r.below hu) hw x B C n m cB cC j1 j2 hfx).mono ?_
  rintro e w' ⟨rfl, G', h1, h2, h3⟩
  have hm := hK.below t.m hu
  refine ⟨rfl, G', hK.far hm h2 t.ap, h1, t.nf, t.ng.more h3 hBu.size, fun i hf hg => ?_, below_mine hBu h2 t.ng⟩
  rcases h3 i hg with h | h
  · exact t.ap i hf h
  · have := hK.lt hm i hf; omega
end
end Go.Proofs.Ytmnofmcfkchebaa
