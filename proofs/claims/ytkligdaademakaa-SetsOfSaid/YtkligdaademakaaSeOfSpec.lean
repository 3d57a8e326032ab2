/- What the law of sets of cursors asks of the program. -/
import Derived.Test.YtkligdaademakaaSePool
import Derived.Test.YtkligdaademakaaZp5
namespace Go.Proofs.Ytkligdaademakaa
open Go.RowKit Go.Maps Go.WideMaps
set_option linter.unusedSimpArgs false

abbrev CurP := World → (Nat → Prop) → Nat → CSt → Prop
/-- A cursor's documents, from where it stands. -/
def docsFrom (s : CSt) : List Int := (s.l.drop s.at_).map (·.1)
/-- Cursors that are made. -/
structure CurLive (K : CurP) : Prop where
  keep : ∀ {w w' : World} {F : Nat → Prop} {b : Nat} {s : CSt}, K w F b s → (∀ i, F i → w'.heap[i]? = w.heap[i]?) → w.heap.size ≤ w'.heap.size → K w' F b s
  lt : ∀ {w : World} {F : Nat → Prop} {b : Nat} {s : CSt}, K w F b s → ∀ i, F i → i < w.heap.size
  new : ∀ (w : World) (A : Option Addr) (n c : Nat) (x : Nm), BytesIn w A n x → n ≤ c → n ≤ 1099511627776 → (getP x).2 = 0 → Calls Try.prog 25 #[.slice A n c] w fun e w' => ∃ b F, e = .returned (.tuple #[.pointer (some ⟨b, 0, none⟩), .int .i64 0]) ∧ Below w.heap.size w w' ∧ K w' F b (cStart (getP x).1) ∧ ∀ i, F i → w.heap.size ≤ i
/-- Sets of them. -/
structure OfOk (S : SetP) (K : CurP) : Prop where
  of : ∀ (w : World) (G F : Nat → Prop) (b : Nat) (s : CSt), K w F b s → CWF s → ValidP s.l → (∀ i, F i → ¬ G i) → (∀ b, G b → b < w.heap.size) → Calls Try.prog 26 #[.pointer (some ⟨b, 0, none⟩)] w fun e w' => ∃ ad F', e = .returned (.pointer (some ad)) ∧ S w' F' G (some ad) (docsFrom s) ∧ Kept F w w' ∧ ∀ i, F' i → F i ∨ w.heap.size ≤ i
  none : ∀ (w : World) (G : Nat → Prop), (∀ b, G b → b < w.heap.size) → Calls Try.prog 26 #[.pointer none] w (SetOut S w (fun _ => False) G [])
section
variable {S : SetP} (hS : SetsOk S) {W w : World} {G : Nat → Prop} {L : List SV} {K : CurP} (hO : OfOk S K)
include hS hO
/-- A set of a cursor that lies apart. -/
theorem Pool.of (h : Pool S W w G L) {F : Nat → Prop} {b : Nat} {s : CSt} (hk : K w F b s) (hw : CWF s) (hv : ValidP s.l) (hF : ∀ i, F i → ¬ G i ∧ ∀ x ∈ L, ¬ x.F i) :
    Calls Try.prog 26 #[.pointer (some ⟨b, 0, none⟩)] w fun e w' => ∃ ad F', e = .returned (.pointer (some ad)) ∧ Pool S W w' G (L ++ [⟨some ad, docsFrom s, F'⟩]) ∧ Kept F w w' ∧ ∀ i, F' i → F i ∨ w.heap.size ≤ i := by
  refine (hO.of w G F b s hk hw hv (fun i hi => (hF i hi).1) h.lt).mono ?_
  rintro e w' ⟨ad, F', rfl, h1, h2, h3⟩
  exact ⟨ad, F', rfl, h.push hS h2 hF (y := ⟨some ad, docsFrom s, F'⟩) h1 h3, h2, h3⟩
theorem Pool.ofNone (h : Pool S W w G L) : Calls Try.prog 26 #[.pointer none] w fun e w' => ∃ y : SV, e = .returned (.pointer y.p) ∧ y.l = [] ∧ Pool S W w' G (L ++ [y]) ∧ Below w.heap.size w w' := by
  refine (hO.none w G h.lt).mono ?_
  rintro e w' ⟨p, F', rfl, h1, h2, h3⟩
  exact ⟨⟨p, [], F'⟩, rfl, rfl, h.push hS h2 (fun b e => e.elim) (y := ⟨p, [], F'⟩) h1 h3, h2.toBelow (Nat.le_refl _) (fun b e => e.elim)⟩
omit hO in
/-- A set of a pool goes on. -/
theorem Pool.skip {ad : Addr} {l : List Int} {F : Nat → Prop} (h : Pool S W w G (L ++ [⟨some ad, l, F⟩])) (d : Int) (hd : fits64 d) :
    Calls Try.prog 18 #[.pointer (some ad), .int .i64 d] w fun e w' => ∃ (r : Bool) (F' : Nat → Prop), e = .returned (.bool r) ∧ Pool S W w' G (L ++ [⟨some ad, l.dropWhile (fun x => decide (x < d)), F'⟩]) ∧ Kept F w w' ∧ ∀ i, F' i → F i ∨ w.heap.size ≤ i := by
  have hR := h.right
  refine (hS.skip w F G ad l d (hR.each _ (List.mem_singleton.2 rfl)) (hR.far _ (List.mem_singleton.2 rfl)) hd).mono ?_
  rintro e w' ⟨rfl, F', h1, h2, h3⟩
  exact ⟨_, F', rfl, h.left.push hS h2 (fun i hi => ⟨hR.far _ (List.mem_singleton.2 rfl) i hi, fun y hy hyb => h.cross y hy _ (List.mem_singleton.2 rfl) i hyb hi⟩) (y := ⟨some ad, _, F'⟩) h1 h3, h2, h3⟩
end
theorem docs_start (l : List Pst) : docsFrom (cStart l) = l.map (·.1) ∧ (cStart l).l = l := by
  unfold docsFrom cStart
  rw [(cStand_l _).1, (cStand_l _).2]
  exact ⟨rfl, rfl⟩
end Go.Proofs.Ytkligdaademakaa
