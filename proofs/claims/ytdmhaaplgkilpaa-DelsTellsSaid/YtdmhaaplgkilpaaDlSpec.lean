/- What the laws of dels ask of the program. -/
import Derived.Test.YtdmhaaplgkilpaaDlMath3
import Derived.Test.YtdmhaaplgkilpaaKHead
import Derived.Test.YtdmhaaplgkilpaaKInts
namespace Go.Proofs.Ytdmhaaplgkilpaa
open Go.RowKit Go.Maps Go.WideMaps

abbrev DelsSt := World → (Nat → Prop) → Nat → DSt → Prop
/-- Bytes have come back, to read, in new memory. -/
def BytesBack (w : World) (x : Nm) (e : Ending) (w' : World) : Prop := ∃ A c, e = .returned (.slice A x.length c) ∧ BytesIn w' A x.length x ∧ x.length ≤ c ∧ (∀ ad, A = some ad → w.heap.size ≤ ad.block) ∧ Below w.heap.size w w'
/-- The contracts of the program's dels: D w F b s: what is deleted, s, lies at b, in the blocks F. -/
structure DelsOk (D : DelsSt) : Prop where
  keep : ∀ {w w' : World} {F : Nat → Prop} {b : Nat} {s : DSt}, D w F b s → (∀ i, F i → w'.heap[i]? = w.heap[i]?) → w.heap.size ≤ w'.heap.size → D w' F b s
  lt : ∀ {w : World} {F : Nat → Prop} {b : Nat} {s : DSt}, D w F b s → ∀ i, F i → i < w.heap.size
  few : ∀ {w : World} {F : Nat → Prop} {b : Nat} {s : DSt}, D w F b s → s.n ≤ 64
  same : ∀ {w : World} {F : Nat → Prop} {b : Nat} {s t : DSt}, D w F b s → DSame s t → D w F b t
  new : ∀ (w : World) (n : Int), fits64 n → Calls Try.prog 14 #[.int .i64 n] w fun e w' => Below w.heap.size w w' ∧ if 0 ≤ n ∧ n ≤ 64 then ∃ b F, e = .returned (.pointer (some ⟨b, 0, none⟩)) ∧ D w' F b (dNew n.toNat) ∧ ∀ i, F i → w.heap.size ≤ i else e = .returned (.pointer none)
  get : ∀ (w : World) (A : Option Addr) (n c : Nat) (x : Nm), BytesIn w A n x → n ≤ c → n ≤ 1000000 → Calls Try.prog 8 #[.slice A n c] w fun e w' => Below w.heap.size w w' ∧ match dGet x with
    | none => e = .returned (.tuple #[.pointer none, .int .i64 3])
    | some s => ∃ b F, e = .returned (.tuple #[.pointer (some ⟨b, 0, none⟩), .int .i64 0]) ∧ D w' F b s ∧ ∀ i, F i → w.heap.size ≤ i
  size : ∀ {w : World} {F : Nat → Prop} {b : Nat} {s : DSt}, D w F b s → Calls Try.prog 10 #[.pointer (some ⟨b, 0, none⟩)] w fun e w' => e = .returned (.int .i64 (s.n : Int)) ∧ ∃ q, w' = w.drewN q
  add : ∀ {w : World} {F : Nat → Prop} {b : Nat} {s : DSt}, D w F b s → ∀ i : Int, fits64 i → Calls Try.prog 16 #[.pointer (some ⟨b, 0, none⟩), .int .i64 i] w fun e w' => e = .returned (.bool (dCan s i)) ∧ ∃ F', D w' F' b (dAdd s i) ∧ Kept F w w' ∧ ∀ i, F' i → F i ∨ w.heap.size ≤ i
  has : ∀ {w : World} {F : Nat → Prop} {b : Nat} {s : DSt}, D w F b s → ∀ i : Int, fits64 i → Calls Try.prog 18 #[.pointer (some ⟨b, 0, none⟩), .int .i64 i] w fun e w' => e = .returned (.bool (dHas s i)) ∧ ∃ q, w' = w.drewN q
  many : ∀ {w : World} {F : Nat → Prop} {b : Nat} {s : DSt}, D w F b s → Calls Try.prog 20 #[.pointer (some ⟨b, 0, none⟩)] w fun e w' => e = .returned (.int .i64 (dMany s : Int)) ∧ ∃ q, w' = w.drewN q
  live : ∀ {w : World} {F : Nat → Prop} {b : Nat} {s : DSt}, D w F b s → Calls Try.prog 12 #[.pointer (some ⟨b, 0, none⟩)] w fun e w' => ∃ A c, e = .returned (.slice A (dLive s).length c) ∧ IntsIn w' A (dLive s).length (dLive s) ∧ (dLive s).length ≤ c ∧ Below w.heap.size w w'
  put : ∀ {w : World} {F : Nat → Prop} {b : Nat} {s : DSt}, D w F b s → Calls Try.prog 21 #[.pointer (some ⟨b, 0, none⟩)] w (BytesBack w (dPut s))
section
variable {D : DelsSt} (hD : DelsOk D)
include hD
theorem DelsOk.below {w w' : World} {F : Nat → Prop} {b : Nat} {s : DSt} (h : D w F b s) (hb : Below w.heap.size w w') : D w' F b s := hD.keep h (fun i hi => hb.block i (hD.lt h i hi)) hb.size
end
end Go.Proofs.Ytdmhaaplgkilpaa
