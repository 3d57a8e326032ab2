/- The program's Encode. -/
import Derived.Test.YtimbimnbaoaboaaENew1
import Derived.Test.YtimbimnbaoaboaaEMerge
import Derived.Test.YtimbimnbaoaboaaVBMath
import Derived.Deep.LoopGhost
namespace Go.Proofs.Ytimbimnbaoaboaa
open Go.RowKit Go.Maps Go.WideMaps
set_option linter.unusedSimpArgs false

def encR (M : List Mg) (s : Nm) : List Int := if 4096 < s.length then [] else encL M s
def encE (s : Nm) : Int := if 4096 < s.length then 2 else 0
theorem own_le {w : World} {base base' : Nat} {e : TypeId} {size n : Nat} {v : Value} {xs : List Value} (h : w.ownsRow base e size v n xs) (hb : base' ≤ base) : w.ownsRow base' e size v n xs :=
  ⟨h.1, h.2.imp id fun ⟨g, cap, cur, h1, h2, h3⟩ => ⟨g, cap, cur, h1, Nat.le_trans hb h2, h3⟩⟩
/-- A list of one's own, and an errno. -/
def ListOut (w : World) (l : List Int) (r : Int) (e : Ending) (w' : World) : Prop :=
  ∃ v, e = .returned (.tuple #[v, .int .i64 r]) ∧ w'.ownsRow w.heap.size 3 1 v l.length (l.map i64V) ∧ Below w.heap.size w w'
set_option maxHeartbeats 4000000 in
set_option maxRecDepth 100000 in
theorem encode_any (w : World) (b : Nat) (V : Voc) (hC : Coder w b V) (hM : V.mer.length ≤ 1000000) (A : Option Addr) (n c : Nat) (s : Nm) (hs : BytesIn w A n s) :
    Calls Try.prog 12 #[at0 b, .slice A n c] w (ListOut w (encR V.mer s) (encE s)) := by
  have hsl : s.length = n := by have := hs.2.1.len; simpa using this
  have hn63 : n ≤ 9223372036854775807 := hs.1
  unfold encR encE at0
  rw [hsl]
  rcases Nat.lt_or_ge 4096 n with hlt | hge
  · rw [if_pos hlt, if_pos hlt]
    clear hC hs
    have h1 : (4096 : Int) < (n : Int) := by omega
    go_enter Try.func12, Try.ntmps12
    go_wp2
    go_ret2
    exact ⟨_, rfl, World.ownsRow_nil _ _ _ _, Below.refl _ _⟩
  · rw [if_neg (by omega), if_neg (by omega)]
    have h1 : ¬ (4096 : Int) < (n : Int) := by omega
    have HC := Lib.hid hC
    have HS := Lib.hid hs
    have HSL := Lib.hid hsl
    clear hC hs hsl
    go_enter Try.func12, Try.ntmps12
    go_wp2_with fail
    refine (newRow_any w b V HC.out A n c s HS.out (by omega) hM).mono ?_
    rintro e w1 ⟨r, st0, rfl, hR0, hS0, hl0⟩
    have hO0 := rowOK_init s
    have HR0 := Lib.hid hR0
    have HS0 := Lib.hid hS0
    have HL0 := Lib.hid hl0
    have HO0 := Lib.hid hO0
    clear hR0 hS0 hl0 hO0
    unfold at0
    go_wp2_with fail
    go_loopg [13] n (fun k _ wr => ∃ (l : List Int) (qs : List Nat) (at_ before behind : List Int) (st : List (Nat × Nat)), k = l.length ∧ encRun V.mer l.length l = encL V.mer s ∧ Row w wr r b at_ before behind st ∧ RowOK n l qs at_ before behind ∧ StOK st (stepSet V.mer l qs) ∧ st.length + l.length ≤ 2 * n)
    case atStart => exact ⟨_, _, _, _, _, _, by rw [bytesI_len, HSL.out], by rw [bytesI_len]; rfl, HR0.out, HSL.out ▸ HO0.out, HS0.out, by rw [bytesI_len]; have := HL0.out; have := HSL.out; omega⟩
    case round =>
      obtain ⟨l, qs, at_, before, behind, st, rfl, hE, hR, hO, hS, hB⟩ := hrel
      obtain ⟨va, vb, vc, vs, hI⟩ := hR
      obtain ⟨As, cs, rfl⟩ := own_slice hI.stR
      have g4 := hI.cl.2.2.2.2
      rcases Nat.eq_zero_or_pos st.length with h0 | hpos
      · have hst : st = [] := List.eq_nil_of_length_eq_zero h0
        have hbest : bestOf V.mer l = none := bestOf_none fun j => by
          cases hp : pairRk V.mer l j with
          | none => rfl
          | some k =>
            obtain ⟨q, hq⟩ := hO.get (i := j) (by have := pairRk_in hp; omega)
            have := (hS.mem (k, q)).2 ⟨j, stepOf_some.2 ⟨hq, hp⟩⟩
            rw [hst] at this
            cases this
        rw [encRun_done hbest] at hE
        have HI := Lib.hid hI
        have HO := Lib.hid hO
        have HE := Lib.hid hE
        have hz : ¬ (0 : Int) < (st.length : Int) := by omega
        clear hI hO hS hE hbest hst h0
        go_wp2_with fail
        refine (list_any w wr r b ⟨_, _, _, _, HI.out⟩ HO.out (by omega)).mono ?_
        rintro e w2 ⟨v, rfl, hown, hb⟩
        obtain ⟨A2, c2, rfl⟩ := own_slice hown
        have HOWN := Lib.hid hown
        have HB := Lib.hid hb
        clear hown hb g4
        go_wp2_with fail
        go_ret2
        refine ⟨_, rfl, ?_, ?_⟩
        · rw [← HE.out]
          exact own_le HOWN.out HI.out.below.size
        · exact below_then HI.out.below HB.out HI.out.below.size
      · have HI := Lib.hid hI
        have HO := Lib.hid hO
        have HS2 := Lib.hid hS
        have HE := Lib.hid hE
        have hz : (0 : Int) < (st.length : Int) := by omega
        clear hI hO hS hE
        go_wp2_with fail
        refine (mergeFirst_any w wr r b V HC.out ⟨_, _, _, _, HI.out⟩ HO.out HS2.out hpos (by omega) (by omega) hM).mono ?_
        rintro e w2 ⟨k, i, qs', a', b', c', st', rfl, hbest, hR', hO', hS', hl'⟩
        have hi := pairRk_in (bestOf_rk hbest)
        have hml := mergeAt_len hi (toOf V.mer k)
        have hE2 : encRun V.mer (mergeAt l i (toOf V.mer k)).length (mergeAt l i (toOf V.mer k)) = encL V.mer s := by
          rw [hml, ← encRun_step hbest, show l.length - 1 + 1 = l.length by omega]
          exact HE.out
        have HR' := Lib.hid hR'
        have HO' := Lib.hid hO'
        have HS' := Lib.hid hS'
        have HE2 := Lib.hid hE2
        have HML := Lib.hid hml
        clear hR' hO' hS' hE2 hml hbest g4
        go_wp2_with fail
        go_roundg (l.length - 1)
        case measure => omega
        case rel => exact ⟨_, qs', a', b', c', st', HML.out.symm, HE2.out, HR'.out, HO'.out, HS'.out, by rw [HML.out]; omega⟩
end Go.Proofs.Ytimbimnbaoaboaa
