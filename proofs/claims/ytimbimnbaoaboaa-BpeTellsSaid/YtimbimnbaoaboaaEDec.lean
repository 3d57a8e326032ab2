/- The program's walk over tokens. The program's Decode, Starts. -/
import Derived.Test.YtimbimnbaoaboaaEEnc
import Derived.Test.YtimbimnbaoaboaaKTok
import Derived.Test.YtimbimnbaoaboaaERef2
import Derived.Shelf.Abstract
namespace Go.Proofs.Ytimbimnbaoaboaa
open Go.RowKit Go.Maps Go.WideMaps Go.Shelf
set_option linter.unusedSimpArgs false

set_option maxHeartbeats 2000000 in
set_option maxRecDepth 100000 in
theorem walk1_any (W : World) (pb b : Nat) (A : Option Addr) (N ca : Nat) (i : Int) (h1 : W.cell? ⟨pb, 0, none⟩ = some (at0 b)) (h2 : W.cell? ⟨b, 0, none⟩ = some (.slice A N ca)) :
    Calls Try.prog 43 (#[.int .i64 i] ++ #[.pointer (some ⟨pb, 0, none⟩)]) W fun e w' => e = .returned (.bool (decide (i < 0 ∨ (N : Int) ≤ i))) ∧ w' = W := by
  unfold at0 at h1
  by_cases hn : i < 0
  · have hd : decide (i < 0) = true := decide_eq_true hn
    rw [show decide (i < 0 ∨ (N : Int) ≤ i) = true from decide_eq_true (.inl hn)]
    clear hn
    go_enter Try.func43, Try.ntmps43
    go_wp2
    go_ret
    exact ⟨rfl, rfl⟩
  · have hd : decide (i < 0) = false := decide_eq_false hn
    by_cases hN : (N : Int) ≤ i
    · rw [show decide (i < 0 ∨ (N : Int) ≤ i) = true from decide_eq_true (.inr hN)]
      go_enter Try.func43, Try.ntmps43
      go_wp2
      go_ret
      exact ⟨rfl, rfl⟩
    · rw [show decide (i < 0 ∨ (N : Int) ≤ i) = false from decide_eq_false (by omega)]
      go_enter Try.func43, Try.ntmps43
      go_wp2
      go_ret
      exact ⟨rfl, rfl⟩
def idxI (p : Int → Bool) (l : List Int) : Int := match l.findIdx? p with | some k => (k : Int) | none => -1
theorem idxI_some {p : Int → Bool} {l : List Int} {k : Nat} {x : Int} (hx : l[k]? = some x) (hp : p x = true) (hn : ∀ (j : Nat) (y : Int), j < k → l[j]? = some y → p y = false) : idxI p l = k := by
  have h : l.findIdx? p = some k := by
    rw [List.findIdx?_eq_some_iff_getElem]
    have hk := (List.getElem?_eq_some_iff.1 hx)
    exact ⟨hk.1, by rw [hk.2]; exact hp, fun j hj => by simpa using hn j _ hj (List.getElem?_eq_getElem (Nat.lt_trans hj hk.1))⟩
  unfold idxI
  rw [h]
theorem idxI_none {p : Int → Bool} {l : List Int} (hn : ∀ (j : Nat) (y : Int), l[j]? = some y → p y = false) : idxI p l = -1 := by
  have h : l.findIdx? p = none := by
    rw [List.findIdx?_eq_none_iff]
    intro x hx
    obtain ⟨j, hj⟩ := List.mem_iff_getElem?.1 hx
    exact hn j x hj
  unfold idxI
  rw [h]
theorem idxI_any (p : Int → Bool) (l : List Int) : decide (0 ≤ idxI p l) = l.any p := by
  unfold idxI
  cases h : l.findIdx? p with
  | none =>
    rw [List.findIdx?_eq_none_iff] at h
    rw [show l.any p = false by rw [List.any_eq_false]; intro x hx; simp [h x hx]]
    decide
  | some k =>
    rw [List.findIdx?_eq_some_iff_getElem] at h
    obtain ⟨h1, h2, _⟩ := h
    rw [show l.any p = true by rw [List.any_eq_true]; exact ⟨_, List.getElem_mem h1, h2⟩]
    exact decide_eq_true (Int.natCast_nonneg k)
set_option maxHeartbeats 2000000 in
set_option maxRecDepth 100000 in
theorem idxFunc_any (f : Nat) (cap : Array Value) (eg : ∀ args w, (callFunc f args).run Try.prog w = .ok (.enter f args) w) (w : World) (A : Option Addr) (n c : Nat) (l : List Int) (hl : IntsIn w A n l) (p : Int → Bool)
    (hcl : ∀ x, Calls Try.prog f (#[.int .i64 x] ++ cap) w fun e w' => e = .returned (.bool (p x)) ∧ w' = w) :
    Calls Try.prog 55 #[.slice A n c, .func (.func f) #[] cap] w fun e w' => e = .returned (.int .i64 (idxI p l)) ∧ w' = w := by
  have hn63 : n ≤ 9223372036854775807 := hl.1
  have HL := Lib.hid hl
  have HCL := Lib.hid hcl
  have HLN := Lib.hid hl.len
  obtain ⟨R, hR⟩ : ∃ R, R = idxI p l := ⟨_, rfl⟩
  rw [← hR]
  have HR := Lib.hid hR
  clear hl hcl hR
  go_enter Try.func55, Try.ntmps55
  go_wp2_with fail
  go_loop [8] (fun i => ∃ k : Nat, k ≤ n ∧ i = .int .i64 k ∧ ∀ (j : Nat) (y : Int), j < k → l[j]? = some y → p y = false) (fun i => n - (intOf i).toNat)
  case atStart => exact ⟨0, Nat.zero_le _, rfl, fun j y h => by omega⟩
  case round =>
    obtain ⟨k, hk, rfl, hq⟩ := hrel
    have HQ := Lib.hid hq
    clear hq
    rcases Nat.lt_or_ge k n with hlt | hge
    · obtain ⟨ad, x, rfl, hx, xc, f1, f2⟩ := HL.out.at k hlt
      have HX := Lib.hid hx
      have hkn : (k : Int) < (n : Int) := by omega
      have hk0 : (0 : Int) ≤ (k : Int) := by omega
      clear hx
      cases hp : p x with
      | true =>
        have h := HCL.out x
        rw [hp] at h
        have HP := Lib.hid h
        have HPE := Lib.hid hp
        clear h hp
        go_wp2_with fail
        refine HP.out.mono ?_
        rintro e w' ⟨rfl, rfl⟩
        go_wp2_with fail
        go_ret
        refine ⟨?_, rfl⟩
        rw [HR.out, idxI_some HX.out HPE.out HQ.out]
        rfl
      | false =>
        have h := HCL.out x
        rw [hp] at h
        have HP := Lib.hid h
        have HPE := Lib.hid hp
        clear h hp
        go_wp2_with fail
        refine HP.out.mono ?_
        rintro e w' ⟨rfl, rfl⟩
        go_wp2_with fail
        go_round
        case rel => exact ⟨k + 1, by omega, by go_num, fun j y hj hy => by
          rcases Nat.lt_or_ge j k with h | h
          · exact HQ.out j y h hy
          · obtain rfl : j = k := by omega
            have h1 := HX.out
            rw [hy] at h1
            cases h1
            exact HPE.out⟩
        case measure => simp [intOf]; omega
    · obtain rfl : n = k := by omega
      go_wp2_with fail
      go_ret
      refine ⟨?_, rfl⟩
      rw [HR.out, idxI_none fun j y hy => HQ.out j y (by have := (List.getElem?_eq_some_iff.1 hy).1; rw [HLN.out] at this; exact this) hy]
      rfl
set_option maxHeartbeats 2000000 in
set_option maxRecDepth 100000 in
theorem contFunc_any (f : Nat) (cap : Array Value) (eg : ∀ args w, (callFunc f args).run Try.prog w = .ok (.enter f args) w) (w : World) (A : Option Addr) (n c : Nat) (l : List Int) (hl : IntsIn w A n l) (p : Int → Bool)
    (hcl : ∀ x, Calls Try.prog f (#[.int .i64 x] ++ cap) w fun e w' => e = .returned (.bool (p x)) ∧ w' = w) :
    Calls Try.prog 42 #[.slice A n c, .func (.func f) #[] cap] w fun e w' => e = .returned (.bool (l.any p)) ∧ w' = w := by
  have h := idxFunc_any f cap eg w A n c l hl p hcl
  have hd := idxI_any p l
  obtain ⟨I, hI⟩ : ∃ I, I = idxI p l := ⟨_, rfl⟩
  rw [← hI] at h hd
  rw [← hd]
  have H := Lib.hid h
  clear hl hcl h hd hI
  go_enter Try.func42, Try.ntmps42
  go_wp2_with fail
  refine H.out.mono ?_
  rintro e w' ⟨rfl, rfl⟩
  go_wp2_with fail
  go_ret
  refine ⟨?_, rfl⟩
  simp only [Ending.returned.injEq, Value.bool.injEq]
  first | rfl | (congr 1)
/-- All tokens' text. -/
def decT (L : List Nm) (l : List Int) : Nm := textUp L l l.length
def walkE (L : List Nm) (l : List Int) : Int := if ∀ i ∈ l, tokIn L i then (if 4096 < (decT L l).length then 2 else 0) else 1
/-- What walk leaves: it has handed on all tokens, or there is an error. -/
def WalkOut (L : List Nm) (l : List Int) (I : Nat → World → Prop) (e : Ending) (w' : World) : Prop :=
  e = .returned (.int .i64 (walkE L l)) ∧ ∃ k, I k w' ∧ (walkE L l = 0 → k = l.length)
set_option maxHeartbeats 4000000 in
set_option maxRecDepth 100000 in
theorem walk_any (f : Nat) (cap : Array Value) (eg : ∀ args w, (callFunc f args).run Try.prog w = .ok (.enter f args) w) (w0 w : World) (b : Nat) (V : Voc) (hC : Coder w0 b V) (hS : ∀ x ∈ V.tok, x.length ≤ 4096) (C : Option Addr) (p c : Nat) (l : List Int) (hl : IntsIn w0 C p l)
    (hb : Below w0.heap.size w0 w) (I : Nat → World → Prop) (hI0 : I 0 (w.alloc (.cells #[at0 b] 31))) (hIX : ∀ k u, I k u → Blk u w.heap.size 31 #[at0 b]) (hIB : ∀ k u, I k u → Below w0.heap.size w0 u)
    (hcl : ∀ (k i : Nat) (u : World) (A : Option Addr) (c : Nat) (x : Nm), I k u → l[k]? = some (i : Int) → V.tok[i]? = some x → BytesIn u A x.length x → x.length ≤ c → (textUp V.tok l k).length + x.length ≤ 4096 → Calls Try.prog f (#[.slice A x.length c, .int .i64 ((textUp V.tok l k).length : Nat)] ++ cap) u fun e u' => e = .returned (.tuple #[]) ∧ I (k + 1) u') :
    Calls Try.prog 26 #[at0 b, .slice C p c, .func (.func f) #[] cap] w (WalkOut V.tok l I) := by
  have hln := hl.len
  obtain ⟨A, B, ca, cb, bp, D, cs, hCC⟩ := hC
  have hk0 : ∀ u, Below w0.heap.size w0 u → u.cell? ⟨b, 0, none⟩ = some (.slice A V.tok.length ca) := fun u hb => by rw [(hCC.blk.below hb hCC.blk.lt).cell]; exact hCC.c0
  have hb1 : Below w.heap.size w (w.alloc (.cells #[at0 b] 31)) := (Below.refl _ w).alloc (Nat.le_refl _) _
  have hbox : (w.alloc (.cells #[at0 b] 31)).cell? ⟨w.heap.size, 0, none⟩ = some (at0 b) := by
    rw [(Blk.new w 31 #[at0 b]).cell 0]
    rfl
  have hb01 := below_then hb hb1 hb.size
  have hcont := contFunc_any 43 #[.pointer (some ⟨w.heap.size, 0, none⟩)] (enters_of Try.func43 (by kernel_rfl) rfl) (w.alloc (.cells #[at0 b] 31)) C p c l (hl.below hb01) (fun i => decide (i < 0 ∨ (V.tok.length : Int) ≤ i)) (fun x => walk1_any _ w.heap.size b A V.tok.length ca x hbox (hk0 _ hb01))
  have hany : (l.any fun i => decide (i < 0 ∨ (V.tok.length : Int) ≤ i)) = !decide (∀ i ∈ l, tokIn V.tok i) := by
    by_cases h : ∀ i ∈ l, tokIn V.tok i
    · rw [decide_eq_true h]
      rw [Bool.not_true, List.any_eq_false]
      intro i hi
      have := h i hi
      unfold tokIn at this
      simp
      omega
    · rw [decide_eq_false h, Bool.not_false, List.any_eq_true]
      simp only [Classical.not_forall] at h
      obtain ⟨i, hi, hn⟩ := h
      refine ⟨i, hi, decide_eq_true ?_⟩
      unfold tokIn at hn
      omega
  rw [hany] at hcont
  have hp63 : p ≤ 9223372036854775807 := hl.1
  have HL := Lib.hid hl
  have HLN := Lib.hid hln
  have HK0 := Lib.hid hk0
  have HTOK := Lib.hid hCC.tok
  have HS := Lib.hid hS
  have HI0 := Lib.hid hI0
  have HIX := Lib.hid hIX
  have HIB := Lib.hid hIB
  have HCL := Lib.hid hcl
  by_cases hall : ∀ i ∈ l, tokIn V.tok i
  · rw [decide_eq_true hall, Bool.not_true] at hcont
    have HALL := Lib.hid hall
    have HCONT := Lib.hid hcont
    have hw1 : walkE V.tok l = if 4096 < (decT V.tok l).length then 2 else 0 := by unfold walkE; rw [if_pos hall]
    have HW1 := Lib.hid hw1
    clear hl hln hk0 hCC hS hI0 hIX hIB hcl hcont hall hany hb1 hb01 hbox hw1 hb
    unfold at0 at HCONT ⊢
    go_enter Try.func26, Try.ntmps26
    go_wp2_with fail
    refine HCONT.out.mono ?_
    rintro e w1 ⟨rfl, rfl⟩
    go_wp2_with fail
    go_loopw [7, 16] (fun a i wr => ∃ k : Nat, k ≤ p ∧ i = .int .i64 (k : Nat) ∧ a = .int .i64 ((textUp V.tok l k).length : Nat) ∧ (textUp V.tok l k).length ≤ 4096 ∧ I k wr) (fun _ i _ => p - (intOf i).toNat)
    case atStart => exact ⟨0, Nat.zero_le _, rfl, rfl, Nat.zero_le _, HI0.out⟩
    case round =>
      obtain ⟨k, hk, rfl, rfl, htk, hI⟩ := hrel
      rcases Nat.lt_or_ge k p with hlt | hge
      · have hB := HIB.out _ _ hI
        obtain ⟨ad, xi, rfl, hx, xc, f1, f2⟩ := (HL.out.below hB).at k hlt
        have htin := HALL.out xi (List.mem_of_getElem? hx)
        obtain ⟨i, rfl⟩ : ∃ i : Nat, xi = (i : Int) := ⟨xi.toNat, by have := htin.1; omega⟩
        have hil : i < V.tok.length := by have := htin.2; omega
        have hxt : V.tok[i]? = some (V.tok[i]'hil) := List.getElem?_eq_getElem hil
        obtain ⟨x, hxe⟩ : ∃ x, x = V.tok[i]'hil := ⟨_, rfl⟩
        rw [← hxe] at hxt
        obtain ⟨adt, Bt, ct, e1, tc, hct, hbt⟩ := (HTOK.out.below hB).at_ i x hxt
        subst e1
        have hx4 := HS.out x (List.mem_of_getElem? hxt)
        have htx := textUp_yes hx hxt
        have hbx := (HIX.out _ _ hI).cell 0
        simp only [List.getElem?_toArray, List.getElem?_cons_zero] at hbx
        unfold at0 at hbx
        have hk0 := HK0.out _ hB
        have hkp : (k : Int) < (p : Int) := by omega
        have hkz : (0 : Int) ≤ (k : Int) := by omega
        have hiz : (0 : Int) ≤ (i : Int) := by omega
        have hiT : (i : Int) < (V.tok.length : Int) := by omega
        obtain ⟨a, ha⟩ : ∃ a, a = (textUp V.tok l k).length := ⟨_, rfl⟩
        rw [← ha] at htk
        have haz : (a : Int) ≤ 4096 := by omega
        have hxz : (x.length : Int) ≤ 4096 := by omega
        have HA := Lib.hid ha
        have HI := Lib.hid hI
        have HX := Lib.hid hx
        have HXT := Lib.hid hxt
        have HBT := Lib.hid hbt
        have HTX := Lib.hid htx
        rw [← ha]
        clear hB hx hxt hxe htx ha hI hbt htin
        by_cases hov : 4096 < a + x.length
        · have hov1 : (4096 : Int) - (a : Int) < (x.length : Int) := by omega
          have hfin : walkE V.tok l = 2 := by
            rw [HW1.out, if_pos]
            have h1 := textUp_mono V.tok l (a := k + 1) (b := l.length) (by rw [HLN.out]; omega)
            rw [HTX.out, List.length_append, ← HA.out] at h1
            unfold decT
            omega
          have HF := Lib.hid hfin
          clear hfin
          go_wp2_with fail
          go_ret
          rw [WalkOut, HF.out]
          exact ⟨rfl, k, HI.out, fun h => by omega⟩
        · have hov1 : ¬ (4096 : Int) - (a : Int) < (x.length : Int) := by omega
          have hcal := HCL.out k i wr Bt ct x HI.out HX.out HXT.out HBT.out hct (by rw [← HA.out]; omega)
          rw [← HA.out] at hcal
          have HCAL := Lib.hid hcal
          clear hcal
          go_wp2_with fail
          refine HCAL.out.mono ?_
          rintro e w2 ⟨rfl, hI2⟩
          have HI2 := Lib.hid hI2
          clear hI2 hbx hk0 xc tc
          go_wp2_with fail
          go_roundw
          case rel => exact ⟨k + 1, by omega, by go_num, by rw [HTX.out, List.length_append, ← HA.out]; go_num, by rw [HTX.out, List.length_append, ← HA.out]; omega, HI2.out⟩
          case measure => simp [intOf]; omega
      · obtain rfl : p = k := by omega
        have hfin : walkE V.tok l = 0 := by
          rw [HW1.out, if_neg]
          unfold decT
          rw [HLN.out]
          omega
        have HF := Lib.hid hfin
        have HI := Lib.hid hI
        clear hfin hI
        go_wp2_with fail
        go_ret
        rw [WalkOut, HF.out]
        exact ⟨rfl, p, HI.out, fun _ => HLN.out.symm⟩
  · rw [decide_eq_false hall, Bool.not_false] at hcont
    have HCONT := Lib.hid hcont
    have hw1 : walkE V.tok l = 1 := by unfold walkE; rw [if_neg hall]
    have HW1 := Lib.hid hw1
    clear hl hln hk0 hCC hS hI0 hIX hIB hcl hcont hall hany hb1 hb01 hbox hw1 hb
    unfold at0 at HCONT ⊢
    go_enter Try.func26, Try.ntmps26
    go_wp2_with fail
    refine HCONT.out.mono ?_
    rintro e w1 ⟨rfl, rfl⟩
    go_wp2_with fail
    go_ret
    rw [WalkOut, HW1.out]
    exact ⟨rfl, 0, HI0.out, fun h => by omega⟩
end Go.Proofs.Ytimbimnbaoaboaa
namespace Go.Proofs.Ytimbimnbaoaboaa
open Go.RowKit Go.Maps Go.WideMaps Go.Shelf
set_option linter.unusedSimpArgs false

/-- The variable in which the text is gathered, and the box beside it. -/
def TextAt (w0 : World) (b : Nat) (L : List Nm) (l : List Int) (k : Nat) (u : World) : Prop :=
  Below w0.heap.size w0 u ∧ Blk u (w0.heap.size + 1) 31 #[at0 b] ∧ ∃ v, Blk u w0.heap.size 23 #[v] ∧ u.ownsRow (w0.heap.size + 2) 5 1 v (textUp L l k).length ((textUp L l k).map byteV)
set_option maxHeartbeats 2000000 in
set_option maxRecDepth 100000 in
theorem decode1_any (w0 u : World) (b : Nat) (L : List Nm) (l : List Int) (k i : Nat) (A : Option Addr) (c : Nat) (x : Nm) (hI : TextAt w0 b L l k u) (hl : l[k]? = some (i : Int)) (hx : L[i]? = some x) (hb : BytesIn u A x.length x) (hle : (textUp L l k).length + x.length ≤ 4096) (y : Int) :
    Calls Try.prog 27 (#[.slice A x.length c, .int .i64 y] ++ #[at0 w0.heap.size]) u fun e u' => e = .returned (.tuple #[]) ∧ TextAt w0 b L l (k + 1) u' := by
  obtain ⟨i0, hi, hz0, hz1, hz2⟩ := info_parts byteInfo
  obtain ⟨h1, h2, v, h3, h4⟩ := hI
  obtain ⟨Av, cv, rfl⟩ := own_slice h4
  have htx := textUp_yes hl hx
  obtain ⟨T, hT⟩ : ∃ T, T = textUp L l k := ⟨_, rfl⟩
  rw [← hT] at h3 h4 hle htx
  have c0 := h3.cell 0
  simp only [List.getElem?_toArray, List.getElem?_cons_zero] at c0
  have HB := Lib.hid hb
  have H1 := Lib.hid h1
  have H2 := Lib.hid h2
  have H3 := Lib.hid h3
  have H4 := Lib.hid h4
  have HTX := Lib.hid htx
  have h1s : w0.heap.size + 2 ≤ u.heap.size := h2.lt
  clear h1 h2 h3 h4 hb htx hT hl hx
  unfold at0
  go_enter Try.func27, Try.ntmps27
  go_wp2_with (at_builtin; clear c0; refine wpList_append_src _ rfl (.tmp 5) (.tmp 6) 23 rfl (w0.heap.size + 2) 5 i0 (.int .u8 0) 1 Try.underlying23 hi hz0 hz1 hz2 rfl _ T.length (T.map byteV) rfl H4.out A x.length c (x.map byteV) rfl HB.out.2.1 (u8_one x) (by unfold maxLen; omega) (by omega) h1s ?_; intro v3 w3 hown hgrow hloc; obtain ⟨A3, c3, hv3⟩ := own_slice hown; subst hv3; have B3 := H3.out.grown hgrow (fun e => own_blk_ne H4.out H3.out (by decide) e.symm); have e3 : w3.cell? ⟨w0.heap.size, 0, none⟩ = some (.slice Av T.length cv) := (by rw [B3.cell 0]; rfl); have z3 := B3.frozen 0; have HO := Lib.hid hown; have HG := Lib.hid hgrow; have HB3 := Lib.hid B3; clear hown hgrow hloc B3)
  go_end0
  refine ⟨rfl, ?_, ?_, .slice A3 (T.length + x.length) c3, ?_, ?_⟩
  · exact (H1.out.grown HG.out H1.out.size (fun k e => by have := (H4.out.lt k e).1; omega)).setCell (Nat.le_refl _) _
  · exact (H2.out.grown HG.out (fun e => own_blk_ne H4.out H2.out (by decide) e.symm)).far (by simp) _
  · have := HB3.out.set_ 0 (.slice A3 (T.length + x.length) c3)
    simpa using this
  · rw [HTX.out, List.length_append, List.map_append]
    exact ownsRow_block HO.out fun g e => heap_setCell_other _ _ _ fun e2 => own_blk_ne HO.out HB3.out (by decide) (by rw [e, e2])

def startsUp (L : List Nm) (l : List Int) (k : Nat) : List Int := (List.range k).map fun j => ((textUp L l j).length : Int)
theorem startsUp_succ (L : List Nm) (l : List Int) (k : Nat) : startsUp L l (k + 1) = startsUp L l k ++ [((textUp L l k).length : Int)] := by unfold startsUp; rw [List.range_succ, List.map_append]; rfl
theorem startsUp_len (L : List Nm) (l : List Int) (k : Nat) : (startsUp L l k).length = k := by simp [startsUp]
def StartsAt (w0 : World) (b : Nat) (L : List Nm) (l : List Int) (k : Nat) (u : World) : Prop :=
  Below w0.heap.size w0 u ∧ Blk u (w0.heap.size + 1) 31 #[at0 b] ∧ ∃ v, Blk u w0.heap.size 24 #[v] ∧ u.ownsRow (w0.heap.size + 2) 3 1 v k ((startsUp L l k).map i64V)
set_option maxHeartbeats 2000000 in
set_option maxRecDepth 100000 in
theorem starts1_any (w0 u : World) (b : Nat) (L : List Nm) (l : List Int) (k : Nat) (sv : Value) (hI : StartsAt w0 b L l k u) (hk : k ≤ 1099511627776) :
    Calls Try.prog 28 (#[sv, .int .i64 ((textUp L l k).length : Nat)] ++ #[at0 w0.heap.size]) u fun e u' => e = .returned (.tuple #[]) ∧ StartsAt w0 b L l (k + 1) u' := by
  obtain ⟨i0, hi, hz0, hz1, hz2⟩ := info_parts intInfo1
  obtain ⟨h1, h2, v, h3, h4⟩ := hI
  obtain ⟨Av, cv, rfl⟩ := own_slice h4
  have htx := startsUp_succ L l k
  obtain ⟨a, ha⟩ : ∃ a, a = (textUp L l k).length := ⟨_, rfl⟩
  rw [← ha] at htx ⊢
  have c0 := h3.cell 0
  simp only [List.getElem?_toArray, List.getElem?_cons_zero] at c0
  have hba : Below u.heap.size u (u.alloc (.cells #[.int .i64 (a : Nat)] 3)) := (Below.refl _ u).alloc (Nat.le_refl _) _
  have H1 := Lib.hid (below_then h1 hba h1.size)
  have H2 := Lib.hid (h2.below hba h2.lt)
  have H3 := Lib.hid (h3.below hba h3.lt)
  have H4 := Lib.hid (h4.alloc (.cells #[.int .i64 (a : Nat)] 3))
  have HTX := Lib.hid htx
  have h1s : w0.heap.size + 2 ≤ u.heap.size := h2.lt
  clear h1 h2 h3 h4 htx ha hba
  unfold at0
  go_enter Try.func28, Try.ntmps28
  go_wp2_with (at_builtin; clear c0; refine wpList_append_own_at _ rfl _ _ 24 rfl (w0.heap.size + 2) 3 i0 (.int .i64 0) 1 8 Try.underlying24 hi hz0 hz1 hz2 rfl (by decide) _ k _ rfl H4.out ⟨u.heap.size, 0, none⟩ 1 1 [.int .i64 (a : Nat)] rfl rfl one_cell_at (by simp [Value.oneCell']) (by unfold maxLen; omega) (by omega) (by simp; omega) ?_; intro v3 w3 hown hgrow hnil hloc; clear hnil; obtain ⟨A3, c3, hv3⟩ := own_slice hown; subst hv3; have B3 := H3.out.grown hgrow (fun e => own_blk_ne H4.out H3.out (by decide) e.symm); have e3 : w3.cell? ⟨w0.heap.size, 0, none⟩ = some (.slice Av k cv) := (by rw [B3.cell 0]; rfl); have z3 := B3.frozen 0; have HO := Lib.hid hown; have HG := Lib.hid hgrow; have HB3 := Lib.hid B3; clear hown hgrow hloc B3)
  go_end0
  refine ⟨rfl, ?_, ?_, .slice A3 (k + 1) c3, ?_, ?_⟩
  · exact (H1.out.grown HG.out H1.out.size (fun k e => by have := (H4.out.lt k e).1; omega)).setCell (Nat.le_refl _) _
  · exact (H2.out.grown HG.out (fun e => own_blk_ne H4.out H2.out (by decide) e.symm)).far (by simp) _
  · have := HB3.out.set_ 0 (.slice A3 (k + 1) c3)
    simpa using this
  · rw [HTX.out, ← map_snoc]
    exact ownsRow_block HO.out fun g e => heap_setCell_other _ _ _ fun e2 => own_blk_ne HO.out HB3.out (by decide) (by rw [e, e2])

def decR (L : List Nm) (l : List Int) : Nm := if walkE L l = 0 then decT L l else []
def startsR (L : List Nm) (l : List Int) : List Int := if walkE L l = 0 then startsUp L l l.length else []
def BytesOut (w : World) (s : Nm) (r : Int) (e : Ending) (w' : World) : Prop :=
  ∃ v, e = .returned (.tuple #[v, .int .i64 r]) ∧ w'.ownsRow w.heap.size 5 1 v s.length (s.map byteV) ∧ Below w.heap.size w w'
theorem walkE_fits (L : List Nm) (l : List Int) : 0 ≤ walkE L l ∧ walkE L l ≤ 2 := by unfold walkE; split <;> (try split) <;> omega
set_option maxHeartbeats 2000000 in
set_option maxRecDepth 100000 in
theorem decode_any (w : World) (b : Nat) (V : Voc) (hC : Coder w b V) (hS : ∀ x ∈ V.tok, x.length ≤ 4096) (C : Option Addr) (p c : Nat) (l : List Int) (hl : IntsIn w C p l) :
    Calls Try.prog 14 #[at0 b, .slice C p c] w (BytesOut w (decR V.tok l) (walkE V.tok l)) := by
  have hb1 : Below w.heap.size w (w.alloc (.cells #[.slice none 0 0] 23)) := (Below.refl _ w).alloc (Nat.le_refl _) _
  have hI0 : TextAt w b V.tok l 0 ((w.alloc (.cells #[.slice none 0 0] 23)).alloc (.cells #[at0 b] 31)) := by
    refine ⟨hb1.alloc (by simp) _, ?_, .slice none 0 0, (Blk.new w _ _).alloc _, World.ownsRow_nil _ _ _ _⟩
    have := Blk.new (w.alloc (.cells #[.slice none 0 0] 23)) 31 #[at0 b]
    simpa using this
  have hw := walk_any 27 #[at0 w.heap.size] (enters_of Try.func27 (by kernel_rfl) rfl) w (w.alloc (.cells #[.slice none 0 0] 23)) b V hC hS C p c l hl hb1 (TextAt w b V.tok l) hI0 (fun k u h => by have := h.2.1; simpa using this) (fun k u h => h.1) (fun k i u A c x h1 h2 h3 h4 _ h6 => decode1_any w u b V.tok l k i A c x h1 h2 h3 h4 h6 _)
  have hf := walkE_fits V.tok l
  obtain ⟨R, hR⟩ : ∃ R, R = decR V.tok l := ⟨_, rfl⟩
  rw [← hR]
  unfold decR at hR
  obtain ⟨E, hE⟩ : ∃ E, E = walkE V.tok l := ⟨_, rfl⟩
  unfold WalkOut at hw
  rw [← hE] at hw hf hR ⊢
  have HRR := Lib.hid hR
  have HW := Lib.hid hw
  clear hR hC hS hl hb1 hI0 hw hE
  unfold at0 at HW ⊢
  go_enter Try.func14, Try.ntmps14
  go_wp2_with fail
  refine HW.out.mono ?_
  rintro e w2 ⟨rfl, k, ⟨h1, h2, v, h3, h4⟩, hk⟩
  obtain ⟨Av, cv, rfl⟩ := own_slice h4
  have c0 := h3.cell 0
  simp only [List.getElem?_toArray, List.getElem?_cons_zero] at c0
  have H1 := Lib.hid h1
  have H4 := Lib.hid h4
  have HK := Lib.hid hk
  clear h1 h2 h3 h4 hk
  by_cases he : E = 0
  · obtain rfl : 0 = E := he.symm
    obtain rfl : k = l.length := HK.out rfl
    clear he
    go_wp2_with fail
    go_ret2
    refine ⟨_, rfl, ?_, H1.out⟩
    rw [HRR.out, if_pos trivial]
    exact own_le H4.out (by omega)
  · have d1 : (E != 0) = true := by simpa using he
    have HE := Lib.hid he
    clear he
    go_wp2_with fail
    go_ret2
    refine ⟨_, rfl, ?_, H1.out⟩
    rw [HRR.out, if_neg HE.out]
    exact World.ownsRow_nil _ _ _ _
set_option maxHeartbeats 2000000 in
set_option maxRecDepth 100000 in
theorem starts_any (w : World) (b : Nat) (V : Voc) (hC : Coder w b V) (hS : ∀ x ∈ V.tok, x.length ≤ 4096) (C : Option Addr) (p c : Nat) (l : List Int) (hl : IntsIn w C p l) (hp : p ≤ 1099511627776) :
    Calls Try.prog 16 #[at0 b, .slice C p c] w (ListOut w (startsR V.tok l) (walkE V.tok l)) := by
  have hb1 : Below w.heap.size w (w.alloc (.cells #[.slice none 0 0] 24)) := (Below.refl _ w).alloc (Nat.le_refl _) _
  have hI0 : StartsAt w b V.tok l 0 ((w.alloc (.cells #[.slice none 0 0] 24)).alloc (.cells #[at0 b] 31)) := by
    refine ⟨hb1.alloc (by simp) _, ?_, .slice none 0 0, (Blk.new w _ _).alloc _, World.ownsRow_nil _ _ _ _⟩
    have := Blk.new (w.alloc (.cells #[.slice none 0 0] 24)) 31 #[at0 b]
    simpa using this
  have hw := walk_any 28 #[at0 w.heap.size] (enters_of Try.func28 (by kernel_rfl) rfl) w (w.alloc (.cells #[.slice none 0 0] 24)) b V hC hS C p c l hl hb1 (StartsAt w b V.tok l) hI0 (fun k u h => by have := h.2.1; simpa using this) (fun k u h => h.1) (fun k i u A c x h1 h2 _ _ _ _ => starts1_any w u b V.tok l k _ h1 (by have h5 := (List.getElem?_eq_some_iff.1 h2).1; have h6 := hl.len; omega))
  have hf := walkE_fits V.tok l
  obtain ⟨R, hR⟩ : ∃ R, R = startsR V.tok l := ⟨_, rfl⟩
  rw [← hR]
  unfold startsR at hR
  obtain ⟨E, hE⟩ : ∃ E, E = walkE V.tok l := ⟨_, rfl⟩
  unfold WalkOut at hw
  rw [← hE] at hw hf hR ⊢
  have HRR := Lib.hid hR
  have HW := Lib.hid hw
  clear hR hC hS hl hb1 hI0 hw hE
  unfold at0 at HW ⊢
  go_enter Try.func16, Try.ntmps16
  go_wp2_with fail
  refine HW.out.mono ?_
  rintro e w2 ⟨rfl, k, ⟨h1, h2, v, h3, h4⟩, hk⟩
  obtain ⟨Av, cv, rfl⟩ := own_slice h4
  have c0 := h3.cell 0
  simp only [List.getElem?_toArray, List.getElem?_cons_zero] at c0
  have H1 := Lib.hid h1
  have H4 := Lib.hid h4
  have HK := Lib.hid hk
  clear h1 h2 h3 h4 hk
  by_cases he : E = 0
  · obtain rfl : 0 = E := he.symm
    obtain rfl : k = l.length := HK.out rfl
    clear he
    go_wp2_with fail
    go_ret2
    refine ⟨_, rfl, ?_, H1.out⟩
    rw [HRR.out, if_pos trivial, startsUp_len]
    exact own_le H4.out (by omega)
  · have d1 : (E != 0) = true := by simpa using he
    have HE := Lib.hid he
    clear he
    go_wp2_with fail
    go_ret2
    refine ⟨_, rfl, ?_, H1.out⟩
    rw [HRR.out, if_neg HE.out]
    exact World.ownsRow_nil _ _ _ _
end Go.Proofs.Ytimbimnbaoaboaa
