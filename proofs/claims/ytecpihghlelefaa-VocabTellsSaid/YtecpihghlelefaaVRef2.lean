/- The contract of the document's Check. -/
import Derived.Test.YtecpihghlelefaaVRef1
import Derived.Deep.RegionHeld3
import Derived.Deep.RegionLaw
namespace Go.Proofs.Ytecpihghlelefaa
open Go.RowKit Go.Maps Go.WideMaps

/-- A vocabulary by value. -/
def vocV (A B : Option Addr) (n m ca cb : Nat) : Value := .agg #[.slice A n ca, .slice B m cb]
structure VocSee (w : World) (A B : Option Addr) (n m ca cb : Nat) (V : Voc) : Prop where
  tok : RowsSee w A n V.tok
  mer : MgSee w B m V.mer
  capT : n ≤ ca
  capM : m ≤ cb
theorem VocSee.below {w w' : World} {A B : Option Addr} {n m ca cb : Nat} {V : Voc} (h : VocSee w A B n m ca cb V) (hb : Below w.heap.size w w') : VocSee w' A B n m ca cb V := ⟨h.tok.below hb, h.mer.below hb, h.capT, h.capM⟩
theorem cat_list (a b : Nm) : ((⟨a.toArray⟩ : ByteArray) ++ ⟨b.toArray⟩).toList = a ++ b := by
  rw [ByteArray.mk_append_mk]
  simp
theorem tok_short {L : List Nm} {k : Nat} {x : Nm} (h : tokOk L k = true) (hx : L[k]? = some x) : x.length ≤ 16 := by
  unfold tokOk at h
  rw [List.getD_eq_getElem?_getD, hx] at h
  simp only [Option.getD_some, Bool.and_eq_true, decide_eq_true_eq] at h
  exact h.2.1
theorem quiet_plus {P : Program} {f : FuncId} {args : Array Value} {w : World} {q n : Nat} {v : Value} (h : Calls P f args (w.drewN (q + n)) fun e w' => e = .returned v ∧ w' = w.drewN (q + n)) : Calls P f args (w.drewN (q + n)) fun e w'' => e = .returned v ∧ ∃ m, w'' = w.drewN (q + m) :=
  h.mono fun _ _ ⟨he, hm⟩ => ⟨he, n, hm⟩
theorem all_range_false {f : Nat → Bool} {n k : Nat} (hk : k < n) (h : f k = false) : (List.range n).all f = false := by
  rw [List.all_eq_false]
  exact ⟨k, List.mem_range.2 hk, by simp [h]⟩
theorem all_range_true {f : Nat → Bool} {n : Nat} (h : ∀ k, k < n → f k = true) : (List.range n).all f = true := by
  rw [List.all_eq_true]
  intro k hk
  exact h k (List.mem_range.1 hk)

set_option maxHeartbeats 4000000 in
set_option maxRecDepth 100000 in
theorem r5Check_any (w : World) (A B : Option Addr) (n m ca cb : Nat) (V : Voc) (hV : VocSee w A B n m ca cb V) :
    Calls Try.prog 19 #[vocV A B n m ca cb] w fun e w' => e = .returned (.int .i64 (checkV V)) ∧ Below w.heap.size w w' := by
  obtain ⟨R, hR⟩ : ∃ R, R = checkV V := ⟨_, rfl⟩
  rw [← hR]
  unfold checkV at hR
  have HV := Lib.hid hV
  have hn := hV.tok.len
  have hm := hV.mer.len
  have hn63 : n ≤ 9223372036854775807 := hV.tok.fit
  have hm63 : m ≤ 9223372036854775807 := hV.mer.fit
  rw [hn, hm] at hR
  have HN := Lib.hid hn
  have HM := Lib.hid hm
  clear hV hn hm
  unfold vocV
  by_cases hbig : 512 < n ∨ 512 < m
  · rw [if_pos hbig] at hR
    have HR := Lib.hid hR
    clear hR
    by_cases h1 : 512 < n
    · have d1 : decide ((512 : Int) < (n : Int)) = true := by simp; omega
      go_enter Try.func19, Try.ntmps19
      go_wp2
      go_ret
      exact ⟨by rw [HR.out]; rfl, (Below.refl _ w).alloc (Nat.le_refl _) _⟩
    · have d1 : decide ((512 : Int) < (n : Int)) = false := by simp; omega
      have h2 : 512 < m := by omega
      have d2 : decide ((512 : Int) < (m : Int)) = true := by simp; omega
      go_enter Try.func19, Try.ntmps19
      go_wp2
      go_ret
      exact ⟨by rw [HR.out]; rfl, (Below.refl _ w).alloc (Nat.le_refl _) _⟩
  rw [if_neg hbig] at hR
  have hn512 : n ≤ 512 := by omega
  have hm512 : m ≤ 512 := by omega
  have d1 : decide ((512 : Int) < (n : Int)) = false := by simp; omega
  have d2 : decide ((512 : Int) < (m : Int)) = false := by simp; omega
  have HR := Lib.hid hR
  clear hR hbig
  have hbl : Blk (w.alloc (.cells #[.slice A n ca, .slice B m cb] 33)) w.heap.size 33 #[.slice A n ca, .slice B m cb] := Blk.new _ _ _
  have HBL := Lib.hid hbl
  have hV0 := HV.out.below ((Below.refl _ w).alloc (Nat.le_refl _) (.cells #[.slice A n ca, .slice B m cb] 33))
  have HV0 := Lib.hid hV0
  clear hbl hV0
  go_enter Try.func19, Try.ntmps19
  go_wp2
  obtain ⟨W, hW⟩ : ∃ W, W = w.alloc (.cells #[.slice A n ca, .slice B m cb] 33) := ⟨_, rfl⟩
  rw [← hW] at HBL HV0 ⊢
  have HBW : Hid (Below w.heap.size w W) := Lib.hid (by rw [hW]; exact (Below.refl _ w).alloc (Nat.le_refl _) _)
  clear hW
  go_loopw [3] (fun i wr => ∃ k q : Nat, k ≤ n ∧ i = .int .i64 k ∧ wr = W.drewN q ∧ ∀ j, j < k → tokOk V.tok j = true) (fun i _ => n - (intOf i).toNat)
  case atStart => exact ⟨0, 0, by omega, rfl, rfl, fun j h => by omega⟩
  case round =>
    obtain ⟨k, q, hk, rfl, rfl, hok⟩ := hrel
    have HOK := Lib.hid hok
    clear hok
    have e0 : ∀ q, (W.drewN q).cell? ⟨w.heap.size, 0, none⟩ = some (.slice A n ca) := fun _ => HBL.out.cell 0
    rcases Nat.lt_or_ge k n with hlt | hge
    · have hlt' : (k : Int) < (n : Int) := by omega
      have p0 : (0 : Int) ≤ (k : Int) := by omega
      obtain ⟨x, hx⟩ : ∃ x, V.tok[k]? = some x := ⟨_, List.getElem?_eq_getElem (by rw [HN.out]; exact hlt)⟩
      obtain ⟨pa, Ax, cx, rfl, ea, _, ex⟩ := HV0.out.tok.at_ k x hx
      have ea' : ∀ q, (W.drewN q).cell? (pa.add k) = some (.slice Ax x.length cx) := fun _ => ea
      have cv := fun q => str_of (ex.drewN q) cx
      have hgd : V.tok.getD k [] = x := by rw [List.getD_eq_getElem?_getD, hx]; rfl
      have HX := Lib.hid hx
      have HGD := Lib.hid hgd
      clear hx ex hgd ea
      by_cases hb : tokOk V.tok k = true
      · have hb1 := hb
        unfold tokOk at hb1
        rw [HGD.out] at hb1
        simp only [Bool.and_eq_true, decide_eq_true_eq] at hb1
        obtain ⟨b1, b2, b3⟩ := hb1
        have f1 : decide ((x.length : Int) < 1) = false := decide_eq_false (by omega)
        have f2 : decide ((16 : Int) < (x.length : Int)) = false := decide_eq_false (by omega)
        have HB3 := Lib.hid b3
        have HB := Lib.hid hb
        clear b3 hb
        go_wp2_with fail
        go_quiet (first | (go_at_call 24; refine quiet_plus (r5find_is _ (some pa) n ca V.tok x (HV0.out.tok.drewN _) HB3.out)))
        go_wp2
        exact ⟨⟨k + 1, q + nq, by omega, by go_num, rfl, fun j hj => by
          rcases Nat.lt_or_ge j k with h | h
          · exact HOK.out j h
          · obtain rfl : j = k := by omega
            exact HB.out⟩, by simp [intOf]; omega⟩
      · have hfin : R = 52 := by rw [HR.out, if_pos (by rw [all_range_false hlt (by simpa using hb)]; simp)]
        have HF := Lib.hid hfin
        unfold tokOk at hb
        rw [HGD.out] at hb
        clear hfin
        by_cases b1 : x.length < 1
        · have f1 : decide ((x.length : Int) < 1) = true := decide_eq_true (by omega)
          clear hb b1
          go_wp2_with fail
          go_quiet (fail)
          go_wp2
          go_ret
          exact ⟨by rw [HF.out]; rfl, below_drewN (below_drewN HBW.out _) _⟩
        have f1 : decide ((x.length : Int) < 1) = false := decide_eq_false (by omega)
        by_cases b2 : 16 < x.length
        · have f2 : decide ((16 : Int) < (x.length : Int)) = true := decide_eq_true (by omega)
          clear hb b1 b2
          go_wp2_with fail
          go_quiet (fail)
          go_wp2
          go_ret
          exact ⟨by rw [HF.out]; rfl, below_drewN (below_drewN HBW.out _) _⟩
        have f2 : decide ((16 : Int) < (x.length : Int)) = false := decide_eq_false (by omega)
        have b3 : ¬ findT V.tok x = (k : Int) := fun e => hb (by
          rw [decide_eq_true (show 1 ≤ x.length by omega), decide_eq_true (show x.length ≤ 16 by omega), decide_eq_true e]
          rfl)
        obtain ⟨F, hF⟩ : ∃ F, findT V.tok x = F := ⟨_, rfl⟩
        rw [hF] at b3
        have f3 : (F != (k : Int)) = true := by simpa using b3
        have HFF := Lib.hid hF
        clear hb b1 b2 b3 hF
        go_wp2_with fail
        go_quiet (first | (go_at_call 24; refine quiet_plus (r5find_is _ (some pa) n ca V.tok x (HV0.out.tok.drewN _) HFF.out)))
        go_wp2
        go_ret
        exact ⟨by rw [HF.out]; rfl, below_drewN (below_drewN HBW.out _) _⟩
    · obtain rfl : k = n := by omega
      have hlz : ¬ ((k : Int) < (k : Int)) := by omega
      have e0' : (W.drewN q).cell? ⟨w.heap.size, 0, none⟩ = some (.slice A k ca) := e0 q
      have hall : (List.range k).all (tokOk V.tok) = true := all_range_true HOK.out
      have HALL := Lib.hid hall
      clear hall
      go_wp2
      obtain ⟨W2, hW2⟩ : ∃ W2, W2 = W.drewN q := ⟨_, rfl⟩
      rw [← hW2]
      have HB2 : Hid (Below W.heap.size W W2) := Lib.hid (by rw [hW2]; exact below_drewN (Below.refl _ _) _)
      clear hW2 e0 e0'
      go_loopw [4] (fun i wr => ∃ j : Nat, j ≤ 256 ∧ i = .int .i64 j ∧ Below W.heap.size W wr ∧ ∀ c, c < j → 0 ≤ findT V.tok [UInt8.ofNat c]) (fun i _ => 256 - (intOf i).toNat)
      case atStart => exact ⟨0, by omega, rfl, HB2.out, fun c h => by omega⟩
      case round =>
        clear HB2
        obtain ⟨j, hj, rfl, hB, hok⟩ := hrel
        have HB := Lib.hid hB
        have HOK2 := Lib.hid hok
        have e0 : wr.cell? ⟨w.heap.size, 0, none⟩ = some (.slice A k ca) := (HBL.out.below hB HBL.out.lt).cell 0
        clear hB hok
        rcases Nat.lt_or_ge j 256 with hlt | hge
        · have hlt' : (j : Int) < 256 := by omega
          obtain ⟨x, rfl⟩ : ∃ x : UInt8, j = x.toNat := ⟨UInt8.ofNat j, by rw [UInt8.toNat_ofNat_of_lt' (by show _ < 256; omega)]⟩
          have hxx : UInt8.ofNat x.toNat = x := by simp
          obtain ⟨F, hF⟩ : ∃ F, findT V.tok [x] = F := ⟨_, rfl⟩
          have HXX := Lib.hid hxx
          have HFF := Lib.hid hF
          have hin := const_in wr [x] (0, 0) (by unfold maxLen; simp)
          have cv : (convert 23 9 (.slice (some ⟨wr.heap.size, 0, none⟩) 1 1)).run Try.prog (wr.alloc (.cells #[.int .u8 x.toNat] 5)) = .ok (.string ⟨#[x]⟩) (wr.alloc (.cells #[.int .u8 x.toNat] 5)) := str_of hin 1
          have hV1 := HV0.out.tok.below (HB.out.alloc HB.out.size (.cells #[.int .u8 x.toNat] 5))
          have HV1 := Lib.hid hV1
          have HB1 := Lib.hid (HB.out.alloc HB.out.size (.cells #[.int .u8 x.toNat] 5))
          clear hF hin hV1 hxx
          go_wp2_with fail
          refine (r5find_is _ A k ca V.tok [x] HV1.out HFF.out).mono ?_
          rintro e2 w2 ⟨rfl, hw⟩
          rw [hw]
          clear hw
          by_cases hneg : F < 0
          · have hfin : R = 51 := by
              rw [HR.out, if_neg (by rw [HALL.out]; simp), if_pos]
              rw [all_range_false (k := x.toNat) hlt]
              · simp
              · rw [HXX.out, HFF.out]
                simpa using hneg
            have HF := Lib.hid hfin
            clear hfin
            go_wp2
            go_ret
            exact ⟨by rw [HF.out]; rfl, below_then HBW.out HB1.out HBW.out.size⟩
          · go_wp2
            go_roundw
            case rel =>
              refine ⟨x.toNat + 1, by omega, by go_num, HB1.out, fun c hc => ?_⟩
              rcases Nat.lt_or_ge c x.toNat with h | h
              · exact HOK2.out c h
              · obtain rfl : c = x.toNat := by omega
                rw [HXX.out, HFF.out]
                omega
            case measure => simp [intOf]; omega
        · obtain rfl : j = 256 := by omega
          have hjz : ¬ (((256 : Nat) : Int) < 256) := by omega
          have hall : (List.range 256).all (fun c => decide (0 ≤ findT V.tok [UInt8.ofNat c])) = true := all_range_true fun c hc => decide_eq_true (HOK2.out c hc)
          have HALL2 := Lib.hid hall
          have hres : R = if ¬ (List.range m).all (merOk V) = true then 53 else 0 := by
            rw [HR.out, if_neg (by rw [HALL.out]; simp), if_neg (by rw [HALL2.out]; simp)]
          have HRES := Lib.hid hres
          clear hall hres
          have e1 : wr.cell? ⟨w.heap.size, 1, none⟩ = some (.slice B m cb) := (HBL.out.below HB.out HBL.out.lt).cell 1
          go_wp2
          clear e0 e1
          go_loopw [6] (fun i wr => ∃ i' : Nat, i' ≤ m ∧ i = .int .i64 i' ∧ Below W.heap.size W wr ∧ ∀ c, c < i' → merOk V c = true) (fun i _ => m - (intOf i).toNat)
          case atStart => exact ⟨0, by omega, rfl, HB.out, fun c h => by omega⟩
          case round =>
            clear HB
            obtain ⟨i, hi, rfl, hB, hok⟩ := hrel
            have HB := Lib.hid hB
            have HOK3 := Lib.hid hok
            have e1 : wr.cell? ⟨w.heap.size, 1, none⟩ = some (.slice B m cb) := (HBL.out.below hB HBL.out.lt).cell 1
            have hBW := below_then HBW.out hB HBW.out.size
            have HBW2 := Lib.hid hBW
            clear hB hok hBW
            rcases Nat.lt_or_ge i m with hlt | hge
            · have hlt' : (i : Int) < (m : Int) := by omega
              have p0 : (0 : Int) ≤ (i : Int) := by omega
              obtain ⟨mg, hmg⟩ : ∃ mg, V.mer[i]? = some mg := ⟨_, List.getElem?_eq_getElem (by rw [HM.out]; exact hlt)⟩
              obtain ⟨pb, rfl, ea, eb, et⟩ := (HV0.out.mer.below HB.out).at_ i mg hmg
              obtain ⟨⟨ba1, ba2⟩, ⟨bb1, bb2⟩, ⟨bt1, bt2⟩⟩ := HV0.out.mer.bound mg (List.mem_of_getElem? hmg)
              have hgd : V.mer.getD i ⟨-1, -1, -1⟩ = mg := by rw [List.getD_eq_getElem?_getD, hmg]; rfl
              have HMG := Lib.hid hmg
              have HGD := Lib.hid hgd
              have hsl : ∀ w, (Instr.slice 31 (.slice (some pb) m cb) none (some (.int .i64 i)) none).run Try.prog w = .ok (.slice (some pb) i cb) w := fun w => mslice_to w (some pb) m cb i (Nat.le_trans (Nat.le_of_lt hlt) HV0.out.capM)
              clear hmg hgd
              obtain ⟨ma, mb, mt⟩ := mg
              simp only at ea eb et ba1 ba2 bb1 bb2 bt1 bt2
              go_wp2_with fail
              obtain ⟨W3, hW3⟩ : ∃ W3, W3 = wr.alloc (.cells #[.int .i64 ma, .int .i64 mb, .int .i64 mt] 25) := ⟨_, rfl⟩
              rw [← hW3]
              have hB3 : Below wr.heap.size wr W3 := by rw [hW3]; exact (Below.refl _ wr).alloc (Nat.le_refl _) _
              have hblk : Blk W3 wr.heap.size 25 #[.int .i64 ma, .int .i64 mb, .int .i64 mt] := by rw [hW3]; exact Blk.new _ _ _
              have BW3 := Lib.hid (below_then HBW2.out hB3 HBW2.out.size)
              have BWW := Lib.hid (below_then HB.out hB3 HB.out.size)
              have t0 : ∀ q, (W3.drewN q).cell? ⟨wr.heap.size, 0, none⟩ = some (.int .i64 ma) := fun _ => hblk.cell 0
              have t1 : ∀ q, (W3.drewN q).cell? ⟨wr.heap.size, 1, none⟩ = some (.int .i64 mb) := fun _ => hblk.cell 1
              have t2 : ∀ q, (W3.drewN q).cell? ⟨wr.heap.size, 2, none⟩ = some (.int .i64 mt) := fun _ => hblk.cell 2
              have v0 : ∀ q, (W3.drewN q).cell? ⟨w.heap.size, 0, none⟩ = some (.slice A k ca) := fun _ => (HBL.out.below BWW.out HBL.out.lt).cell 0
              have v1 : ∀ q, (W3.drewN q).cell? ⟨w.heap.size, 1, none⟩ = some (.slice (some pb) m cb) := fun _ => (HBL.out.below BWW.out HBL.out.lt).cell 1
              have HV3 := Lib.hid (HV0.out.below BWW.out)
              have hbadR : merOk V i = false → R = 53 := fun h => by rw [HRES.out, if_pos (by rw [all_range_false hlt h]; simp)]
              have HBAD := Lib.hid hbadR
              have hmok : merOk V i = (decide (0 ≤ ma ∧ ma < k ∧ 0 ≤ mb ∧ mb < k ∧ 0 ≤ mt ∧ mt < k) && (!(mergedB (V.mer.take i) ma mb) && decide (V.tok.getD mt.toNat [] = V.tok.getD ma.toNat [] ++ V.tok.getD mb.toNat []))) := by
                unfold merOk
                rw [HGD.out, HN.out]
              have HMOK := Lib.hid hmok
              clear hW3 hB3 hblk hbadR hmok ea eb et e1
              by_cases q0 : ma < 0
              · have g0 : decide (ma < 0) = true := by simpa using q0
                have hfin : R = 53 := HBAD.out (by rw [HMOK.out, decide_eq_false (by omega)]; rfl)
                have HF := Lib.hid hfin
                clear hfin
                go_quiet (fail)
                go_wp2
                go_ret
                exact ⟨by rw [HF.out]; rfl, below_drewN BW3.out _⟩
              have g0 : decide (ma < 0) = false := by simpa using q0
              by_cases q1 : (k : Int) ≤ ma
              · have g1 : decide ((k : Int) ≤ ma) = true := by simpa using q1
                have hfin : R = 53 := HBAD.out (by rw [HMOK.out, decide_eq_false (by omega)]; rfl)
                have HF := Lib.hid hfin
                clear hfin
                go_quiet (fail)
                go_wp2
                go_ret
                exact ⟨by rw [HF.out]; rfl, below_drewN BW3.out _⟩
              have g1 : decide ((k : Int) ≤ ma) = false := by simpa using q1
              by_cases q2 : mb < 0
              · have g2 : decide (mb < 0) = true := by simpa using q2
                have hfin : R = 53 := HBAD.out (by rw [HMOK.out, decide_eq_false (by omega)]; rfl)
                have HF := Lib.hid hfin
                clear hfin
                go_quiet (fail)
                go_wp2
                go_ret
                exact ⟨by rw [HF.out]; rfl, below_drewN BW3.out _⟩
              have g2 : decide (mb < 0) = false := by simpa using q2
              by_cases q3 : (k : Int) ≤ mb
              · have g3 : decide ((k : Int) ≤ mb) = true := by simpa using q3
                have hfin : R = 53 := HBAD.out (by rw [HMOK.out, decide_eq_false (by omega)]; rfl)
                have HF := Lib.hid hfin
                clear hfin
                go_quiet (fail)
                go_wp2
                go_ret
                exact ⟨by rw [HF.out]; rfl, below_drewN BW3.out _⟩
              have g3 : decide ((k : Int) ≤ mb) = false := by simpa using q3
              by_cases q4 : mt < 0
              · have g4 : decide (mt < 0) = true := by simpa using q4
                have hfin : R = 53 := HBAD.out (by rw [HMOK.out, decide_eq_false (by omega)]; rfl)
                have HF := Lib.hid hfin
                clear hfin
                go_quiet (fail)
                go_wp2
                go_ret
                exact ⟨by rw [HF.out]; rfl, below_drewN BW3.out _⟩
              have g4 : decide (mt < 0) = false := by simpa using q4
              by_cases q5 : (k : Int) ≤ mt
              · have g5 : decide ((k : Int) ≤ mt) = true := by simpa using q5
                have hfin : R = 53 := HBAD.out (by rw [HMOK.out, decide_eq_false (by omega)]; rfl)
                have HF := Lib.hid hfin
                clear hfin
                go_quiet (fail)
                go_wp2
                go_ret
                exact ⟨by rw [HF.out]; rfl, below_drewN BW3.out _⟩
              have g5 : decide ((k : Int) ≤ mt) = false := by simpa using q5
              have hmd := decide_eq_true (show 0 ≤ ma ∧ ma < (k : Int) ∧ 0 ≤ mb ∧ mb < (k : Int) ∧ 0 ≤ mt ∧ mt < (k : Int) by omega)
              have hmok2 := HMOK.out
              rw [hmd, Bool.true_and] at hmok2
              have HMOK2 := Lib.hid hmok2
              clear hmd hmok2
              cases hmer : mergedB (V.mer.take i) ma mb with
              | true =>
                have hfin : R = 53 := HBAD.out (by rw [HMOK2.out, hmer]; rfl)
                have HF := Lib.hid hfin
                have HMER := Lib.hid hmer
                clear hfin hmer
                go_quiet (first | (go_at_call 23; refine Calls.quiet_of_same (r5merged_is _ (some pb) i cb (V.mer.take i) ((HV3.out.mer.upto i (Nat.le_of_lt hlt)).drewN _) ma mb HMER.out)))
                go_wp2
                go_ret
                exact ⟨by rw [HF.out]; rfl, below_drewN BW3.out _⟩
              | false =>
                have HMER := Lib.hid hmer
                clear hmer
                go_quiet (first | (go_at_call 23; refine Calls.quiet_of_same (r5merged_is _ (some pb) i cb (V.mer.take i) ((HV3.out.mer.upto i (Nat.le_of_lt hlt)).drewN _) ma mb HMER.out)))
                go_wp2_with fail
                obtain ⟨a', rfl⟩ : ∃ a' : Nat, ma = a' := ⟨ma.toNat, by omega⟩
                obtain ⟨b', rfl⟩ : ∃ b' : Nat, mb = b' := ⟨mb.toNat, by omega⟩
                obtain ⟨t', rfl⟩ : ∃ t' : Nat, mt = t' := ⟨mt.toNat, by omega⟩
                have r1 : a' < k := by omega
                have r2 : b' < k := by omega
                have r3 : t' < k := by omega
                have r1z : (a' : Int) < (k : Int) := by omega
                have r2z : (b' : Int) < (k : Int) := by omega
                have r3z : (t' : Int) < (k : Int) := by omega
                obtain ⟨xa, hxa⟩ : ∃ x, V.tok[a']? = some x := ⟨_, List.getElem?_eq_getElem (by rw [HN.out]; exact r1)⟩
                obtain ⟨xb, hxb⟩ : ∃ x, V.tok[b']? = some x := ⟨_, List.getElem?_eq_getElem (by rw [HN.out]; exact r2)⟩
                obtain ⟨xt, hxt⟩ : ∃ x, V.tok[t']? = some x := ⟨_, List.getElem?_eq_getElem (by rw [HN.out]; exact r3)⟩
                obtain ⟨pa, Aa, ca', hpa, wa, _, ia⟩ := HV3.out.tok.at_ a' xa hxa
                subst hpa
                obtain ⟨_, Ab, cb', hpa, wb, _, ib⟩ := HV3.out.tok.at_ b' xb hxb
                cases hpa
                obtain ⟨_, At, ct', hpa, wt, _, it⟩ := HV3.out.tok.at_ t' xt hxt
                cases hpa
                have wa' : ∀ q, (W3.drewN q).cell? (pa.add a') = some (.slice Aa xa.length ca') := fun _ => wa
                have wb' : ∀ q, (W3.drewN q).cell? (pa.add b') = some (.slice Ab xb.length cb') := fun _ => wb
                have wt' : ∀ q, (W3.drewN q).cell? (pa.add t') = some (.slice At xt.length ct') := fun _ => wt
                have cva := fun q => str_of (ia.drewN q) ca'
                have cvb := fun q => str_of (ib.drewN q) cb'
                have cvt := fun q => str_of (it.drewN q) ct'
                have hm2 := HMOK2.out
                rw [HMER.out] at hm2
                simp only [Int.toNat_natCast, List.getD_eq_getElem?_getD, hxa, hxb, hxt, Option.getD_some, Bool.not_false, Bool.true_and] at hm2
                have HM2 := Lib.hid hm2
                have la : xa.length ≤ 16 := tok_short (HOK.out a' r1) hxa
                have lb : xb.length ≤ 16 := tok_short (HOK.out b' r2) hxb
                have laz : (xa.length : Int) ≤ 8388608 := by omega
                have lbz : (xb.length : Int) ≤ 8388608 := by omega
                have lab : xa.length + xb.length ≤ 9223372036854775807 := by omega
                have labn : ¬ (9223372036854775807 < xa.length + xb.length) := by omega
                have HXA := Lib.hid hxa
                have HXB := Lib.hid hxb
                have HXT := Lib.hid hxt
                clear hm2 hxa hxb hxt wa wb wt ia ib it
                have ecat := cat_list xa xb
                by_cases hcat : xt = xa ++ xb
                · have c1 : (xt == ((⟨xa.toArray⟩ : ByteArray) ++ ⟨xb.toArray⟩).toList) = true := by rw [ecat]; simpa using hcat
                  have hmk : merOk V i = true := by rw [HM2.out]; simpa using hcat
                  have HMK := Lib.hid hmk
                  clear hcat hmk ecat
                  go_quiet (fail)
                  go_wp2
                  exact ⟨⟨i + 1, by omega, by go_num, below_drewN BWW.out _, fun c hc => by
                    rcases Nat.lt_or_ge c i with h | h
                    · exact HOK3.out c h
                    · obtain rfl : c = i := by omega
                      exact HMK.out⟩, by simp [intOf]; omega⟩
                · have c1 : (xt == ((⟨xa.toArray⟩ : ByteArray) ++ ⟨xb.toArray⟩).toList) = false := by rw [ecat]; simpa using hcat
                  have hfin : R = 53 := HBAD.out (by rw [HM2.out]; simpa using hcat)
                  have HF := Lib.hid hfin
                  clear hcat hfin ecat
                  go_quiet (fail)
                  go_wp2
                  go_ret
                  exact ⟨by rw [HF.out]; rfl, below_drewN (below_drewN BW3.out _) _⟩
            · obtain rfl : i = m := by omega
              have hiz : ¬ ((i : Int) < (i : Int)) := by omega
              have hfin : R = 0 := by rw [HRES.out, if_neg (by rw [all_range_true HOK3.out]; simp)]
              have HF := Lib.hid hfin
              clear hfin
              go_wp2
              go_ret
              exact ⟨by rw [HF.out]; rfl, HBW2.out⟩
end Go.Proofs.Ytecpihghlelefaa
