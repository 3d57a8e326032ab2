/- The landed cover's iterator: what makes it, and what it hands out. -/
import Derived.Test.YtjnbilcanfhkjaaOSeq
import Derived.Test.YtjnbilcanfhkjaaORange
import Derived.Test.YtjnbilcanfhkjaaTSuffix
import Derived.Test.YtjnbilcanfhkjaaTInfix
import Derived.Sort.CutIn
namespace Go.Proofs.Ytjnbilcanfhkjaa
open Go.RowKit Go.Maps Go.WideMaps Go.Shelf

attribute [local go_sem] Oper.semAt_some

theorem aligns_make (w : World) (b : Nat) (B : Option Addr) (m cb : Nat) : Calls Try.prog 32 #[.pointer (some ⟨b, 0, none⟩), .slice B m cb] w fun e w' => e = .returned (.func (.func 41) #[] #[.pointer (some ⟨w.heap.size, 0, none⟩), .pointer (some ⟨w.heap.size + 1, 0, none⟩)]) ∧ w' = (w.alloc (.cells #[.pointer (some ⟨b, 0, none⟩)] 29)).alloc (.cells #[.slice B m cb] 23) := by
  go_enter Try.func32, Try.ntmps32
  go_wp2
  go_ret
  exact ⟨rfl, rfl⟩

/-- What the iterator reads. -/
def AlRd (w0 : World) (b : Nat) (B : Option Addr) (m cb b1 b2 : Nat) (V : World) : Prop := Below w0.heap.size w0 V ∧ V.cell? ⟨b1, 0, none⟩ = some (.pointer (some ⟨b, 0, none⟩)) ∧ V.cell? ⟨b2, 0, none⟩ = some (.slice B m cb)
/-- So many aligns are handed out, and a list of the iterator's own lies there. -/
def HoldG (J : Nat → (Nat → Prop) → World → Prop) (cnt : Nat) (A : Option Addr) (n : Nat) (l : List Int) (V : World) : Prop := ∃ G, J cnt G V ∧ IntsIn V A n l ∧ ∀ ad, A = some ad → 0 < n → ¬ G ad.block
theorem IntsIn.kept {G : Nat → Prop} {w w' : World} {A : Option Addr} {n : Nat} {l : List Int} (h : IntsIn w A n l) (hk : Kept G w w') (hn : ∀ ad, A = some ad → 0 < n → ¬ G ad.block) : IntsIn w' A n l :=
  ⟨h.1, h.2.1.keep fun ad e h0 => hk.block _ (h.2.2.2 ad e h0) (hn ad e h0), h.2.2.1, fun ad e h0 => Nat.lt_of_lt_of_le (h.2.2.2 ad e h0) hk.size⟩
def encA (ps : List (Int × Int)) (k : Nat) : Array Value := #[.agg #[.int .i64 (ps.getD k (0, 0)).1, .int .i64 (ps.getD k (0, 0)).2]]
theorem encA_at {ps : List (Int × Int)} {k : Nat} {t j : Int} (h : ps[k]? = some (t, j)) : encA ps k = #[.agg #[.int .i64 t, .int .i64 j]] := by
  unfold encA
  rw [List.getD_eq_getElem?_getD, h]
  rfl

set_option maxRecDepth 100000 in
set_option maxHeartbeats 8000000 in
theorem aligns_seq {w0 : World} {b : Nat} {L : List Nm} (hC : CovAt w0 b L) (hr : rightB L = true) (B : Option Addr) (m cb : Nat) (s : Nm) (hs : BytesIn w0 B m s) (hmc : m ≤ cb) (hm3 : m ≤ 30000) (b1 b2 : Nat) :
    SeqG Fence.wide Try.prog 41 #[.pointer (some ⟨b1, 0, none⟩), .pointer (some ⟨b2, 0, none⟩)] (encA (seqAll L s)) (seqAll L s).length (AlRd w0 b B m cb b1 b2) := by
  intro M l J G0 W hRd hG hY hm1 h0
  have hsl : s.length = m := by have := hs.2.1.len; simpa using this
  have HSL := Lib.hid hsl
  have HRI := Lib.hid hr
  have hBel : ∀ cnt A n l V V', HoldG J cnt A n l V → Below V.heap.size V V' → HoldG J cnt A n l V' := fun cnt A n l V V' ⟨G, q1, q2, q3⟩ hb => ⟨G, hG _ _ _ _ q1 hb, q2.below hb, q3⟩
  have hYld : ∀ cnt A n li V, HoldG J cnt A n li V → cnt < (seqAll L s).length → YieldAt Fence.wide (M - 1) Try.prog l (encA (seqAll L s) cnt) V fun e V' => e = .returned (.bool true) ∧ HoldG J (cnt + 1) A n li V' := fun cnt A n li V ⟨G, q1, q2, q3⟩ hc => by
    obtain ⟨fn, tmps, assign, body, hy, hR⟩ := hY cnt G V q1 hc
    refine ⟨fn, tmps, assign, body, hy, hR.mono ?_⟩
    rintro e V' ⟨rfl, G', g1, g2, g3⟩
    refine ⟨rfl, G', g1, q2.kept g2 q3, fun ad e h => fun hg => ?_⟩
    rcases g3 _ hg with h1 | h1
    · exact q3 ad e h h1
    · have := q2.2.2.2 ad e h
      omega
  have hRead : ∀ cnt A n li V, HoldG J cnt A n li V → AlRd w0 b B m cb b1 b2 V ∧ CovAt V b L ∧ BytesIn V B m s := fun cnt A n li V ⟨G, q1, _, _⟩ => by
    have h1 := (hRd _ _ _ q1).1
    exact ⟨h1, hC.below h1.1, hs.below h1.1⟩
  have HBEL := Lib.hid hBel
  have HYLD := Lib.hid hYld
  have HREAD := Lib.hid hRead
  have HR0 := Lib.hid (hRd _ _ _ h0).1
  have HG0 := Lib.hid (hRd _ _ _ h0).2
  have HGG := Lib.hid hG
  have HLTG := Lib.hid (fun k G V (h : J k G V) => (hRd k G V h).2)
  have HJ0 := Lib.hid h0
  have HC0 := Lib.hid (hC.below (hRd _ _ _ h0).1.1)
  have HS0 := Lib.hid (hs.below (hRd _ _ _ h0).1.1)
  clear hC hr hs hRd hG hY hBel hYld hRead h0 hsl
  have hmx : Try.prog.follows .mixedOrders = true := by kernel_rfl
  obtain ⟨Ac, cc, bt, hblk, _, _, htr⟩ := HC0.out
  have f1 : W.cell? ⟨b, 1, none⟩ = some (.pointer (some ⟨bt, 0, none⟩)) := by have := hblk.cell 1; simpa using this
  have g1 := HR0.out.2.1
  have g2 := HR0.out.2.2
  have HINF := Lib.hid (tInfix_any (w := W.drewN 1) (htr.below (below_drewN (Below.refl _ _) 1)) B m cb s (HS0.out.drewN 1) (by omega))
  clear hblk htr
  refine callsIn_of_wp Try.func41 rfl trivial ?_ rfl
  simp only [Try.ntmps41, List.size_toArray, List.length_cons, List.length_nil, Nat.reduceAdd, Nat.reduceSub, Array.replicate_succ, Array.replicate_zero, List.push_toArray, List.append_toArray, List.nil_append, List.cons_append]
  gi_wp2
  gi_cut [16, 17, 18] from 19 (fun v n i wc => ∃ A c, v = .slice A (infs L s).length c ∧ n = .int .i64 ((infs L s).length : Nat) ∧ i = .int .i64 0 ∧ HoldG J 0 A (infs L s).length (infs L s) wc)
  case first =>
    gi_region_with_o (first | (refine ⟨trivial, ?_⟩; gi_at_call 42; refine (callsIn_wide.2 HINF.out).mono ?_; rintro e w2 ⟨v, rfl, r1, r2⟩; obtain ⟨Ai, ci, rfl⟩ := own_slice r1))
    all_goals
      gi_wp2
      gi_meet
      refine ⟨Ai, ci, rfl, rfl, rfl, G0, HGG.out _ _ _ _ HJ0.out (below_then (below_drewN (Below.refl _ W) 1) r2 (Nat.le_refl _)), IntsIn.own r1 (Nat.le_trans (idxUp_len _ L L.length) (Nat.le_trans (right_len HRI.out) (by unfold maxLen; omega))) (fun x hx => ?_), fun ad e _ hg => ?_⟩
      · obtain ⟨k, h1, rfl⟩ := idx_lt hx
        have := right_len HRI.out
        omega
      · have h1 := (r1.lt ad.block (by rw [e]; rfl)).1
        have h2 := HG0.out _ hg
        have h3 : (W.drewN 1).heap.size = W.heap.size := rfl
        omega
  case rest =>
    clear f1 g1 g2
    obtain ⟨Ai, ci, rfl, rfl, rfl, hH0⟩ := hcut
    have HH0 := Lib.hid hH0
    obtain ⟨ni, hni⟩ : ∃ n, n = (infs L s).length := ⟨_, rfl⟩
    have hni512 : ni ≤ 512 := by rw [hni]; exact Nat.le_trans (idxUp_len _ L L.length) (right_len HRI.out)
    rw [← hni] at HH0 ⊢
    have HNI := Lib.hid hni
    clear hH0 hni HJ0 HG0 HR0 HS0 HC0 HINF
    gi_wp2
    gi_loopw [18] (fun i wr => ∃ k : Nat, k ≤ ni ∧ i = .int .i64 k ∧ HoldG J (outUp L s (infs L s) k).length Ai ni (infs L s) wr) (fun i _ => ni - (intOf i).toNat)
    case atStart => exact ⟨0, by omega, rfl, HH0.out⟩
    case round =>
      obtain ⟨k, hk, rfl, hH⟩ := hrel
      have HH := Lib.hid hH
      clear hH
      by_cases hlt : k < ni
      · have hlt' : (k : Int) < (ni : Int) := by omega
        have p0 : (0 : Int) ≤ (k : Int) := by omega
        have HIT := Lib.hid (HH.out.choose_spec.2.1)
        obtain ⟨pi_, t, rfl, hkt, ct, _, _⟩ := HIT.out.at k hlt
        obtain ⟨T, hT, rfl⟩ := idx_lt (List.mem_of_getElem? hkt)
        have hgd : (infs L s).getD k 0 = (T : Int) := by rw [List.getD_eq_getElem?_getD, hkt]; rfl
        have hrd := HREAD.out _ _ _ _ _ HH.out
        obtain ⟨Ac, cc, bt, hblk, hrows, _, _⟩ := hrd.2.1
        have f0 : wr.cell? ⟨b, 0, none⟩ = some (.slice Ac L.length cc) := by have := hblk.cell 0; simpa using this
        have g1 := hrd.1.2.1
        obtain ⟨x, hx⟩ : ∃ x, L[T]? = some x := ⟨_, List.getElem?_eq_getElem hT⟩
        obtain ⟨pa, Ax, cx, rfl, ea, ecx, ex⟩ := hrows.at_ T x hx
        have hT0 : (0 : Int) ≤ (T : Int) := by omega
        have hT1 : (T : Int) < (L.length : Int) := by omega
        have htok : tokI L (T : Int) = x := by
          unfold tokI
          rw [if_pos ⟨hT0, hT1⟩, Int.toNat_natCast, List.getD_eq_getElem?_getD, hx]
          rfl
        have hx16 : x.length ≤ 16 := right_16 HRI.out hx
        have HTOK := Lib.hid htok
        have HGD := Lib.hid hgd
        clear hkt hgd hrd hblk hrows hx ecx ex htok HIT
        have HT1 := Lib.hid hT1
        have HLT := Lib.hid hlt
        clear hlt
        gi_wp2
        clear f0 g1 ea ct
        gi_loopw [30] (fun i wv => ∃ j : Nat, j ≤ x.length ∧ i = .int .i64 j ∧ HoldG J (outUp L s (infs L s) k ++ inUp L s (T : Int) j).length (some pi_) ni (infs L s) wv) (fun i _ => x.length - (intOf i).toNat)
        case atStart => exact ⟨0, by omega, rfl, by simpa [inUp] using HH.out⟩
        case round =>
          obtain ⟨j, hj, rfl, hH2⟩ := hrel
          have HH2 := Lib.hid hH2
          clear hH2
          by_cases hjlt : j < x.length
          · have hjlt' : (j : Int) < (x.length : Int) := by omega
            have hw5 : IntKind.i64.wrap ((j : Int) + 1) = (j : Int) + 1 := IntWalk.i64_in _ (by omega)
            have hrd := HREAD.out _ _ _ _ _ HH2.out
            have g1 := hrd.1.2.1
            have g2 := hrd.1.2.2
            have hb0 : Below wr.heap.size wr (wr.alloc (.cells #[.int .i64 (T : Int), .int .i64 (j : Int)] 26)) := (Below.refl _ _).alloc (Nat.le_refl _) _
            have hsu := psure_any (hrd.2.1.below hb0) B m cb s (hrd.2.2.below hb0) (T : Int) (j : Int)
            have hH3 : ∀ w3, Below (wr.alloc (.cells #[.int .i64 (T : Int), .int .i64 (j : Int)] 26)).heap.size (wr.alloc (.cells #[.int .i64 (T : Int), .int .i64 (j : Int)] 26)) w3 → HoldG J (outUp L s (infs L s) k ++ inUp L s (T : Int) j).length (some pi_) ni (infs L s) w3 ∧ w3.cell? ⟨wr.heap.size, 0, none⟩ = some (.int .i64 (T : Int)) ∧ w3.cell? ⟨wr.heap.size, 1, none⟩ = some (.int .i64 (j : Int)) := fun w3 hb3 => by
              have hB := (Blk.new wr 26 #[.int .i64 (T : Int), .int .i64 (j : Int)]).below hb3 (by simp)
              exact ⟨HBEL.out _ _ _ _ _ _ HH2.out (below_then hb0 hb3 (by simp)), hB.cell 0, hB.cell 1⟩
            have HSU := Lib.hid hsu
            have HH3 := Lib.hid hH3
            clear hrd hsu hH3
            have hfS : Fence.wide.fn 18 := trivial
            have g1' : (wr.alloc (.cells #[.int .i64 (T : Int), .int .i64 (j : Int)] 26)).cell? ⟨b1, 0, none⟩ = some (.pointer (some ⟨b, 0, none⟩)) := below_cells hb0 g1
            have g2' : (wr.alloc (.cells #[.int .i64 (T : Int), .int .i64 (j : Int)] 26)).cell? ⟨b2, 0, none⟩ = some (.slice B m cb) := below_cells hb0 g2
            clear hb0
            cases hsb : sureB L s (T : Int) (j : Int) with
            | true =>
              rw [hsb] at HSU
              have hps : (seqAll L s)[(outUp L s (infs L s) k ++ inUp L s (T : Int) j).length]? = some ((T : Int), (j : Int)) ∧ (outUp L s (infs L s) k ++ inUp L s (T : Int) j).length < (seqAll L s).length := by
                have h1 := seq_in (L := L) (s := s) (k := k) (j := j) (by rw [← HNI.out]; exact HLT.out) (by rw [HGD.out, HTOK.out]; exact hjlt) (by rw [HGD.out]; exact hsb)
                rw [HGD.out] at h1
                exact ⟨(ahead_at h1).2, (ahead_at h1).1⟩
              have hin : (outUp L s (infs L s) k ++ inUp L s (T : Int) (j + 1)).length = (outUp L s (infs L s) k ++ inUp L s (T : Int) j).length + 1 := by
                simp only [inUp, List.length_append]
                rw [if_pos hsb, List.length_append]
                simp
                omega
              have HPS := Lib.hid hps
              have HIN := Lib.hid hin
              clear hps hin hsb
              gi_wp2_with (gi_at_call 18; refine (callsIn_wide.2 HSU.out).mono ?_; rintro e w3 ⟨rfl, hb3⟩; obtain ⟨h3, k0, k1⟩ := HH3.out w3 hb3; obtain ⟨fn, tmps, assign, body, hy, hR⟩ := HYLD.out _ _ _ _ w3 h3 HPS.out.2; rw [encA_at HPS.out.1] at hy; have HR := Lib.hid hR; clear hR h3 hb3)
              refine HR.out.mono ?_
              rintro e W4 ⟨rfl, hH4⟩
              rw [← HIN.out] at hH4
              have HH4 := Lib.hid hH4
              clear hH4 k0 k1 hy HR g1 g2 g1' g2'
              gi_wp2
              go_roundw
              case rel => exact ⟨j + 1, by omega, by go_num, HH4.out⟩
              case measure => simp [intOf]; omega
            | false =>
              rw [hsb] at HSU
              have hin : inUp L s (T : Int) (j + 1) = inUp L s (T : Int) j := by
                simp only [inUp]
                rw [hsb]
                simp
              have HIN := Lib.hid hin
              clear hin hsb
              gi_wp2_with (gi_at_call 18; refine (callsIn_wide.2 HSU.out).mono ?_; rintro e w3 ⟨rfl, hb3⟩; have H3 := Lib.hid (HH3.out w3 hb3).1; clear hb3)
              refine ⟨fun _ _ => trivial, ?_⟩
              gi_wp2
              go_roundw
              case rel => exact ⟨j + 1, by omega, by go_num, by rw [HIN.out]; exact H3.out⟩
              case measure => simp [intOf]; omega
          · obtain rfl : j = x.length := by omega
            have hlz : ¬ ((x.length : Int) < (x.length : Int)) := by omega
            have hw6 : IntKind.i64.wrap ((k : Int) + 1) = (k : Int) + 1 := IntWalk.i64_in _ (by omega)
            have hout : outUp L s (infs L s) (k + 1) = outUp L s (infs L s) k ++ inUp L s (T : Int) x.length := by
              show _ ++ _ = _
              rw [HGD.out, HTOK.out]
            have HOUT := Lib.hid hout
            have hkn : k + 1 ≤ ni := HLT.out
            clear hout hjlt
            gi_wp2
            go_roundw
            case rel => exact ⟨k + 1, hkn, by go_num, by rw [HOUT.out]; exact HH2.out⟩
            case measure => simp [intOf]; omega
      · obtain rfl : k = ni := by omega
        have hlz : ¬ ((k : Int) < (k : Int)) := by omega
        clear hlt
        obtain ⟨n0, hn0⟩ : ∃ n0 : Int, n0 = min ((m : Int) - 1) 16 := ⟨_, rfl⟩
        have hN0 : n0 ≤ 16 ∧ -1 ≤ n0 ∧ n0.toNat = cutN s := by
          unfold cutN
          rw [HSL.out, hn0]
          omega
        have hmin : ∀ w ty, (Builtin.min_ #[3, 3] ty #[.int .i64 ((m : Int) - 1), .int .i64 16]).run Try.prog w = .ok (.int .i64 n0) w := fun w ty => by
          rw [Lib.run_min_ints, ← hn0]
        have hws : IntKind.i64.wrap ((m : Int) - 1) = (m : Int) - 1 := IntWalk.i64_in _ (by omega)
        have g2 := (HREAD.out _ _ _ _ _ HH.out).1.2.2
        have HN0 := Lib.hid hN0
        clear hn0 hN0
        have hZ : HoldG J (outUp L s (infs L s) k ++ endUp L s (cutN s) 0).length none 0 [] wr := by
          obtain ⟨G, q1, _, _⟩ := HH.out
          exact ⟨G, by simpa [endUp] using q1, ⟨by unfold maxLen; omega, ⟨rfl, (fun ad e => by cases e), fun _ => rfl⟩, by simp, fun ad e => by cases e⟩, fun ad e => by cases e⟩
        have HZ := Lib.hid hZ
        clear hZ HH
        gi_wp2
        clear g2 hmin
        gi_loopw [8] (fun v wv => ∃ i : Nat, i ≤ cutN s ∧ v = .int .i64 (n0 - (i : Int)) ∧ HoldG J (outUp L s (infs L s) k ++ endUp L s (cutN s) i).length none 0 [] wv) (fun v _ => (intOf v).toNat)
        case atStart => exact ⟨0, by omega, by simp, HZ.out⟩
        case round =>
          obtain ⟨i, hi, rfl, hH2⟩ := hrel
          have HH2 := Lib.hid hH2
          clear hH2 HZ
          by_cases hpos : 0 < n0 - (i : Int)
          · obtain ⟨n, hn⟩ : ∃ n : Nat, n = cutN s - i := ⟨_, rfl⟩
            have hn2 : n0 - (i : Int) = (n : Int) := by have := HN0.out; omega
            rw [hn2]
            have hil : i < cutN s := by have := HN0.out; omega
            have hn16 : n ≤ 16 := by have := HN0.out; omega
            have hn0' : 0 < n := by omega
            have hcs : cutN s ≤ s.length - 1 := Nat.min_le_left _ _
            have hnm : n ≤ m := by have := HSL.out; omega
            have hp' : (0 : Int) < (n : Int) := by omega
            have hnc : n ≤ cb := by omega
            have hwn : IntKind.i64.wrap ((n : Int) - 1) = (n : Int) - 1 := IntWalk.i64_in _ (by omega)
            have hrd := HREAD.out _ _ _ _ _ HH2.out
            have g1 := hrd.1.2.1
            have g2 := hrd.1.2.2
            obtain ⟨Ac, cc, bt, hblk, _, _, htr⟩ := hrd.2.1
            have f1 : wr.cell? ⟨b, 1, none⟩ = some (.pointer (some ⟨bt, 0, none⟩)) := by have := hblk.cell 1; simpa using this
            have hsuf : Calls Try.prog 43 #[.pointer (some ⟨bt, 0, none⟩), .slice B n cb] (wr.drewN 1) (IdxOut (wr.drewN 1) (sufs L s n)) := tSuffix_any (w := wr.drewN 1) (htr.below (below_drewN (Below.refl _ _) 1)) B n cb (s.take n) ((hrd.2.2.upto n hnm).drewN 1) (by omega)
            have HSUF := Lib.hid hsuf
            have hslice := fun W => slice_to W B m cb n hnc
            have hsl512 : (sufs L s n).length ≤ 512 := Nat.le_trans (idxUp_len _ L L.length) (right_len HRI.out)
            have HIL := Lib.hid hil
            have HNS : Hid (n ≤ s.length) := Lib.hid (by have := HSL.out; omega)
            have HN := Lib.hid hn
            have HN2 := Lib.hid hn2
            clear hblk htr hrd hsuf hpos hil hcs hn hn2
            gi_wp2
            gi_cut [63, 64, 65] from 66 (fun v nn ii wc => ∃ A c, v = .slice A (sufs L s n).length c ∧ nn = .int .i64 ((sufs L s n).length : Nat) ∧ ii = .int .i64 0 ∧ HoldG J (outUp L s (infs L s) k ++ endUp L s (cutN s) i).length A (sufs L s n).length (sufs L s n) wc)
            case first =>
              gi_region_with_o (first | (refine ⟨trivial, ?_⟩; gi_at_call 43; refine (callsIn_wide.2 HSUF.out).mono ?_; rintro e w2 ⟨v, rfl, r1, r2⟩; obtain ⟨As, cs, rfl⟩ := own_slice r1))
              all_goals
                gi_wp2
                gi_meet
                obtain ⟨G, q1, _, _⟩ := HH2.out
                refine ⟨As, cs, rfl, rfl, rfl, G, HGG.out _ _ _ _ q1 (below_then (below_drewN (Below.refl _ wr) 1) r2 (Nat.le_refl _)), IntsIn.own r1 (Nat.le_trans hsl512 (by unfold maxLen; omega)) (fun x hx => ?_), fun ad e _ hg => ?_⟩
                · obtain ⟨k, h1, rfl⟩ := idx_lt hx
                  have := right_len HRI.out
                  omega
                · have h1 := (r1.lt ad.block (by rw [e]; rfl)).1
                  have h2 := HLTG.out _ _ _ q1 _ hg
                  have h3 : (wr.drewN 1).heap.size = wr.heap.size := rfl
                  omega
            case rest =>
              clear f1 g1 g2 hslice HSUF
              obtain ⟨As, cs, rfl, rfl, rfl, hH3⟩ := hcut
              obtain ⟨nq, hnq⟩ : ∃ q, q = (sufs L s n).length := ⟨_, rfl⟩
              rw [← hnq] at hH3 hsl512 ⊢
              have HH3 := Lib.hid hH3
              have HNQ := Lib.hid hnq
              clear hH3 hnq HH2
              gi_wp2
              gi_loopw [65] (fun v wv => ∃ q : Nat, q ≤ nq ∧ v = .int .i64 q ∧ HoldG J ((outUp L s (infs L s) k ++ (endUp L s (cutN s) i ++ ((sufs L s n).take q).map (endOf L n))).length) As nq (sufs L s n) wv) (fun v _ => nq - (intOf v).toNat)
              case atStart => exact ⟨0, by omega, rfl, by simpa using HH3.out⟩
              case round =>
                obtain ⟨q, hq, rfl, hH4⟩ := hrel
                have HH4 := Lib.hid hH4
                clear hH4 HH3
                by_cases hql : q < nq
                · have hql' : (q : Int) < (nq : Int) := by omega
                  have p0 : (0 : Int) ≤ (q : Int) := by omega
                  have HIT := Lib.hid (HH4.out.choose_spec.2.1)
                  obtain ⟨ps_, t, rfl, hqt, ct, _, _⟩ := HIT.out.at q hql
                  have hmem := List.mem_of_getElem? hqt
                  obtain ⟨T, hT, rfl⟩ := idx_lt hmem
                  have hnt : n ≤ (tokI L (T : Int)).length := by
                    obtain ⟨_, _, _, h, _⟩ := (sufs_iff HNS.out).1 hmem
                    exact h
                  have hgd : (sufs L s n).getD q 0 = (T : Int) := by rw [List.getD_eq_getElem?_getD, hqt]; rfl
                  have hrd := HREAD.out _ _ _ _ _ HH4.out
                  have g1 := hrd.1.2.1
                  have hz16 := right_tok HRI.out (T : Int)
                  have HSZ := Lib.hid (size_any hrd.2.1 (T : Int))
                  obtain ⟨z, hz⟩ : ∃ z : Nat, z = (tokI L (T : Int)).length := ⟨_, rfl⟩
                  rw [← hz] at HSZ hz16 hnt
                  have hwz : IntKind.i64.wrap ((z : Int) - (n : Int)) = (z : Int) - (n : Int) := IntWalk.i64_in _ (by omega)
                  have hwq : IntKind.i64.wrap ((q : Int) + 1) = (q : Int) + 1 := IntWalk.i64_in _ (by omega)
                  have heo : endOf L n (T : Int) = ((T : Int), (z : Int) - (n : Int)) := by unfold endOf; rw [← hz]
                  have hps := ahead_at (seq_end (L := L) (s := s) (i := i) (k := q) HIL.out (by rw [← HN.out, ← HNQ.out]; exact hql))
                  rw [← HN.out, hgd, heo, ← HNI.out] at hps
                  have hyl := HYLD.out _ _ _ _ wr HH4.out hps.1
                  have hcnt : (outUp L s (infs L s) k ++ (endUp L s (cutN s) i ++ ((sufs L s n).take (q + 1)).map (endOf L n))).length = (outUp L s (infs L s) k ++ (endUp L s (cutN s) i ++ ((sufs L s n).take q).map (endOf L n))).length + 1 := by
                    rw [List.take_add_one, hqt]
                    simp only [List.length_append, List.length_map, Option.toList, List.map_append, List.length_cons, List.length_nil]
                    omega
                  have HCNT := Lib.hid hcnt
                  obtain ⟨fn, tmps, assign, body, hy, hR⟩ := hyl
                  rw [encA_at hps.2] at hy
                  have HRR := Lib.hid hR
                  have hfZ : Fence.wide.fn 27 := trivial
                  clear hqt hmem hnt hgd hrd hz16 hz heo hps hcnt hR HIT
                  gi_wp2_with (gi_at_call 27; refine (callsIn_wide.2 HSZ.out).mono ?_; rintro e w3 ⟨rfl, rfl⟩)
                  refine HRR.out.mono ?_
                  rintro e W4 ⟨rfl, hH5⟩
                  rw [← HCNT.out] at hH5
                  have HH5 := Lib.hid hH5
                  clear hH5 hy HRR g1 ct
                  gi_wp2
                  go_roundw
                  case rel => exact ⟨q + 1, by omega, by go_num, HH5.out⟩
                  case measure => simp [intOf]; omega
                · obtain rfl : q = nq := by omega
                  have hlz2 : ¬ ((q : Int) < (q : Int)) := by omega
                  have hend : outUp L s (infs L s) k ++ endUp L s (cutN s) (i + 1) = outUp L s (infs L s) k ++ (endUp L s (cutN s) i ++ ((sufs L s n).take q).map (endOf L n)) := by
                    rw [List.take_of_length_le (by rw [← HNQ.out]; exact Nat.le_refl _), HN.out]
                    rfl
                  have hH6 : HoldG J (outUp L s (infs L s) k ++ endUp L s (cutN s) (i + 1)).length none 0 [] wr := by
                    obtain ⟨G, q1, _, _⟩ := HH4.out
                    exact ⟨G, by rw [hend]; exact q1, ⟨by unfold maxLen; omega, ⟨rfl, (fun ad e => by cases e), fun _ => rfl⟩, by simp, fun ad e => by cases e⟩, fun ad e => by cases e⟩
                  have HH6 := Lib.hid hH6
                  have HQL := Lib.hid hql
                  clear hend hH6 HH4 hql
                  gi_wp2
                  go_roundw
                  case rel => exact ⟨i + 1, HIL.out, by have := HN2.out; go_num, HH6.out⟩
                  case measure => have := HN2.out; simp [intOf]; omega
          · have hic : i = cutN s := by have := HN0.out; omega
            have hfin : ∃ G, J (seqAll L s).length G wr := by
              obtain ⟨G, q1, _, _⟩ := HH2.out
              rw [hic, HNI.out] at q1
              exact ⟨G, q1⟩
            have HFIN := Lib.hid hfin
            have hng : ¬ ((0 : Int) < n0 - (i : Int)) := hpos
            clear hic hfin hpos
            gi_wp2
            go_end0
            exact ⟨⟨_, rfl⟩, HFIN.out⟩
end Go.Proofs.Ytjnbilcanfhkjaa
