/- TrieTells. -/
import Derived.Test.YtjmpngghjbiajaaTOwn
import Derived.Test.YtjmpngghjbiajaaTLaws1
import Derived.Test.YtjmpngghjbiajaaTRef5
import Derived.Test.YtjmpngghjbiajaaERef1
namespace Go.Proofs.Ytjmpngghjbiajaa
open Go.RowKit Go.Maps Go.WideMaps
set_option linter.unusedSimpArgs false

/-- The document's search and the trie's answer alike. -/
theorem same_is {w : World} {A B : Option Addr} {n ca cb : Nat} {l : List Int} (ha : IntsIn w A n l) (hb : IntsIn w B n l) :
    Calls Try.prog 12 #[.slice A n ca, .slice B n cb] w fun e w' => e = .returned (.bool true) ∧ ∃ q, w' = w.drewN q := by
  have h := r6Same_any w A B n n ca cb l l ha hb
  rw [decide_eq_true rfl] at h
  exact h

set_option maxHeartbeats 8000000 in
set_option maxRecDepth 100000 in
theorem trieTells_any (W : World) (A : Option Addr) (n ca : Nat) (L : List Nm) (hl : RowsSz W A n L) (B : Option Addr) (m cb : Nat) (s : Nm) (hs : BytesSz W B m s) :
    Calls Try.prog 3 #[.slice A n ca, .slice B m cb] W fun e w' => e = .returned (.bool true) ∧ Below W.heap.size W w' := by
  obtain ⟨i0, hi, hz0, hz1, hz2⟩ := info_parts byteInfo
  obtain ⟨i1, hi1, hy0, hy1, hy2⟩ := info_parts rowInfo
  have hep := eqTrieNil
  have HL := Lib.hid hl
  have HS := Lib.hid hs
  have HLEN := Lib.hid hl.1.len
  clear hl hs
  go_enter Try.func3, Try.ntmps3
  go_wp2_with fail
  refine (trieHead_any _).mono ?_
  rintro e w1 ⟨rfl, hb1⟩
  have HB1 := Lib.hid hb1
  clear hb1
  have HG := Lib.hid (great_any w1 A B n m ca cb L (HL.out.1.below HB1.out) HL.out.2.1 HL.out.2.2 HS.out.2)
  go_wp2_with fail
  refine HG.out.mono ?_
  rintro e w2 ⟨r, rfl, rfl, hrr⟩
  cases r with
  | true =>
    clear hrr
    go_wp2
    go_ret
    exact ⟨rfl, HB1.out⟩
  | false =>
    obtain ⟨hm, hn, hsh⟩ := hrr rfl
    have HSH := Lib.hid hsh
    clear hrr hsh HG
    have HL2 := Lib.hid (HL.out.1.below HB1.out)
    go_wp2
    go_loopw [6, 7] (fun v i wr => ∃ k : Nat, k ≤ n ∧ i = .int .i64 k ∧ RowsO wr w2.heap.size v (L.take k) ∧ Below w2.heap.size w2 wr) (fun _ i _ => n - (intOf i).toNat)
    case atStart => exact ⟨0, by omega, rfl, by rw [List.take_zero]; exact RowsO.nil _ _, Below.refl _ _⟩
    case round =>
      obtain ⟨k, hk, rfl, hO, hB⟩ := hrel
      rcases Nat.lt_or_ge k n with hlt | hge
      · have hlt' : (k : Int) < (n : Int) := by omega
        have p0 : (0 : Int) ≤ (k : Int) := by omega
        obtain ⟨x, hx⟩ : ∃ x, L[k]? = some x := ⟨_, List.getElem?_eq_getElem (by rw [HLEN.out]; exact hlt)⟩
        obtain ⟨pa, Ax, cx, rfl, ea, ecx, ex⟩ := (HL2.out.below hB).at_ k x hx
        have hxs := HSH.out x (List.mem_of_getElem? hx)
        have htk : L.take (k + 1) = L.take k ++ [x] := by rw [List.take_add_one, hx]; rfl
        have htl : (L.take k).length = k := by rw [List.length_take, HLEN.out]; omega
        obtain ⟨svs, ho, h2⟩ := hO
        rw [htl] at ho
        obtain ⟨Av, cv, hv⟩ := own_slice ho
        subst hv
        have ea1 : (wr.alloc (.cells #[] 5)).cell? (pa.add k) = some (.slice Ax x.length cx) := below_cells ((Below.refl _ wr).alloc (Nat.le_refl _) _) ea
        have hw5 : IntKind.i64.wrap ((k : Int) + 1) = (k : Int) + 1 := IntWalk.i64_in _ (by omega)
        have HEX := Lib.hid (ex.below ((Below.refl _ wr).alloc (Nat.le_refl _) (.cells #[] 5)))
        have HOV := Lib.hid ho
        have H2 := Lib.hid h2
        have HB := Lib.hid hB
        have HTK := Lib.hid htk
        have HTL := Lib.hid htl
        clear hx ex ho h2 hB htk htl ea
        go_wp2_with (at_builtin; refine wpList_append_src _ rfl (.tmp 23) (.tmp 27) 23 rfl wr.heap.size 5 i0 (.int .u8 0) 1 Try.underlying23 hi hz0 hz1 hz2 rfl _ 0 [] rfl (World.ownsRow_made wr #[] 0 (Nat.le_refl _) (Nat.zero_le _) rfl) Ax x.length cx (x.map byteV) rfl HEX.out.2.1 (u8_one x) (by unfold maxLen; omega) (by omega) (by simp) ?_; intro v4 w4 hown hgrow hloc; rw [Nat.zero_add, List.nil_append] at hown; obtain ⟨A4, c4, hv⟩ := own_slice hown; subst hv; have HO4 := Lib.hid hown; have HB4 : Hid (Below wr.heap.size wr w4) := Lib.hid ((((Below.refl _ wr).alloc (Nat.le_refl _) (.cells #[] 5)).grown hgrow (by simp) (fun k e => by cases e; exact Nat.le_refl _))); clear hown hgrow hloc; have HOV4 := Lib.hid (ownsRow_block HOV.out (fun g hg => HB4.out.block g (HOV.out.lt g hg).2)); go_wp2_with (at_builtin; refine wpList_append_src _ rfl (.tmp 22) (.tmp 29) 22 rfl w2.heap.size 23 i1 (.slice none 0 0) 24 Try.underlying22 hi1 hy0 hy1 hy2 rfl _ k svs rfl (World.ownsRow.alloc HOV4.out _) _ 1 1 _ rfl (one_row_src w4 (.slice A4 x.length c4) rfl) (by simp [Value.oneCell']) (by unfold maxLen; omega) (by omega) (by have := HB.out.size; have := HB4.out.size; simp; omega) ?_; intro v5 w5 hown hgrow hloc; obtain ⟨A5, c5, hv⟩ := own_slice hown; subst hv; have HO5 := Lib.hid hown; have hgr2 : (w4.alloc (.cells #[.slice A4 x.length c4] 23)).grownBy w5 (Value.slice Av k cv).ownBlock := hgrow; have HG5 := Lib.hid hgr2; clear hown hgrow hgr2 hloc))
        go_roundw
        case rel =>
          have hB4 := HB4.out
          have hBS := HB.out.size
          have hal : Below w4.heap.size w4 (w4.alloc (.cells #[.slice A4 x.length c4] 23)) := (Below.refl _ w4).alloc (Nat.le_refl _) _
          refine ⟨k + 1, by omega, by go_num, ?_, ?_⟩
          · rw [HTK.out]
            refine RowsO.push (w := w4.alloc (.cells #[.slice A4 x.length c4] 23)) (svs := svs) (v := .slice Av k cv) (by rw [HTL.out]; exact World.ownsRow.alloc HOV4.out _) (fun i sv y e1 e2 => ?_) ?_ (by rw [HTL.out]; exact HO5.out) HG5.out
            · have h3 := H2.out i sv y e1 e2
              exact ownsRow_block h3 fun g hg => (hal.block g (Nat.lt_of_lt_of_le (h3.lt g hg).2 hB4.size)).trans (hB4.block g (h3.lt g hg).2)
            · exact World.ownsRow.alloc (Go.Joins.ownsRow_le HO4.out hBS) _
          · have h1 := (below_then HB.out hB4 hBS).trans (hal.mono (by have := hB4.size; omega))
            exact h1.grown HG5.out (by have := h1.size; omega) fun g hg => (HOV4.out.lt g hg).1
        case measure => simp [intOf]; omega
      · obtain rfl : k = n := by omega
        have hlz : ¬ ((k : Int) < (k : Int)) := by omega
        rw [List.take_of_length_le (by rw [HLEN.out]; exact Nat.le_refl _)] at hO
        obtain ⟨svs, ho, h2⟩ := hO
        rw [HLEN.out] at ho
        obtain ⟨Av, cv, hv⟩ := own_slice ho
        subst hv
        have hsee := (RowsO.see (L := L) ⟨svs, by rw [HLEN.out]; exact ho, h2⟩ (by rw [HLEN.out]; unfold maxLen; omega) (fun x hx => by have := HSH.out x hx; unfold maxLen; omega)).1
        rw [HLEN.out] at hsee
        have HSEE := Lib.hid hsee
        have HOV := Lib.hid ho
        have H2 := Lib.hid h2
        have HB := Lib.hid (below_then HB1.out hB HB1.out.size)
        have HBS := Lib.hid hB.size
        clear ho h2 hsee hB
        have HLOW := Lib.hid (by have := HB1.out.size; exact this : W.heap.size ≤ w2.heap.size)
        have HLO := HLOW
        cases hr : rightB L with
        | false =>
          have HN := Lib.hid (tnew_none wr Av k cv L HSEE.out (by omega) hr)
          have HR := Lib.hid hr
          clear hr
          obtain ⟨n, hnk⟩ : ∃ n, n = k := ⟨_, rfl⟩
          subst hnk
          go_wp2_with fail
          refine HN.out.mono ?_
          rintro e w6 ⟨rfl, hw6⟩
          obtain rfl := hw6
          obtain ⟨b, hb⟩ : ∃ b : Nat, b = 0 := ⟨_, rfl⟩
          obtain ⟨HI, hHI⟩ : ∃ HI, HI = w6.heap.size := ⟨_, rfl⟩
          have HSH6 : Hid (Shed false W w2.heap.size HI b HI (.slice Av n cv) svs L w6) := Lib.hid ⟨HB.out, Nat.le_of_eq hHI, (fun e => by cases e), by rw [HLEN.out]; exact HOV.out, fun g hg => by rw [hHI]; exact (HOV.out.lt g hg).2, fun i sv x e1 e2 => RowB.own (H2.out i sv x e1 e2) (Nat.le_of_eq hHI.symm)⟩
          clear hb hHI
          go_wp2
          go_loopw [9] (fun i wr => ∃ k : Nat, k ≤ n ∧ i = .int .i64 k ∧ Shed false W w2.heap.size HI b HI (.slice Av n cv) svs L wr) (fun i _ => n - (intOf i).toNat)
          case atStart => exact ⟨0, by omega, rfl, HSH6.out⟩
          case round =>
            obtain ⟨k, hk, rfl, hS⟩ := hrel
            rcases Nat.lt_or_ge k n with hlt | hge
            · have hlt' : (k : Int) < (n : Int) := by omega
              have p0 : (0 : Int) ≤ (k : Int) := by omega
              obtain ⟨x, hx⟩ : ∃ x, L[k]? = some x := ⟨_, List.getElem?_eq_getElem (by rw [HLEN.out]; exact hlt)⟩
              obtain ⟨sv, hsv⟩ : ∃ sv, svs[k]? = some sv := ⟨_, List.getElem?_eq_getElem (by have := hS.own.1; rw [HLEN.out] at this; omega)⟩
              have hxs := HSH.out x (List.mem_of_getElem? hx)
              obtain ⟨pa, hpa⟩ : ∃ pa, Av = some pa := by
                cases hA : Av with
                | none =>
                  have h3 := (src_of_own (by have := hS.own; rw [HLEN.out] at this; exact this)).nil hA
                  omega
                | some pa => exact ⟨pa, rfl⟩
              subst hpa
              have hcell : ∀ w, Shed false W w2.heap.size HI b HI (.slice (some pa) n cv) svs L w → w.cell? (pa.add k) = some sv := fun w h => (src_of_own (by have := h.own; rw [HLEN.out] at this; exact this)).cells pa rfl k sv hsv
              have hform : ∃ D dc, sv = .slice D x.length dc ∧ ∀ w, Shed false W w2.heap.size HI b HI (.slice (some pa) n cv) svs L w → ∀ q, q < x.length → ∃ g, D = some ⟨g, 0, none⟩ ∧ ∃ z : UInt8, w.cell? ⟨g, q, none⟩ = some (.int .u8 (z.toNat : Nat)) ∧ w.frozen? ⟨g, q, none⟩ = false := by
                rcases hS.rows k sv x hsv hx with ⟨h1, h2⟩ | ⟨g, cap, cur, h1, h2, h3, h4, h5⟩
                · exact ⟨none, 0, by rw [h1, h2], fun w _ q hq => by omega⟩
                · refine ⟨some ⟨g, 0, none⟩, cap, h1, fun w hw q hq => ⟨g, rfl, ?_⟩⟩
                  rcases hw.rows k sv x hsv hx with ⟨h6, h7⟩ | ⟨g', cap', cur', h6, _, _, h8, h9⟩
                  · omega
                  · rw [h1] at h6
                    injection h6 with h6
                    injection h6 with h6
                    injection h6 with h6
                    subst h6
                    obtain ⟨z, hz⟩ := h9 q hq
                    exact ⟨z, (h8.cell q).trans hz, h8.frozen q⟩
              obtain ⟨D, dc, rfl, hq⟩ := hform
              have HCELL := Lib.hid hcell
              have HQ := Lib.hid hq
              have HX := Lib.hid hx
              have HSV := Lib.hid hsv
              have HS0 := Lib.hid hS
              clear hcell hq hx hsv hS
              go_wp2
              go_loopw [10] (fun j wi => ∃ q : Nat, q ≤ x.length ∧ j = .int .i64 q ∧ Shed false W w2.heap.size HI b HI (.slice (some pa) n cv) svs L wi) (fun j _ => x.length - (intOf j).toNat)
              case atStart => exact ⟨0, by omega, rfl, HS0.out⟩
              case round =>
                obtain ⟨q, hq, rfl, hS⟩ := hrel
                have er := HCELL.out _ hS
                rcases Nat.lt_or_ge q x.length with hlt2 | hge2
                · have hlq : (q : Int) < (x.length : Int) := by omega
                  have p1 : (0 : Int) ≤ (q : Int) := by omega
                  obtain ⟨g, rfl, z, f1, f2⟩ := HQ.out _ hS q hlt2
                  obtain ⟨y, hy⟩ : ∃ y : UInt8, y = UInt8.ofNat ((z.toNat + 1) % 256) := ⟨_, rfl⟩
                  have hyn : y.toNat = (z.toNat + 1) % 256 := by rw [hy]; exact UInt8.toNat_ofNat_of_lt' (by show _ < 256; omega)
                  have hyz : IntKind.u8.wrap ((z.toNat : Int) + 1) = (y.toNat : Int) := by
                    rw [hyn]
                    simp [IntKind.wrap, IntKind.bits, IntKind.signed]
                  have hyz2 : ((z.toNat : Int) + 1) % 256 = (y.toNat : Int) := by rw [hyn]; omega
                  have HST := Lib.hid (hS.store HLO.out (Nat.le_refl _) HSV.out HX.out (k := q) y)
                  have hw6 : IntKind.i64.wrap ((q : Int) + 1) = (q : Int) + 1 := IntWalk.i64_in _ (by omega)
                  clear hS hy hyn
                  go_wp2
                  go_roundw
                  case rel => exact ⟨q + 1, by omega, by go_num, HST.out⟩
                  case measure => simp [intOf]; omega
                · obtain rfl : q = x.length := by omega
                  have hlz2 : ¬ ((x.length : Int) < (x.length : Int)) := by omega
                  have hw7 : IntKind.i64.wrap ((k : Int) + 1) = (k : Int) + 1 := IntWalk.i64_in _ (by omega)
                  have HS1 := Lib.hid hS
                  clear hS
                  go_wp2
                  refine ⟨⟨k + 1, by omega, by go_num, HS1.out⟩, by simp [intOf]; omega⟩
            · obtain rfl : k = n := by omega
              have hlz2 : ¬ ((k : Int) < (k : Int)) := by omega
              have HS9 := Lib.hid hS
              clear hS
              have HRG := Lib.hid (r7Right_any wr A k ca L ((HL.out.1).below HS9.out.below))
              rw [HR.out] at HRG
              go_wp2_with fail
              refine HRG.out.mono ?_
              rintro e w7 ⟨rfl, hw7⟩
              obtain rfl := hw7
              go_wp2
              go_ret
              exact ⟨rfl, HS9.out.below⟩
        | true =>
          have hk512 : k ≤ 512 := by
            rcases Nat.lt_or_ge 512 L.length with h | h
            · rw [rightB_long h] at hr; cases hr
            · have := HLEN.out; omega
          have HN := Lib.hid (tnew_any wr Av k cv L HSEE.out hr)
          have HR := Lib.hid hr
          clear hr
          obtain ⟨n, hnk⟩ : ∃ n, n = k := ⟨_, rfl⟩
          subst hnk
          go_wp2_with fail
          refine HN.out.mono ?_
          rintro e w6 ⟨b, rfl, hb6, hT6⟩
          obtain ⟨HI, hHI⟩ : ∃ HI, HI = wr.heap.size := ⟨_, rfl⟩
          have HSH6 : Hid (Shed true W w2.heap.size HI b HI (.slice Av n cv) svs L w6) := Lib.hid ⟨below_then HB.out hb6 HB.out.size, by rw [hHI]; exact hb6.size, (fun _ => by rw [hHI]; exact hT6), by rw [HLEN.out]; exact ownsRow_block HOV.out (fun g hg => hb6.block g (HOV.out.lt g hg).2), fun g hg => by rw [hHI]; exact (HOV.out.lt g hg).2, fun i sv x e1 e2 => by
            rcases RowB.own (H2.out i sv x e1 e2) (Nat.le_of_eq hHI.symm) with h | ⟨g, cap, cur, q1, q2, q3, q4, q5⟩
            · exact .inl h
            · exact .inr ⟨g, cap, cur, q1, q2, q3, q4.below hb6 (by rw [← hHI]; exact q3), q5⟩⟩
          clear hHI hb6 hT6
          go_wp2
          go_loopw [9] (fun i wr => ∃ k : Nat, k ≤ n ∧ i = .int .i64 k ∧ Shed true W w2.heap.size HI b HI (.slice Av n cv) svs L wr) (fun i _ => n - (intOf i).toNat)
          case atStart => exact ⟨0, by omega, rfl, HSH6.out⟩
          case round =>
            obtain ⟨k, hk, rfl, hS⟩ := hrel
            rcases Nat.lt_or_ge k n with hlt | hge
            · have hlt' : (k : Int) < (n : Int) := by omega
              have p0 : (0 : Int) ≤ (k : Int) := by omega
              obtain ⟨x, hx⟩ : ∃ x, L[k]? = some x := ⟨_, List.getElem?_eq_getElem (by rw [HLEN.out]; exact hlt)⟩
              obtain ⟨sv, hsv⟩ : ∃ sv, svs[k]? = some sv := ⟨_, List.getElem?_eq_getElem (by have := hS.own.1; rw [HLEN.out] at this; omega)⟩
              have hxs := HSH.out x (List.mem_of_getElem? hx)
              obtain ⟨pa, hpa⟩ : ∃ pa, Av = some pa := by
                cases hA : Av with
                | none =>
                  have h3 := (src_of_own (by have := hS.own; rw [HLEN.out] at this; exact this)).nil hA
                  omega
                | some pa => exact ⟨pa, rfl⟩
              subst hpa
              have hcell : ∀ w, Shed true W w2.heap.size HI b HI (.slice (some pa) n cv) svs L w → w.cell? (pa.add k) = some sv := fun w h => (src_of_own (by have := h.own; rw [HLEN.out] at this; exact this)).cells pa rfl k sv hsv
              have hform : ∃ D dc, sv = .slice D x.length dc ∧ ∀ w, Shed true W w2.heap.size HI b HI (.slice (some pa) n cv) svs L w → ∀ q, q < x.length → ∃ g, D = some ⟨g, 0, none⟩ ∧ ∃ z : UInt8, w.cell? ⟨g, q, none⟩ = some (.int .u8 (z.toNat : Nat)) ∧ w.frozen? ⟨g, q, none⟩ = false := by
                rcases hS.rows k sv x hsv hx with ⟨h1, h2⟩ | ⟨g, cap, cur, h1, h2, h3, h4, h5⟩
                · exact ⟨none, 0, by rw [h1, h2], fun w _ q hq => by omega⟩
                · refine ⟨some ⟨g, 0, none⟩, cap, h1, fun w hw q hq => ⟨g, rfl, ?_⟩⟩
                  rcases hw.rows k sv x hsv hx with ⟨h6, h7⟩ | ⟨g', cap', cur', h6, _, _, h8, h9⟩
                  · omega
                  · rw [h1] at h6
                    injection h6 with h6
                    injection h6 with h6
                    injection h6 with h6
                    subst h6
                    obtain ⟨z, hz⟩ := h9 q hq
                    exact ⟨z, (h8.cell q).trans hz, h8.frozen q⟩
              obtain ⟨D, dc, rfl, hq⟩ := hform
              have HCELL := Lib.hid hcell
              have HQ := Lib.hid hq
              have HX := Lib.hid hx
              have HSV := Lib.hid hsv
              have HS0 := Lib.hid hS
              clear hcell hq hx hsv hS
              go_wp2
              go_loopw [10] (fun j wi => ∃ q : Nat, q ≤ x.length ∧ j = .int .i64 q ∧ Shed true W w2.heap.size HI b HI (.slice (some pa) n cv) svs L wi) (fun j _ => x.length - (intOf j).toNat)
              case atStart => exact ⟨0, by omega, rfl, HS0.out⟩
              case round =>
                obtain ⟨q, hq, rfl, hS⟩ := hrel
                have er := HCELL.out _ hS
                rcases Nat.lt_or_ge q x.length with hlt2 | hge2
                · have hlq : (q : Int) < (x.length : Int) := by omega
                  have p1 : (0 : Int) ≤ (q : Int) := by omega
                  obtain ⟨g, rfl, z, f1, f2⟩ := HQ.out _ hS q hlt2
                  obtain ⟨y, hy⟩ : ∃ y : UInt8, y = UInt8.ofNat ((z.toNat + 1) % 256) := ⟨_, rfl⟩
                  have hyn : y.toNat = (z.toNat + 1) % 256 := by rw [hy]; exact UInt8.toNat_ofNat_of_lt' (by show _ < 256; omega)
                  have hyz : IntKind.u8.wrap ((z.toNat : Int) + 1) = (y.toNat : Int) := by
                    rw [hyn]
                    simp [IntKind.wrap, IntKind.bits, IntKind.signed]
                  have hyz2 : ((z.toNat : Int) + 1) % 256 = (y.toNat : Int) := by rw [hyn]; omega
                  have HST := Lib.hid (hS.store HLO.out (Nat.le_refl _) HSV.out HX.out (k := q) y)
                  have hw6 : IntKind.i64.wrap ((q : Int) + 1) = (q : Int) + 1 := IntWalk.i64_in _ (by omega)
                  clear hS hy hyn
                  go_wp2
                  go_roundw
                  case rel => exact ⟨q + 1, by omega, by go_num, HST.out⟩
                  case measure => simp [intOf]; omega
                · obtain rfl : q = x.length := by omega
                  have hlz2 : ¬ ((x.length : Int) < (x.length : Int)) := by omega
                  have hw7 : IntKind.i64.wrap ((k : Int) + 1) = (k : Int) + 1 := IntWalk.i64_in _ (by omega)
                  have HS1 := Lib.hid hS
                  clear hS
                  go_wp2
                  refine ⟨⟨k + 1, by omega, by go_num, HS1.out⟩, by simp [intOf]; omega⟩
            · obtain rfl : k = n := by omega
              have hlz2 : ¬ ((k : Int) < (k : Int)) := by omega
              have HS9 := Lib.hid hS
              clear hS
              have HRG := Lib.hid (r7Right_any wr A k ca L ((HL.out.1).below HS9.out.below))
              rw [HR.out] at HRG
              have HT0 := Lib.hid (HS9.out.trie rfl)
              have HW0 := Lib.hid HS9.out.below
              have HSB0 := Lib.hid (HS.out.1.below HS9.out.below)
              obtain ⟨n, hnk⟩ : ∃ n, n = k := ⟨_, rfl⟩
              subst hnk
              go_wp2_with fail
              refine HRG.out.mono ?_
              rintro e w7 ⟨rfl, hw7⟩
              obtain rfl := hw7
              have HC := Lib.hid (prefix_is HT0.out (by have := HLEN.out; omega) B m cb s HSB0.out (by omega) rfl)
              go_wp2_with fail
              refine HC.out.mono ?_
              rintro e v0 ⟨X0, x0, rfl, hi0, hb⟩
              have HD := Lib.hid (r7Prefix_any v0 A B n m ca cb L s ((HL.out.1.below HW0.out).below hb) (HSB0.out.below hb) (by omega) (by omega) (fun x hx => by have := HSH.out x hx; omega))
              have HI0 := Lib.hid hi0
              have HT0' := Lib.hid (HT0.out.below hb)
              have HSB0' := Lib.hid (HSB0.out.below hb)
              have HW0' := Lib.hid (below_then HW0.out hb HW0.out.size)
              clear hi0 hb HC
              go_wp2_with fail
              refine HD.out.mono ?_
              rintro e v1 ⟨vv0, rfl, ho, hb⟩
              have hee : idxUp (fun t => atB t 0 s) L n = idxUp (fun t => atB t 0 s) L L.length := by rw [HLEN.out]
              rw [hee] at ho
              obtain ⟨Y0, y0, hv⟩ := own_slice ho
              subst hv
              have hll : (idxUp (fun t => atB t 0 s) L L.length).length ≤ 512 := by have := idxUp_len (fun t => atB t 0 s) L L.length; have := HLEN.out; omega
              have HE := Lib.hid (same_is (ca := x0) (cb := y0) (HI0.out.below hb) (IntsIn.own ho (Nat.le_trans hll (by unfold maxLen; omega)) (fun x hx => by have := idxUp_mem hx; have := HLEN.out; omega)))
              have HT0'' := Lib.hid (HT0'.out.below hb)
              have HSB0'' := Lib.hid (HSB0'.out.below hb)
              have HW0'' := Lib.hid (below_then HW0'.out hb HW0'.out.size)
              clear ho hb HD hll hee
              go_wp2_with fail
              refine HE.out.mono ?_
              rintro e v2 ⟨rfl, q0, hq⟩
              have HT1 := Lib.hid (by rw [hq]; exact HT0''.out.below (below_drewN (Below.refl _ _) q0) : TrieAt v2 b HI L)
              have HSB1 := Lib.hid (by rw [hq]; exact HSB0''.out.drewN q0 : BytesIn v2 B m s)
              have HW1 := Lib.hid (by rw [hq]; exact below_drewN HW0''.out q0 : Below W.heap.size W v2)
              clear hq HE
              have HC := Lib.hid (suffix_is HT1.out (by have := HLEN.out; omega) B m cb s HSB1.out (by omega) rfl)
              go_wp2_with fail
              refine HC.out.mono ?_
              rintro e v3 ⟨X1, x1, rfl, hi1, hb⟩
              have HD := Lib.hid (r7Suffix_any v3 A B n m ca cb L s ((HL.out.1.below HW1.out).below hb) (HSB1.out.below hb) (by omega) (by omega) (fun x hx => by have := HSH.out x hx; omega))
              have HI1 := Lib.hid hi1
              have HT1' := Lib.hid (HT1.out.below hb)
              have HSB1' := Lib.hid (HSB1.out.below hb)
              have HW1' := Lib.hid (below_then HW1.out hb HW1.out.size)
              clear hi1 hb HC
              go_wp2_with fail
              refine HD.out.mono ?_
              rintro e v4 ⟨vv1, rfl, ho, hb⟩
              have hee : idxUp (fun t => atB t ((t.length : Int) - (s.length : Int)) s) L n = idxUp (fun t => atB t ((t.length : Int) - (s.length : Int)) s) L L.length := by rw [HLEN.out]
              rw [hee] at ho
              obtain ⟨Y1, y1, hv⟩ := own_slice ho
              subst hv
              have hll : (idxUp (fun t => atB t ((t.length : Int) - (s.length : Int)) s) L L.length).length ≤ 512 := by have := idxUp_len (fun t => atB t ((t.length : Int) - (s.length : Int)) s) L L.length; have := HLEN.out; omega
              have HE := Lib.hid (same_is (ca := x1) (cb := y1) (HI1.out.below hb) (IntsIn.own ho (Nat.le_trans hll (by unfold maxLen; omega)) (fun x hx => by have := idxUp_mem hx; have := HLEN.out; omega)))
              have HT1'' := Lib.hid (HT1'.out.below hb)
              have HSB1'' := Lib.hid (HSB1'.out.below hb)
              have HW1'' := Lib.hid (below_then HW1'.out hb HW1'.out.size)
              clear ho hb HD hll hee
              go_wp2_with fail
              refine HE.out.mono ?_
              rintro e v5 ⟨rfl, q1, hq⟩
              have HT2 := Lib.hid (by rw [hq]; exact HT1''.out.below (below_drewN (Below.refl _ _) q1) : TrieAt v5 b HI L)
              have HSB2 := Lib.hid (by rw [hq]; exact HSB1''.out.drewN q1 : BytesIn v5 B m s)
              have HW2 := Lib.hid (by rw [hq]; exact below_drewN HW1''.out q1 : Below W.heap.size W v5)
              clear hq HE
              have HC := Lib.hid (infix_is HT2.out (by have := HLEN.out; omega) B m cb s HSB2.out (by omega) rfl)
              go_wp2_with fail
              refine HC.out.mono ?_
              rintro e v6 ⟨X2, x2, rfl, hi2, hb⟩
              have HD := Lib.hid (r7Infix_any v6 A B n m ca cb L s ((HL.out.1.below HW2.out).below hb) (HSB2.out.below hb) (by omega) (by omega) (fun x hx => by have := HSH.out x hx; omega))
              have HI2 := Lib.hid hi2
              have HT2' := Lib.hid (HT2.out.below hb)
              have HSB2' := Lib.hid (HSB2.out.below hb)
              have HW2' := Lib.hid (below_then HW2.out hb HW2.out.size)
              clear hi2 hb HC
              go_wp2_with fail
              refine HD.out.mono ?_
              rintro e v7 ⟨vv2, rfl, ho, hb⟩
              have hee : idxUp (fun t => infB t s) L n = idxUp (fun t => infB t s) L L.length := by rw [HLEN.out]
              rw [hee] at ho
              obtain ⟨Y2, y2, hv⟩ := own_slice ho
              subst hv
              have hll : (idxUp (fun t => infB t s) L L.length).length ≤ 512 := by have := idxUp_len (fun t => infB t s) L L.length; have := HLEN.out; omega
              have HE := Lib.hid (same_is (ca := x2) (cb := y2) (HI2.out.below hb) (IntsIn.own ho (Nat.le_trans hll (by unfold maxLen; omega)) (fun x hx => by have := idxUp_mem hx; have := HLEN.out; omega)))
              have HT2'' := Lib.hid (HT2'.out.below hb)
              have HSB2'' := Lib.hid (HSB2'.out.below hb)
              have HW2'' := Lib.hid (below_then HW2'.out hb HW2'.out.size)
              clear ho hb HD hll hee
              go_wp2_with fail
              refine HE.out.mono ?_
              rintro e v8 ⟨rfl, q2, hq⟩
              have HT3 := Lib.hid (by rw [hq]; exact HT2''.out.below (below_drewN (Below.refl _ _) q2) : TrieAt v8 b HI L)
              have HSB3 := Lib.hid (by rw [hq]; exact HSB2''.out.drewN q2 : BytesIn v8 B m s)
              have HW3 := Lib.hid (by rw [hq]; exact below_drewN HW2''.out q2 : Below W.heap.size W v8)
              clear hq HE
              go_wp2
              go_ret
              exact ⟨rfl, HW3.out⟩
end Go.Proofs.Ytjmpngghjbiajaa
