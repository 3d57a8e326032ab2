/- DiskNames: a file that is made is there, till it is removed or renamed. -/
import Derived.Test.YteaeniopfbglnaaNamesMath2
import Derived.Test.YteaeniopfbglnaaCut
namespace Go.Proofs.Yteaeniopfbglnaa
open Go.RowKit Go.Maps Go.WideMaps

set_option maxHeartbeats 16000000 in
set_option maxRecDepth 100000 in
theorem diskNames_any (w : World) (A : Option Addr) (n c : Nat) (l : List OpV) (h : OpsIn w A n l) (a b0 : ByteArray) (ha : a.size ≤ 140737488351232) (hb : b0.size ≤ 140737488351232) (S : Option Addr) (m cm : Nat) (ss : Nm) (hS : BytesIn w S m ss) :
    Calls Try.prog 8 #[.slice A n c, .string a, .string b0, .slice S m cm] w fun e w' => e = .returned (.bool true) ∧ Below w.heap.size w w' := by
  have hn := h.len
  have hbig := h.big
  have hn2 : n ≤ 1599289641265 := by omega
  have hssl : ss.length = m := by have := hS.2.1.len; simpa using this
  have hSm := hS.1
  unfold maxLen at hSm
  have H := Lib.hid h
  have HN := Lib.hid hn
  have HS := Lib.hid hS
  have HSL := Lib.hid hssl
  clear h hn hbig hS hssl
  go_enter Try.func8, Try.ntmps8
  go_wp2_with (first
    | (go_at_call 11; refine (head_any _).mono ?_; rintro e w1 ⟨rfl, hb1⟩)
    | (go_at_call 30; refine (New_any _ _ (by decide)).mono ?_; rintro e w2 ⟨rfl, hD2, hb2⟩; have hs1 := hb1.size; have hb2' := hb1.trans (hb2.mono hs1); have M2 := Lib.hid (Mine.mk (w0 := w) (w := w2) hD2 (fun i hi => by omega) hb2'); have hs2 := hb2'.size; have HB2 := Lib.hid hb2'; clear hD2 hb2 hb2'; unfold at0; generalize w1.heap.size + 2 = b at M2))
  refine (Great_any (H.out.below HB2.out) _).mono ?_
  rintro e w3 ⟨g, m3, rfl, rfl, hg⟩
  cases g with
  | true =>
    clear hg
    go_wp2
    go_ret
    exact ⟨rfl, below_q M2.out.below m3⟩
  | false =>
    have HG := Lib.hid (hg rfl)
    clear hg
    have M3 := Lib.hid (M2.out.drewN m3)
    by_cases hm : 1000 < m
    · have hm' : (1000 : Int) < m := by omega
      go_wp2
      go_ret
      exact ⟨rfl, M3.out.below⟩
    have hm' : ¬ (1000 : Int) < m := by omega
    by_cases ha1 : 1000 < a.size
    · have ha1' : (1000 : Int) < a.size := by omega
      go_wp2
      go_ret
      exact ⟨rfl, M3.out.below⟩
    have ha1' : ¬ (1000 : Int) < a.size := by omega
    by_cases hb1' : 1000 < b0.size
    · have hb1'' : (1000 : Int) < b0.size := by omega
      go_wp2
      go_ret
      exact ⟨rfl, M3.out.below⟩
    have hb1'' : ¬ (1000 : Int) < b0.size := by omega
    have hpl : Plain (opsSize (l.take 0)) 0 (St.new (1048576 : Int).toNat) := ⟨⟨rfl, rfl⟩, ⟨rfl, Nat.le_refl _, Nat.le_refl _⟩, ⟨Nat.zero_le _, List.nodup_nil⟩, rfl⟩
    have HPL := Lib.hid hpl
    clear hpl
    go_wp2
    go_loopw [11] (fun i wr => ∃ (k : Nat) (s : St) (F : Nat → Prop), k ≤ n ∧ i = .int .i64 k ∧ Mine w wr F b s ∧ Plain (opsSize (l.take k)) k s) (fun i _ => n - (intOf i).toNat)
    case atStart => exact ⟨0, _, _, Nat.zero_le _, rfl, M3.out, HPL.out⟩
    case round =>
      obtain ⟨k, s, F, hk, rfl, hM, hP⟩ := hrel
      by_cases hlt : k < n
      · have HL := HN.out
        cases A with
        | none => have := H.out.nil rfl; omega
        | some ad =>
          obtain ⟨o, ho⟩ : ∃ o, l[k]? = some o := ⟨_, List.getElem?_eq_getElem (by omega)⟩
          have hol := List.mem_of_getElem? ho
          have hin := H.out.op o hol
          have hac := hP.runs.acts
          have hch := hP.runs.chs
          have hmid := hP.runs.mid
          have hll : k ≤ 300 := by have := (HG.out).1; omega
          have hsn : opsSize (l.take (k + 1)) = opsSize (l.take k) + opSize o := by rw [take_snoc' l k o ho, opsSize_snoc]
          have hbn : o.bs.length ≤ opSize o := by
            have h1 : o.bs.length = o.bn := by have := hin.b.2.1.len; simpa using this
            have h2 : opSize o = min o.a.size 1000 + min o.bn 300000 + o.k := rfl
            have h3 := HG.out.2
            have h4 : opsSize (l.take (k + 1)) ≤ opsSize l := by
              conv => rhs; rw [← List.take_append_drop (k + 1) l]
              simp only [opsSize, List.map_append, List.sum_append]; omega
            omega
          have c0 := (H.out.below hM.below).head ho
          have c1 := (H.out.below hM.below).field ho 0 rfl
          have c2 := (H.out.below hM.below).field ho 1 rfl
          have c3 := (H.out.below hM.below).field ho 2 rfl
          have c4 := (H.out.below hM.below).field ho 3 rfl
          have c5 := (H.out.below hM.below).field ho 4 rfl
          have HM := Lib.hid hM
          have HP := Lib.hid hP
          have HIN := Lib.hid hin
          have HMID := Lib.hid hmid
          have HSN := Lib.hid hsn
          clear hM hP ho hol hin hmid HL hsn
          obtain ⟨blk, off, sp⟩ := ad
          by_cases hw : o.what < 7
          · go_wp2_with fail
            refine (does_any HM.out.disk HMID.out (by omega) (by omega) o (HIN.out.below HM.out.below) (HM.out.awayB HIN.out) (HM.out.awayC HIN.out)).mono ?_
            rintro e w5 ⟨r, s', F', rfl, hst, hD5, hk5, hF5⟩
            have M5 := Lib.hid (HM.out.crash hD5 hF5 hk5)
            have HP5 := Lib.hid ((HP.out.step hst hw HM.out.disk.wf).more (show _ ≤ opsSize (l.take (k + 1)) by rw [HSN.out]; omega) (Nat.le_refl _))
            clear hst hD5 hk5 hF5 c0 c1 c2 c3 c4 c5
            go_wp2
            go_roundw
            case rel => exact ⟨k + 1, s', F', by omega, by go_num, M5.out, HP5.out⟩
            case measure => simp [intOf]; omega
          · have HP5 := Lib.hid (HP.out.more (show _ ≤ opsSize (l.take (k + 1)) by rw [HSN.out]; omega) (Nat.le_succ k))
            clear c1 c2 c3 c4 c5
            go_wp2
            go_roundw
            case rel => exact ⟨k + 1, s, F, by omega, by go_num, HM.out, HP5.out⟩
            case measure => simp [intOf]; omega
      · obtain rfl : k = n := by omega
        have hll : k ≤ 300 := by have := (HG.out).1; have := HN.out; omega
        have hP' := hP.more (B' := 300000) (q' := 300) (by have := HG.out.2; have h := List.take_of_length_le (l := l) (i := k) (by have := HN.out; omega); rw [h]; omega) hll
        have HP := Lib.hid hP'
        have HM := Lib.hid hM
        clear hP hP' hM
        go_wp2_with fail
        refine (Remove_any HM.out.disk HP.out.runs.mid (by have := HP.out.runs.acts; omega) (by have := HP.out.runs.chs; omega) a (by unfold maxLen; omega) (fun _ => by omega)).mono ?_
        rintro e w5 ⟨r5, s5, F5, rfl, hT5, hD5, hk5, hF5⟩
        obtain ⟨hP5, hg5, _⟩ := HP.out.remove hT5
        have M5 := Lib.hid (HM.out.crash hD5 hF5 hk5)
        have HP5 := Lib.hid hP5
        have HG5 := Lib.hid hg5
        clear hT5 hD5 hk5 hF5 hP5 hg5
        go_wp2_with fail
        refine (Create_any M5.out.disk HP5.out.runs.mid (by have := HP5.out.runs.acts; omega) (by have := HP5.out.runs.chs; omega) a (by unfold maxLen; omega)).mono ?_
        rintro e w6 ⟨r6, s6, F6, rfl, hT6, hD6, hk6, hF6⟩
        have M6 := Lib.hid (M5.out.crash hD6 hF6 hk6)
        have hcr := HP5.out.create M5.out.disk.wf HG5.out hT6
        clear hT6 hD6 hk6 hF6
        rcases hcr with ⟨hok, rfl⟩ | ⟨hok, rfl, rfl, h64⟩ | ⟨hok, rfl, hP6, i, hg6, hd6⟩
        · have HOK := Lib.hid hok
          clear hok
          go_wp2_with (go_at_call 37; refine (Right_any a _ (by unfold maxLen; omega)).mono ?_; rintro e w' ⟨rfl, rfl⟩; rw [HOK.out])
          go_ret
          exact ⟨rfl, M6.out.below⟩
        · have h64' : s6.now.length = 64 := by have := M6.out.disk.wf.nnow; omega
          have H64 := Lib.hid h64'
          clear hok h64 h64'
          go_wp2_with fail
          refine (Names_any M6.out.disk).mono ?_
          rintro e w7 ⟨v7, rfl, hr7, hb7⟩
          obtain ⟨A7, c7, rfl⟩ := own_slice hr7
          rw [H64.out]
          have M7 := Lib.hid (M6.out.later hb7)
          clear hr7 hb7
          go_wp2
          go_ret
          exact ⟨rfl, M7.out.below⟩
        · have HP6 := Lib.hid hP6
          have HG6 := Lib.hid hg6
          have HD6 := Lib.hid hd6
          have RD6 := Lib.hid (show readOf s6 a.data.toList = ([], 0) by rw [read_there hP6.live.down hg6, hd6])
          clear hok hP6 hg6 hd6
          go_wp2_with fail
          refine (Read_any M6.out.disk a (by unfold maxLen; omega)).mono ?_
          rintro e w7 ⟨v7, rfl, hr7, hb7⟩
          rw [RD6.out] at hr7 ⊢
          obtain ⟨A7, c7, rfl⟩ := own_slice hr7
          have M7 := Lib.hid (M6.out.later hb7)
          clear hr7 hb7
          go_wp2_with fail
          have hS7 := HS.out.below M7.out.below
          refine (Append_any M7.out.disk (by have := HP6.out.runs.acts; omega) a (by unfold maxLen; omega) S m cm ss hS7.2.1 (by omega) (fun ad e h0 => ⟨hS7.2.2 ad e h0, M7.out.away HS.out.2.2 ad e h0⟩)).mono ?_
          rintro e w8 ⟨r8, s8, F8, rfl, hT8, hD8, hk8, hF8⟩
          obtain ⟨rfl, hP8, hg8, hd8⟩ := HP6.out.append HG6.out HD6.out (by have := HSL.out; omega) (Nat.le_refl _) hT8
          have M8 := Lib.hid (M7.out.crash hD8 hF8 hk8)
          have HP8 := Lib.hid hP8
          have HG8 := Lib.hid hg8
          have HD8 := Lib.hid hd8
          clear hT8 hD8 hk8 hF8 hP8 hg8 hd8 hS7
          go_wp2_with fail
          refine (Rename_any M8.out.disk HP8.out.runs.mid (by have := HP8.out.runs.acts; omega) (by have := HP8.out.runs.chs; omega) a b0 (by unfold maxLen; omega) (fun _ => by omega) (by unfold maxLen; omega)).mono ?_
          rintro e w9 ⟨r9, s9, F9, rfl, hT9, hD9, hk9, hF9⟩
          have M9 := Lib.hid (M8.out.crash hD9 hF9 hk9)
          have NB := Lib.hid (fun g (hg : F9 g) => hD9.size g hg)
          obtain ⟨hl9, hr9, hcs⟩ := HP8.out.rename HG8.out hT9
          have HL5 := Lib.hid hl9
          have HR5 := Lib.hid hr9
          have hml : ss.length ≤ m := Nat.le_of_eq HSL.out
          have haz : a.size ≤ maxLen := by unfold maxLen; omega
          have hbz : b0.size ≤ maxLen := by unfold maxLen; omega
          clear hT9 hD9 hk9 hF9 hl9 hr9
          rcases hcs with ⟨hok, rfl, rfl⟩ | ⟨hok, rfl, hdt, hgy, hgx⟩
          · have HOK := Lib.hid hok
            have HGN := HG8
            have RA := Lib.hid (show readOf s9 a.data.toList = (ss, 0) by rw [read_there HL5.out.down HG8.out, HD8.out])
            have RN := RA
            clear hok
            go_wp2_with (go_at_call 37; refine (Right_any b0 _ hbz).mono ?_; rintro e w' ⟨rfl, rfl⟩; rw [HOK.out])
            go_wp2_with fail
            refine (Read_any M9.out.disk a (by omega)).mono ?_
            rintro e w10 ⟨v10, rfl, hr10, hb10⟩
            rw [RN.out] at hr10 ⊢
            have M10 := Lib.hid (M9.out.later hb10)
            have HR10 := Lib.hid hr10
            clear hr10 hb10
            go_wp2_with fail
            refine (Read_any M10.out.disk a (by omega)).mono ?_
            rintro e w11 ⟨v11, rfl, hr11, hb11⟩
            rw [RA.out] at hr11 ⊢
            have M11 := Lib.hid (M10.out.later hb11)
            have HR11 := Lib.hid (ownsRow_block HR10.out (w' := w11) fun g hg => hb11.block g (HR10.out.lt g hg).2)
            clear hr11 hb11
            go_wp2_with fail
            refine (Remove_any M11.out.disk HR5.out.mid (by have := HR5.out.acts; omega) (by have := HR5.out.chs; omega) a (by omega) (fun _ => by omega)).mono ?_
            rintro e w12 ⟨r12, s12, F12, rfl, hT12, hD12, hk12, hF12⟩
            obtain ⟨rfl, hg12, hd12⟩ := remove_there HL5.out HGN.out hT12
            have M12 := Lib.hid (M11.out.crash hD12 hF12 hk12)
            have HR12 := Lib.hid (ownsRow_kept HR11.out hk12 (fun g hg hf => by have := (HR11.out.lt g hg).1; have := NB.out g hf; omega))
            have RG := Lib.hid (read_gone hd12 hg12)
            clear hT12 hD12 hk12 hF12 hg12 hd12
            go_wp2_with fail
            refine (Read_any M12.out.disk a (by omega)).mono ?_
            rintro e w13 ⟨v13, rfl, hr13, hb13⟩
            rw [RG.out] at hr13 ⊢
            have M13 := Lib.hid (M12.out.later hb13)
            have hy := own_mono (ownsRow_block HR12.out (w' := w13) fun g hg => hb13.block g (HR12.out.lt g hg).2) (Nat.zero_le _)
            have cv1 := string_of_row hy
            have cv2 := string_of_src (w := w13) (n := m) (d := ss) ((HS.out.below M13.out.below).2.1) m cm (Nat.le_refl _)
            rw [List.take_of_length_le (by omega)] at cv2
            clear hr13 hb13 hy
            go_wp2
            go_ret
            exact ⟨rfl, M13.out.below⟩
          · have HOK := Lib.hid hok
            have HGN := Lib.hid hgy
            have RN := Lib.hid (show readOf s9 b0.data.toList = (ss, 0) by rw [read_there HL5.out.down hgy, hdt, HD8.out])
            by_cases hab : b0 = a
            · subst hab
              have RA := RN
              clear hok hdt hgy hgx
              go_wp2_with (go_at_call 37; refine (Right_any b0 _ hbz).mono ?_; rintro e w' ⟨rfl, rfl⟩; rw [HOK.out])
              go_wp2_with fail
              refine (Read_any M9.out.disk b0 (by omega)).mono ?_
              rintro e w10 ⟨v10, rfl, hr10, hb10⟩
              rw [RN.out] at hr10 ⊢
              have M10 := Lib.hid (M9.out.later hb10)
              have HR10 := Lib.hid hr10
              clear hr10 hb10
              go_wp2_with fail
              refine (Read_any M10.out.disk b0 (by omega)).mono ?_
              rintro e w11 ⟨v11, rfl, hr11, hb11⟩
              rw [RA.out] at hr11 ⊢
              have M11 := Lib.hid (M10.out.later hb11)
              have HR11 := Lib.hid (ownsRow_block HR10.out (w' := w11) fun g hg => hb11.block g (HR10.out.lt g hg).2)
              clear hr11 hb11
              go_wp2_with fail
              refine (Remove_any M11.out.disk HR5.out.mid (by have := HR5.out.acts; omega) (by have := HR5.out.chs; omega) b0 (by omega) (fun _ => by omega)).mono ?_
              rintro e w12 ⟨r12, s12, F12, rfl, hT12, hD12, hk12, hF12⟩
              obtain ⟨rfl, hg12, hd12⟩ := remove_there HL5.out HGN.out hT12
              have M12 := Lib.hid (M11.out.crash hD12 hF12 hk12)
              have HR12 := Lib.hid (ownsRow_kept HR11.out hk12 (fun g hg hf => by have := (HR11.out.lt g hg).1; have := NB.out g hf; omega))
              have RG := Lib.hid (read_gone hd12 hg12)
              clear hT12 hD12 hk12 hF12 hg12 hd12
              go_wp2_with fail
              refine (Read_any M12.out.disk b0 (by omega)).mono ?_
              rintro e w13 ⟨v13, rfl, hr13, hb13⟩
              rw [RG.out] at hr13 ⊢
              have M13 := Lib.hid (M12.out.later hb13)
              have hy := own_mono (ownsRow_block HR12.out (w' := w13) fun g hg => hb13.block g (HR12.out.lt g hg).2) (Nat.zero_le _)
              have cv1 := string_of_row hy
              have cv2 := string_of_src (w := w13) (n := m) (d := ss) ((HS.out.below M13.out.below).2.1) m cm (Nat.le_refl _)
              rw [List.take_of_length_le (by omega)] at cv2
              clear hr13 hb13 hy
              go_wp2
              go_ret
              exact ⟨rfl, M13.out.below⟩
            · have hne : (b0.toList == a.toList) = false := by
                rw [ByteArray.toList_eq, ByteArray.toList_eq]
                simp only [beq_eq_false_iff_ne, ne_eq]
                intro e
                apply hab
                obtain ⟨⟨x⟩⟩ := a
                obtain ⟨⟨y⟩⟩ := b0
                simpa using e
              have RA := Lib.hid (read_gone HL5.out.down (hgx (by
                intro e
                apply hab
                obtain ⟨⟨x⟩⟩ := a
                obtain ⟨⟨y⟩⟩ := b0
                simpa using e.symm)))
              clear hok hdt hgy hgx hab
              go_wp2_with (go_at_call 37; refine (Right_any b0 _ hbz).mono ?_; rintro e w' ⟨rfl, rfl⟩; rw [HOK.out])
              go_wp2_with fail
              refine (Read_any M9.out.disk b0 (by omega)).mono ?_
              rintro e w10 ⟨v10, rfl, hr10, hb10⟩
              rw [RN.out] at hr10 ⊢
              have M10 := Lib.hid (M9.out.later hb10)
              have HR10 := Lib.hid hr10
              clear hr10 hb10
              go_wp2_with fail
              refine (Read_any M10.out.disk a (by omega)).mono ?_
              rintro e w11 ⟨v11, rfl, hr11, hb11⟩
              rw [RA.out] at hr11 ⊢
              have M11 := Lib.hid (M10.out.later hb11)
              have HR11 := Lib.hid (ownsRow_block HR10.out (w' := w11) fun g hg => hb11.block g (HR10.out.lt g hg).2)
              clear hr11 hb11
              go_wp2_with fail
              refine (Remove_any M11.out.disk HR5.out.mid (by have := HR5.out.acts; omega) (by have := HR5.out.chs; omega) b0 (by omega) (fun _ => by omega)).mono ?_
              rintro e w12 ⟨r12, s12, F12, rfl, hT12, hD12, hk12, hF12⟩
              obtain ⟨rfl, hg12, hd12⟩ := remove_there HL5.out HGN.out hT12
              have M12 := Lib.hid (M11.out.crash hD12 hF12 hk12)
              have HR12 := Lib.hid (ownsRow_kept HR11.out hk12 (fun g hg hf => by have := (HR11.out.lt g hg).1; have := NB.out g hf; omega))
              have RG := Lib.hid (read_gone hd12 hg12)
              clear hT12 hD12 hk12 hF12 hg12 hd12
              go_wp2_with fail
              refine (Read_any M12.out.disk b0 (by omega)).mono ?_
              rintro e w13 ⟨v13, rfl, hr13, hb13⟩
              rw [RG.out] at hr13 ⊢
              have M13 := Lib.hid (M12.out.later hb13)
              have hy := own_mono (ownsRow_block HR12.out (w' := w13) fun g hg => hb13.block g (HR12.out.lt g hg).2) (Nat.zero_le _)
              have cv1 := string_of_row hy
              have cv2 := string_of_src (w := w13) (n := m) (d := ss) ((HS.out.below M13.out.below).2.1) m cm (Nat.le_refl _)
              rw [List.take_of_length_le (by omega)] at cv2
              clear hr13 hb13 hy
              go_wp2
              go_ret
              exact ⟨rfl, M13.out.below⟩
end Go.Proofs.Yteaeniopfbglnaa
