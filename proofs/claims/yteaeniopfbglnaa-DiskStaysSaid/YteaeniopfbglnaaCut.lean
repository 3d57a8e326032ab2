/- DiskCut: a crash leaves no name that was never there, and twice the same crash is one. -/
import Derived.Test.YteaeniopfbglnaaCutMath
import Derived.Test.YteaeniopfbglnaaSyncs
namespace Go.Proofs.Yteaeniopfbglnaa
open Go.RowKit Go.Maps Go.WideMaps

theorem strInfo : (Try.prog.info? 9).map (fun i => (i.zero, i.size, i.bytes)) = some (some (.string ⟨#[]⟩), 1, 16) := by kernel_rfl
theorem enc_one (l : Dir) : ∀ u ∈ (l.map fun p => encStr p.1), u.oneCell' = true := by
  intro u hu
  obtain ⟨x, _, rfl⟩ := List.mem_map.1 hu
  rfl
theorem src_of_own {w : World} {A : Option Addr} {n c base : Nat} {e : TypeId} {xs : List Value} (h : w.ownsRow base e 1 (.slice A n c) n xs) : Src w A n xs := by
  refine ⟨by have := h.1; simpa using this, fun ad e j u hu => ?_, fun e => ?_⟩
  · rcases h.2 with ⟨h1, h0⟩ | ⟨g, cap, cur, h1, _⟩
    · injection h1 with h1
      rw [h1] at e; cases e
    · injection h1 with h1
      rw [h1] at e
      injection e with e
      subst e
      exact h.cells (by rw [h1]; rfl) j u hu
  · rcases h.2 with ⟨_, h0⟩ | ⟨g, cap, cur, h1, _⟩
    · exact h0
    · injection h1 with h1
      rw [h1] at e; cases e
theorem Mine.grown {w0 w w' : World} {F : Nat → Prop} {b : Nat} {s : St} {row : Option Nat} (h : Mine w0 w F b s) (hg : w.grownBy w' row) (hr : ∀ g, row = some g → w0.heap.size ≤ g ∧ ¬ F g) : Mine w0 w' F b s :=
  ⟨h.disk.frame (fun i hi => hg.block i (h.disk.size i hi) (fun e => (hr i e.symm).2 hi)) hg.size, h.new, h.below.grown hg h.below.size (fun g e => (hr g e).1)⟩
theorem Mine.crash {w0 w w' : World} {F : Nat → Prop} {b : Nat} {s s' : St} (h : Mine w0 w F b s) {F' : Nat → Prop} (hD : Disk w' F' b s') (hF : ∀ i, F' i → F i ∨ w.heap.size ≤ i) (hk : Kept F w w') : Mine w0 w' F' b s' :=
  ⟨hD, fun i hi => by
    rcases hF i hi with h1 | h1
    · exact h.new i h1
    · exact Nat.le_trans h.below.size h1, h.below.trans (hk.toBelow h.below.size h.new)⟩
/-- A row of strings of the call's own, at an index. -/
theorem str_at {w : World} {base n : Nat} {v : Value} {K : List Nm} (h : w.ownsRow base 9 1 v n (K.map encStr)) {q : Nat} {x : Nm} (hx : K[q]? = some x) : ∃ g c, v = .slice (some ⟨g, 0, none⟩) n c ∧ w.cell? ⟨g, q, none⟩ = some (.string ⟨x.toArray⟩) := by
  have hl := (List.getElem?_eq_some_iff.1 hx).1
  have hn := h.1
  simp at hn
  rcases h.2 with ⟨_, h0⟩ | ⟨g, cap, cur, rfl, _⟩
  · omega
  · have e1 := h.cells (g := g) rfl q (encStr x) (by rw [List.getElem?_map, hx]; rfl)
    rw [Addr.add_mid] at e1
    simp only [Nat.zero_add, encStr] at e1
    exact ⟨g, cap, rfl, e1⟩

set_option maxHeartbeats 4000000 in
set_option maxRecDepth 100000 in
theorem diskCut_any (w : World) (A : Option Addr) (n c : Nat) (l : List OpV) (h : OpsIn w A n l) (acts : Int) (hacts : acts ≤ 9223372036854775807) (C : Option Addr) (kc cc : Nat) (cs : List Int) (hC : IntsIn w C kc cs) :
    Calls Try.prog 9 #[.slice A n c, .agg #[.int .i64 acts, .slice C kc cc]] w fun e w' => e = .returned (.bool true) ∧ Below w.heap.size w w' := by
  obtain ⟨i0, hi, hz0, hz1, hz2⟩ := info_parts strInfo
  have hn := h.len
  have hbig := h.big
  have hn2 : n ≤ 1599289641265 := by omega
  have hb0 : Below w.heap.size w (w.alloc (.cells #[.int .i64 acts, .slice C kc cc] 36)) := (Below.refl _ w).alloc (Nat.le_refl _) _
  have h0 := h.below hb0
  have hC0 := hC.below hb0
  have bx := Blk.new w 36 #[.int .i64 acts, .slice C kc cc]
  have HN := Lib.hid hn
  clear h hn hbig hC
  go_enter Try.func9, Try.ntmps9
  go_wp2_with fail
  refine calls_at ?_
  intro w0 hw0
  rw [← hw0] at h0 hC0 bx hb0
  clear hw0
  have hbl := bx.lt
  have H := Lib.hid h0
  have HC := Lib.hid hC0
  have BX := Lib.hid bx
  clear h0 hC0 bx
  refine (head_any w0).mono ?_
  rintro e w1 ⟨rfl, hb1⟩
  have hs1 := hb1.size
  go_wp2_with (go_at_call 30; refine (New_any _ _ (by decide)).mono ?_; rintro e w2 ⟨rfl, hD2, hb2⟩; have hb2' := hb1.trans (hb2.mono hs1); have M2 := Lib.hid (Mine.mk (w0 := w0) (w := w2) hD2 (fun i hi => by omega) hb2'); have hs2 := hb2'.size; have HB2 := Lib.hid hb2'; clear hD2 hb2 hb2'; unfold at0; generalize w1.heap.size + 2 = b at M2)
  refine (Great_any (H.out.below HB2.out) _).mono ?_
  rintro e w3 ⟨g, m3, rfl, rfl, hg⟩
  cases g with
  | true =>
    clear hg
    go_wp2
    go_ret
    exact ⟨rfl, below_q (hb0.trans (M2.out.below.mono (by omega))) m3⟩
  | false =>
    have HG := Lib.hid (hg rfl)
    clear hg
    have M3 := Lib.hid (M2.out.drewN m3)
    go_wp2
    go_loopw [7, 8] (fun v i wr => ∃ (k : Nat) (s : St) (F : Nat → Prop) (K : List Nm), k ≤ n ∧ i = .int .i64 k ∧ Mine w0 wr F b s ∧ Runs s k ∧ Known K s ∧ wr.ownsRow w0.heap.size 9 1 v K.length (K.map encStr) ∧ (∀ g, v.ownBlock = some g → ¬ F g) ∧ K.length ≤ 64 * k) (fun _ i _ => n - (intOf i).toNat)
    case atStart => exact ⟨0, _, _, [], Nat.zero_le _, rfl, M3.out, ⟨rfl, Nat.le_refl _, Nat.le_refl _⟩, (by intro m p hp; simp [St.new, effAll] at hp), World.ownsRow_nil _ _ _ _, (fun g hg => by simp [Value.ownBlock] at hg), by simp⟩
    case round =>
      obtain ⟨k, s, F, K, hk, rfl, hM, hR, hKn, hO, hN5, hKl⟩ := hrel
      by_cases hlt : k < n
      · have HL := HN.out
        cases A with
        | none => have := H.out.nil rfl; omega
        | some ad =>
          obtain ⟨o, ho⟩ : ∃ o, l[k]? = some o := ⟨_, List.getElem?_eq_getElem (by omega)⟩
          have hin := H.out.op o (List.mem_of_getElem? ho)
          have hF := hM.disk.size
          have hac := hR.acts
          have hch := hR.chs
          have hmid := hR.mid
          have hll : k ≤ 300 := by have := (HG.out).1; omega
          have c0 := (H.out.below hM.below).head ho
          have c1 := (H.out.below hM.below).field ho 0 rfl
          have c2 := (H.out.below hM.below).field ho 1 rfl
          have c3 := (H.out.below hM.below).field ho 2 rfl
          have c4 := (H.out.below hM.below).field ho 3 rfl
          have c5 := (H.out.below hM.below).field ho 4 rfl
          have HM := Lib.hid hM
          have HR := Lib.hid hR
          have HIN := Lib.hid hin
          have HMID := Lib.hid hmid
          have HKS := Lib.hid hKn
          have HO := Lib.hid hO
          have HN5 := Lib.hid hN5
          clear hM hR ho hin hmid HL hKn hO hN5
          obtain ⟨blk, off, sp⟩ := ad
          by_cases hw : o.what < 7
          · go_wp2_with fail
            refine (does_any HM.out.disk HMID.out (by omega) (by omega) o (HIN.out.below HM.out.below) (HM.out.awayB HIN.out) (HM.out.awayC HIN.out)).mono ?_
            rintro e w5 ⟨m, s', F', rfl, hst, hD5, hk5, hF5⟩
            have M5 := Lib.hid (HM.out.crash hD5 hF5 hk5)
            have O5 := Lib.hid (ownsRow_kept HO.out hk5 HN5.out)
            have HR5 := Lib.hid (hst.runs HR.out)
            have HKN := Lib.hid (HKS.out.turn (hst.chs hw) (hD5.wf.eff (hst.runs HR.out).mid))
            have N5 := Lib.hid (fun g (hg : u7.ownBlock = some g) (hf : F' g) => (hF5 g hf).elim (HN5.out g hg) (fun h1 => by have := (HO.out.lt g hg).2; omega))
            clear hst hD5 hk5 hF5 c0 c1 c2 c3 c4 c5 hF
            go_wp2_with fail
            refine (Names_any M5.out.disk).mono ?_
            rintro e w6 ⟨v6, rfl, hr6, hb6⟩
            have M6 := Lib.hid (M5.out.later hb6)
            have hs6 := hb6.size
            have O6 := Lib.hid (ownsRow_block O5.out (w' := w6) fun g hg => hb6.block g (O5.out.lt g hg).2)
            obtain ⟨A6, c6, hv6⟩ := own_slice hr6
            rw [hv6] at hr6 ⊢
            have R6 := Lib.hid (src_of_own hr6)
            have hl6 : s'.now.length ≤ 64 := M5.out.disk.wf.nnow
            clear hr6 hb6 hv6
            go_wp2_with (at_builtin; refine wpList_append_src _ rfl (.tmp 46) (.tmp 48) 49 rfl w0.heap.size 9 i0 (.string ⟨#[]⟩) 16 Try.underlying49 hi hz0 hz1 hz2 rfl _ K.length (K.map encStr) rfl O6.out A6 s'.now.length c6 (s'.now.map fun p => encStr p.1) rfl R6.out (enc_one _) (by unfold maxLen; omega) (by omega) M6.out.below.size ?_; intro v7 w7 hown7 hgrow7 hloc7)
            have hg7 : w6.grownBy w7 u7.ownBlock := hgrow7
            have hloc : v7.ownBlock = u7.ownBlock ∨ v7.ownBlock = some w6.heap.size := hloc7
            have M7 := Lib.hid (M6.out.grown hg7 (fun g hg => ⟨(O6.out.lt g hg).1, N5.out g hg⟩))
            have hF6 := M6.out.disk.size
            go_roundw
            case rel =>
              refine ⟨k + 1, s', F', K ++ nms s'.now, by omega, by go_num, M7.out, HR5.out, HKN.out, ?_, fun g hg => ?_, ?_⟩
              · have e1 : (K ++ nms s'.now).length = K.length + s'.now.length := by simp [nms]
                have e2 : (K ++ nms s'.now).map encStr = K.map encStr ++ s'.now.map fun p => encStr p.1 := by simp [nms, Function.comp_def]
                rw [e1, e2]
                exact hown7
              · rcases hloc with h1 | h1
                · exact N5.out g (h1 ▸ hg)
                · intro hf
                  have := hF6 g hf
                  rw [h1] at hg
                  injection hg with hg
                  omega
              · simp [nms]; omega
            case measure => simp [intOf]; omega
          · have M5 := HM
            have O5 := HO
            have HR5 := Lib.hid (show Runs s (k + 1) from ⟨HR.out.mid, Nat.le_succ_of_le HR.out.acts, Nat.le_succ_of_le HR.out.chs⟩)
            have HKN := Lib.hid (HKS.out.more (K' := K ++ nms s.now) (fun _ hx => List.mem_append.2 (.inl hx)))
            have N5 := HN5
            clear c1 c2 c3 c4 c5 hF
            obtain ⟨s', hs'⟩ : ∃ s', s' = s := ⟨_, rfl⟩
            subst hs'
            rename Nat → Prop => F'
            go_wp2_with fail
            refine (Names_any M5.out.disk).mono ?_
            rintro e w6 ⟨v6, rfl, hr6, hb6⟩
            have M6 := Lib.hid (M5.out.later hb6)
            have hs6 := hb6.size
            have O6 := Lib.hid (ownsRow_block O5.out (w' := w6) fun g hg => hb6.block g (O5.out.lt g hg).2)
            obtain ⟨A6, c6, hv6⟩ := own_slice hr6
            rw [hv6] at hr6 ⊢
            have R6 := Lib.hid (src_of_own hr6)
            have hl6 : s'.now.length ≤ 64 := M5.out.disk.wf.nnow
            clear hr6 hb6 hv6
            go_wp2_with (at_builtin; refine wpList_append_src _ rfl (.tmp 46) (.tmp 48) 49 rfl w0.heap.size 9 i0 (.string ⟨#[]⟩) 16 Try.underlying49 hi hz0 hz1 hz2 rfl _ K.length (K.map encStr) rfl O6.out A6 s'.now.length c6 (s'.now.map fun p => encStr p.1) rfl R6.out (enc_one _) (by unfold maxLen; omega) (by omega) M6.out.below.size ?_; intro v7 w7 hown7 hgrow7 hloc7)
            have hg7 : w6.grownBy w7 u7.ownBlock := hgrow7
            have hloc : v7.ownBlock = u7.ownBlock ∨ v7.ownBlock = some w6.heap.size := hloc7
            have M7 := Lib.hid (M6.out.grown hg7 (fun g hg => ⟨(O6.out.lt g hg).1, N5.out g hg⟩))
            have hF6 := M6.out.disk.size
            go_roundw
            case rel =>
              refine ⟨k + 1, s', F', K ++ nms s'.now, by omega, by go_num, M7.out, HR5.out, HKN.out, ?_, fun g hg => ?_, ?_⟩
              · have e1 : (K ++ nms s'.now).length = K.length + s'.now.length := by simp [nms]
                have e2 : (K ++ nms s'.now).map encStr = K.map encStr ++ s'.now.map fun p => encStr p.1 := by simp [nms, Function.comp_def]
                rw [e1, e2]
                exact hown7
              · rcases hloc with h1 | h1
                · exact N5.out g (h1 ▸ hg)
                · intro hf
                  have := hF6 g hf
                  rw [h1] at hg
                  injection hg with hg
                  omega
              · simp [nms]; omega
            case measure => simp [intOf]; omega
      · obtain rfl : k = n := by omega
        have hll : k ≤ 300 := by have := (HG.out).1; have := HN.out; omega
        have hcl : s.chs.length < 1099511627776 := by have := hR.chs; omega
        have hKK : K.length ≤ 19200 := by omega
        have HKS := Lib.hid hKn
        have HOV := Lib.hid hO
        have HN5 := Lib.hid hN5
        have HM := Lib.hid hM
        have hF := hM.disk.size
        have hwf := Lib.hid hM.disk.wf
        clear hM hR hKn hO hN5 hKl
        go_wp2_with fail
        refine (Files_any HM.out.disk).mono ?_
        rintro e w4 ⟨v4, rfl, hf4, hb4⟩
        obtain ⟨A4, c4, rfl⟩ := hf4.slice
        have hl4 : (filesOf s).length ≤ 64 := by simp only [filesOf, List.length_map]; exact hwf.out.nnow
        have M4 := Lib.hid (HM.out.later hb4)
        have OV4 := Lib.hid (ownsRow_block HOV.out (w' := w4) fun g hg => hb4.block g (HOV.out.lt g hg).2)
        have x0 := (BX.out.below M4.out.below hbl).cell 0
        have x1 := (BX.out.below M4.out.below hbl).cell 1
        simp at x0 x1
        clear hf4 hb4
        go_wp2_with fail
        have hC4 := HC.out.below M4.out.below
        refine (Crash_any M4.out.disk hcl acts hacts C kc cc cs hC4.2.1 (fun ad e h0 => ⟨hC4.2.2.2 ad e h0, M4.out.away HC.out.2.2.2 ad e h0⟩) hC4.2.2.1).mono ?_
        rintro e w5 ⟨rfl, ⟨F5, hD5, hF5⟩, hk5⟩
        have M5 := Lib.hid (M4.out.crash hD5 hF5 hk5)
        have OV5 := Lib.hid (ownsRow_kept OV4.out hk5 HN5.out)
        have hNN : ∀ g, u7.ownBlock = some g → ¬ F5 g := fun g hg hf => (hF5 g hf).elim (HN5.out g hg) (fun h1 => by have := (OV4.out.lt g hg).2; omega)
        have NN := Lib.hid hNN
        have hF5s := hD5.size
        clear hD5 hF5 hk5 x0 x1 hNN hC4
        go_wp2_with fail
        refine (Files_any M5.out.disk).mono ?_
        rintro e w6 ⟨v6, rfl, hf6, hb6⟩
        obtain ⟨A6, c6, rfl⟩ := hf6.slice
        have hl6 : (filesOf (s.crashed acts cs)).length ≤ 64 := by simp only [filesOf, List.length_map]; exact M5.out.disk.wf.nnow
        have M6 := Lib.hid (M5.out.later hb6)
        have OV6 := Lib.hid (ownsRow_block OV5.out (w' := w6) fun g hg => hb6.block g (OV5.out.lt g hg).2)
        have HF6 := Lib.hid hf6
        have x0 := (BX.out.below M6.out.below hbl).cell 0
        have x1 := (BX.out.below M6.out.below hbl).cell 1
        simp at x0 x1
        clear hf6 hb6
        go_wp2_with fail
        have hC6 := HC.out.below M6.out.below
        refine (Crash_any M6.out.disk (show (0 : Nat) < _ by decide) acts hacts C kc cc cs hC6.2.1 (fun ad e h0 => ⟨hC6.2.2.2 ad e h0, M6.out.away HC.out.2.2.2 ad e h0⟩) hC6.2.2.1).mono ?_
        rintro e w7 ⟨rfl, ⟨F7, hD7, hF7⟩, hk7⟩
        have M7 := Lib.hid (M6.out.crash hD7 hF7 hk7)
        have OV7 := Lib.hid (ownsRow_kept OV6.out hk7 NN.out)
        have HF7 := Lib.hid (HF6.out.kept hk7 hF5s)
        clear hD7 hF7 hk7 x0 x1 hC6
        go_wp2_with fail
        refine (Files_any M7.out.disk).mono ?_
        rintro e w8 ⟨v8, rfl, hf8, hb8⟩
        obtain ⟨A8, c8, rfl⟩ := hf8.slice
        have B8 := Lib.hid (M7.out.below.trans (hb8.mono M7.out.below.size))
        have OV8 := Lib.hid (ownsRow_block OV7.out (w' := w8) fun g hg => hb8.block g (OV7.out.lt g hg).2)
        have HF8 := Lib.hid hf8
        have HF9 := Lib.hid (HF7.out.below hb8)
        have hsame := Lib.hid (crash_again s acts cs (crashed_fit hwf.out acts cs))
        have hknown : ∀ x ∈ filesOf (s.crashed acts cs), x.1 ∈ K := fun x hx => by
          obtain ⟨p, hp, rfl⟩ := List.mem_map.1 hx
          exact HKS.out.crashed acts cs p hp
        have HKN := Lib.hid hknown
        rw [hsame.out] at HF8 ⊢
        generalize filesOf (s.crashed acts cs) = L at *
        clear hf8 hb8 hknown hF5s
        go_wp2
        go_loopw [12] (fun i wr => ∃ j m : Nat, j ≤ L.length ∧ i = .int .i64 j ∧ wr = w8.drewN m) (fun i _ => L.length - (intOf i).toNat)
        case atStart => exact ⟨0, 0, Nat.zero_le _, rfl, rfl⟩
        case round =>
          obtain ⟨j, m, hj, rfl, rfl⟩ := hrel
          by_cases hjl : j < L.length
          · obtain ⟨x, hx⟩ : ∃ x, L[j]? = some x := ⟨_, List.getElem?_eq_getElem hjl⟩
            obtain ⟨g6, sv, rfl, _, e1, _, _⟩ := HF9.out.at_ hx
            have e1' : ∀ q, (w8.drewN q).cell? ⟨g6, j * 2, none⟩ = some (.string ⟨x.1.toArray⟩) := fun _ => e1
            have hxK : K.any (· == x.1) = true := by
              rw [List.any_eq_true]
              exact ⟨x.1, HKN.out x (List.mem_of_getElem? hx), by simp⟩
            have HXK := Lib.hid hxK
            have hj0 : (0 : Int) ≤ j := by omega
            have hjl' : (j : Int) < L.length := by omega
            have lenK := (OV8.out.1)
            obtain ⟨AK, cK, hv7⟩ := own_slice OV8.out
            subst hv7
            clear e1 hx hxK lenK
            obtain ⟨x1, x2⟩ := x
            simp only at e1' HXK
            go_wp2
            go_loopw [13, 14] (fun b i wr => ∃ q m : Nat, q ≤ K.length ∧ i = .int .i64 q ∧ b = .bool ((K.take q).any (· == x1)) ∧ wr = w8.drewN m) (fun _ i _ => K.length - (intOf i).toNat)
            case atStart => exact ⟨0, m, Nat.zero_le _, rfl, rfl, rfl⟩
            case round =>
              obtain ⟨q, m', hq, rfl, rfl, rfl⟩ := hrel
              by_cases hql : q < K.length
              · obtain ⟨y, hy⟩ : ∃ y, K[q]? = some y := ⟨_, List.getElem?_eq_getElem hql⟩
                obtain ⟨gK, cK', hvK, f1⟩ := str_at OV8.out hy
                injection hvK with hAK _ hcK
                subst hAK hcK
                have f1' : ∀ q', (w8.drewN q').cell? ⟨gK, q, none⟩ = some (.string ⟨y.toArray⟩) := fun _ => f1
                have hq0 : (0 : Int) ≤ q := by omega
                have hql' : (q : Int) < K.length := by omega
                have hany : (K.take (q + 1)).any (· == x1) = ((K.take q).any (· == x1) || y == x1) := by rw [take_snoc' _ _ _ hy, List.any_append]; simp
                have HANY := Lib.hid hany
                clear f1 hy hany
                generalize hb : (K.take q).any (· == x1) = b at *
                cases b
                · go_wp2
                  go_quiet (fail)
                  go_wp2
                  go_roundw
                  case rel => exact ⟨q + 1, m' + nq, by omega, by go_num, by rw [HANY.out]; simp, rfl⟩
                  case measure => simp [intOf]; omega
                · go_wp2
                  go_quiet (fail)
                  go_wp2
                  go_roundw
                  case rel => exact ⟨q + 1, m' + nq, by omega, by go_num, by rw [HANY.out]; simp, rfl⟩
                  case measure => simp [intOf]; omega
              · obtain rfl : q = K.length := by omega
                rw [List.take_length, HXK.out]
                go_wp2
                go_roundw
                case rel => exact ⟨j + 1, m', by omega, by go_num, rfl⟩
                case measure => simp [intOf]; omega
          · obtain rfl : j = L.length := by omega
            have HF8m := Lib.hid (show FilesRow (w8.drewN m) w7.heap.size _ L from HF8.out)
            have HF9m := Lib.hid (show FilesRow (w8.drewN m) w5.heap.size _ L from HF9.out)
            go_wp2_with fail
            refine (SameFiles_any HF9m.out HF8m.out (by omega)).mono ?_
            rintro e w9 ⟨rfl, m9, rfl⟩
            rw [decide_eq_true (rfl : L = L)]
            have hle : ((filesOf s).length : Int) ≤ 64 := by omega
            go_wp2
            go_ret
            exact ⟨rfl, below_q (hb0.trans (B8.out.mono (by omega))) (m + m9)⟩
end Go.Proofs.Yteaeniopfbglnaa
