/- The coder's answers, in named parts. What all laws of bpe ask first. -/
import Derived.Test.YtimbimnbaoaboaaENew2
import Derived.Test.YtimbimnbaoaboaaEDec
import Derived.Test.YtimbimnbaoaboaaEEnc
import Derived.Test.YtimbimnbaoaboaaEOf
namespace Go.Proofs.Ytimbimnbaoaboaa
open Go.RowKit Go.Maps Go.WideMaps
set_option linter.unusedSimpArgs false

def TokI (V : Voc) (x : Int) : Prop := 0 ≤ x ∧ x < V.tok.length
theorem VOk.to_in {V : Voc} (h : VOk V) {k : Nat} (hk : k < V.mer.length) : TokI V (toOf V.mer k) := by
  have hm : V.mer[k]? = some V.mer[k] := List.getElem?_eq_getElem hk
  have h1 := ((merOk_iff hm).1 (h.mer k hk)).1
  have e : toOf V.mer k = V.mer[k].t := by simp [toOf, List.getD_eq_getElem?_getD, hm]
  rw [e]
  exact ⟨h1.2.2.2.2.1, h1.2.2.2.2.2⟩
theorem mem_mergeAt {l : List Int} {i : Nat} {t x : Int} (h : x ∈ mergeAt l i t) : x ∈ l ∨ x = t := by
  unfold mergeAt at h
  rcases List.mem_append.1 h with h | h
  · exact .inl (List.mem_of_mem_take h)
  · rcases List.mem_cons.1 h with h | h
    · exact .inr h
    · exact .inl (List.mem_of_mem_drop h)
theorem VOk.enc_in {V : Voc} (h : VOk V) (s : Nm) : ∀ x ∈ encL V.mer s, TokI V x := by
  unfold encL
  refine encRun_keeps (M := V.mer) (Q := fun l => ∀ x ∈ l, TokI V x) ?_ _ _ ?_
  · intro l i k hl hk x hx
    obtain ⟨a, b, _, _, h3⟩ := pairRk_some hk
    rcases mem_mergeAt hx with h4 | h4
    · exact hl x h4
    · rw [h4]
      exact h.to_in (rkOf_lt h3).1
  · intro x hx
    obtain ⟨c, _, rfl⟩ := List.mem_map.1 hx
    have := h.long
    have := c.toNat_lt
    exact ⟨by omega, by omega⟩
theorem VOk.encR_in {V : Voc} (h : VOk V) (s : Nm) : ∀ x ∈ encR V.mer s, TokI V x := by
  unfold encR
  split
  · intro x hx; cases hx
  · exact h.enc_in s
theorem VOk.s16 {V : Voc} (h : VOk V) : ∀ x ∈ V.tok, x.length ≤ 4096 := fun x hx => by have := h.short x hx; omega
theorem encR_len (M : List Mg) (s : Nm) : (encR M s).length ≤ 4096 := by
  unfold encR
  split
  · exact Nat.zero_le _
  · have := encL_len M s; omega
theorem VOk.fit {V : Voc} (h : VOk V) {x : Int} (hx : TokI V x) : -9223372036854775808 ≤ x ∧ x ≤ 9223372036854775807 := by have := h.tl; have := hx.1; have := hx.2; omega

/-- A list, and an errno. -/
def ListIs (w : World) (l : List Int) (k : Nat) (r : Int) (e : Ending) (w' : World) : Prop :=
  ∃ A c, e = .returned (.tuple #[.slice A k c, .int .i64 r]) ∧ IntsIn w' A k l ∧ k ≤ c ∧ Below w.heap.size w w'
def TextIs (w : World) (s : Nm) (k : Nat) (r : Int) (e : Ending) (w' : World) : Prop :=
  ∃ A c, e = .returned (.tuple #[.slice A k c, .int .i64 r]) ∧ BytesIn w' A k s ∧ k ≤ c ∧ Below w.heap.size w w'
theorem ListOut.is {w w' : World} {l : List Int} {r : Int} {e : Ending} {k : Nat} (h : ListOut w l r e w') (hk : l.length = k) (hn : k ≤ 1099511627776) (hf : ∀ x ∈ l, -9223372036854775808 ≤ x ∧ x ≤ 9223372036854775807) : ListIs w l k r e w' := by
  obtain ⟨v, rfl, h1, h2⟩ := h
  obtain ⟨A, c, rfl, hc⟩ := own_cap h1
  subst hk
  exact ⟨A, c, rfl, IntsIn.own h1 (by unfold maxLen; omega) hf, hc, h2⟩
theorem BytesOut.is {w w' : World} {s : Nm} {r : Int} {e : Ending} {k : Nat} (h : BytesOut w s r e w') (hk : s.length = k) (hn : k ≤ 1099511627776) : TextIs w s k r e w' := by
  obtain ⟨v, rfl, h1, h2⟩ := h
  obtain ⟨A, c, rfl, hc⟩ := own_cap h1
  subst hk
  exact ⟨A, c, rfl, BytesIn.own h1 (by unfold maxLen; omega), hc, h2⟩
theorem decT_le {L : List Nm} {l : List Int} (h : walkE L l = 0) : (decT L l).length ≤ 4096 := by
  unfold walkE at h
  split at h
  · split at h
    · omega
    · omega
  · omega
theorem decR_len (L : List Nm) (l : List Int) : (decR L l).length ≤ 4096 := by
  unfold decR
  split
  · exact decT_le (by assumption)
  · exact Nat.zero_le _
theorem startsR_fit (L : List Nm) (l : List Int) : ∀ x ∈ startsR L l, 0 ≤ x ∧ x ≤ 4096 := by
  unfold startsR
  split
  · rename_i h
    intro x hx
    obtain ⟨j, hj, rfl⟩ := List.mem_map.1 hx
    have h1 := textUp_mono L l (Nat.le_of_lt (List.mem_range.1 hj))
    have h2 := decT_le h
    unfold decT at h2
    exact ⟨by omega, by omega⟩
  · intro x hx; cases hx
theorem startsR_len {L : List Nm} {l : List Int} : (startsR L l).length ≤ l.length := by
  unfold startsR
  split
  · rw [startsUp_len]; exact Nat.le_refl _
  · exact Nat.zero_le _
theorem encode_is (w : World) (b : Nat) (V : Voc) (hC : Coder w b V) (hO : VOk V) (A : Option Addr) (n c : Nat) (s : Nm) (hs : BytesIn w A n s) {l : List Int} {k : Nat} {r : Int} (hl : encR V.mer s = l) (hk : l.length = k) (hr : encE s = r) :
    Calls Try.prog 12 #[.pointer (some ⟨b, 0, none⟩), .slice A n c] w (ListIs w l k r) := by
  refine (encode_any w b V hC (by have := hO.ml; omega) A n c s hs).mono ?_
  intro e w' h
  rw [hl, hr] at h
  exact h.is hk (by have := encR_len V.mer s; rw [hl] at this; omega) (fun x hx => hO.fit (hO.encR_in s x (hl ▸ hx)))
theorem decode_is (w : World) (b : Nat) (V : Voc) (hC : Coder w b V) (hO : VOk V) (C : Option Addr) (p c : Nat) (l : List Int) (hl : IntsIn w C p l) {s : Nm} {k : Nat} {r : Int} (hs : decR V.tok l = s) (hk : s.length = k) (hr : walkE V.tok l = r) :
    Calls Try.prog 14 #[.pointer (some ⟨b, 0, none⟩), .slice C p c] w (TextIs w s k r) := by
  refine (decode_any w b V hC hO.s16 C p c l hl).mono ?_
  intro e w' h
  rw [hs, hr] at h
  exact h.is hk (by have := decR_len V.tok l; rw [hs] at this; omega)
theorem starts_is (w : World) (b : Nat) (V : Voc) (hC : Coder w b V) (hO : VOk V) (C : Option Addr) (p c : Nat) (l : List Int) (hl : IntsIn w C p l) (hp : p ≤ 1099511627776) {s : List Int} {k : Nat} {r : Int} (hs : startsR V.tok l = s) (hk : s.length = k) (hr : walkE V.tok l = r) :
    Calls Try.prog 16 #[.pointer (some ⟨b, 0, none⟩), .slice C p c] w (ListIs w s k r) := by
  refine (starts_any w b V hC hO.s16 C p c l hl hp).mono ?_
  intro e w' h
  rw [hs, hr] at h
  exact h.is hk (by have := startsR_len (L := V.tok) (l := l); rw [hs, hl.len] at this; omega) (fun x hx => by have := startsR_fit V.tok l x (hs ▸ hx); omega)
/-- New of what Of has made. -/
theorem new_is (w : World) (A B : Option Addr) (n m ca cb : Nat) (V : Voc) (hV : VocSee w A B n m ca cb V) (hO : VOk V) :
    Calls Try.prog 11 #[.agg #[.slice A n ca, .slice B m cb]] w fun e w' => ∃ b, e = .returned (.pointer (some ⟨b, 0, none⟩)) ∧ Below w.heap.size w w' ∧ Coder w' b V :=
  new_any w A B n m ca cb V hV hO
theorem of_is (w : World) (A : Option Addr) (n c : Nat) (l : List (Int × Int)) (hl : PairsIn w A n l) (hn : n ≤ 1048576) (hc : n ≤ c) {V : Voc} (hv : ofV l = V) :
    Calls Try.prog 10 #[.slice A n c] w fun e w' => ∃ A B n m ca cb, e = .returned (.agg #[.slice A n ca, .slice B m cb]) ∧ VocSee w' A B n m ca cb V ∧ Below w.heap.size w w' := by
  have := r6Of_any w A n c l hl hn hc
  rw [hv] at this
  exact this
end Go.Proofs.Ytimbimnbaoaboaa
namespace Go.Proofs.Ytimbimnbaoaboaa
open Go.RowKit Go.Maps Go.WideMaps
set_option linter.unusedSimpArgs false

theorem ints_row {w : World} {g n : Nat} {l : List Int} {t : TypeId} {fr : Nat × Nat} (h : w.heap[g]? = some (.cells (l.map i64V).toArray t fr)) (hn : l.length = n) (h63 : n ≤ maxLen) (hf : ∀ x ∈ l, -9223372036854775808 ≤ x ∧ x ≤ 9223372036854775807) : IntsIn w (some ⟨g, 0, none⟩) n l := by
  refine ⟨h63, ⟨by simpa using hn, fun ad e j u hu => ?_, fun e => by cases e⟩, hf, fun ad e _ => ?_⟩
  · cases e
    rw [addr_add, cell_of_row w g j _ t fr h]
    simpa using hu
  · cases e
    rcases Nat.lt_or_ge g w.heap.size with h1 | h1
    · exact h1
    · rw [Array.getElem?_eq_none h1] at h; cases h
theorem at_one {w : World} {ad : Addr} {v : Value} (h : w.cell? (ad.add 1) = some v) : w.cell? ⟨ad.block, ad.off + 1, none⟩ = some v := by
  have e : ad.add 1 = ⟨(ad.add 0).block, (ad.add 0).off + 1, none⟩ := add_pos' ad 0 1 (by omega)
  have e0 : ad.add 0 = ad := by simp [Addr.add]
  rw [e, e0] at h
  exact h
theorem pairs_one (w : World) (a b : Int) (ha : fits64 a) (hb : fits64 b) : PairsIn (w.alloc (.cells #[.int .i64 a, .int .i64 b] 49)) (some ⟨w.heap.size, 0, none⟩) 1 [(a, b)] where
  len := rfl
  fit := by unfold maxLen; omega
  vals := fun p hp => by
    simp only [List.mem_cons, List.not_mem_nil, or_false] at hp
    subst hp
    exact ⟨ha, hb⟩
  nil := fun e => by cases e
  cells := fun ad e i p hp => by
    cases e
    have hn := Blk.new w 49 #[.int .i64 a, .int .i64 b]
    rw [addr_add, addr_add, hn.cell, hn.cell]
    match i with
    | 0 => simp at hp; subst hp; exact ⟨rfl, rfl⟩
    | i + 1 => simp at hp
abbrev he1 : List (Int × Int) := [(97, 98)]
theorem hd1 : encR (ofV he1).mer [97, 97, 98] = [97, 256] := by decide +kernel
theorem hd2 : walkE (ofV he1).tok [256, 97] = 0 := by decide +kernel
theorem hd3 : decR (ofV he1).tok [256, 97] = [97, 98, 97] := by decide +kernel
theorem hd4 : startsR (ofV he1).tok [256, 97] = [0, 2] := by decide +kernel
theorem hd5 : walkE (ofV he1).tok [257] = 1 := by decide +kernel
theorem hd6 : decR (ofV he1).tok [257] = [] := by decide +kernel
theorem hbnE : checkV ⟨[], []⟩ ≠ 0 := by decide +kernel
set_option maxHeartbeats 8000000 in
set_option maxRecDepth 100000 in
theorem bpeHead_any (w : World) : Calls Try.prog 9 #[] w fun e w' => e = .returned (.bool true) ∧ Below w.heap.size w w' := by
  have HIN := Lib.hid (pairs_one w 97 98 ⟨by decide, by decide⟩ ⟨by decide, by decide⟩)
  obtain ⟨V, hV⟩ : ∃ V, V = ofV he1 := ⟨_, rfl⟩
  have HO := Lib.hid (ofV_ok he1)
  have H1 := Lib.hid hd1
  have H2 := Lib.hid hd2
  have H3 := Lib.hid hd3
  have H4 := Lib.hid hd4
  have H5 := Lib.hid hd5
  have H6 := Lib.hid hd6
  have HV := Lib.hid hV
  rw [← hV] at HO H1 H2 H3 H4 H5 H6
  clear hV
  go_enter Try.func9, Try.ntmps9
  go_wp2_with fail
  refine (of_is _ _ 1 1 he1 HIN.out (by omega) (by omega) HV.out.symm).mono ?_
  rintro e w1 ⟨A, B, n, m, ca, cb, rfl, hsee, hb⟩
  have HB1 := Lib.hid (below_then ((Below.refl _ w).alloc (Nat.le_refl _) _) hb (by simp))
  have HSEE := Lib.hid hsee
  clear hb hsee HIN
  go_wp2_with fail
  refine (new_is w1 A B n m ca cb V HSEE.out HO.out).mono ?_
  rintro e w2 ⟨b, rfl, hb, hC⟩
  have HB2 := Lib.hid (below_then HB1.out hb HB1.out.size)
  have HC2 := Lib.hid hC
  clear hb hC
  have hnn := new_none w2 none none 0 0 0 0 ⟨[], []⟩ (VocSee.nil w2) hbnE
  unfold vocV at hnn
  have HNN := Lib.hid hnn
  clear hnn
  go_wp2_with fail
  refine HNN.out.mono ?_
  rintro e w3 ⟨rfl, hb⟩
  have HB3 := Lib.hid (below_then HB2.out hb HB2.out.size)
  have HC3 := Lib.hid (HC2.out.below hb)
  clear hb
  have hcb := const_bytes w3 #[.int .u8 97, .int .u8 97, .int .u8 98] 3 3
  go_wp2_with fail
  clear hcb
  have HT4 := Lib.hid (const_in w3 [97, 97, 98] (3, 4) (by unfold maxLen; decide))
  refine (encode_is _ b V (HC3.out.below ((Below.refl _ w3).alloc (Nat.le_refl _) _)) HO.out _ 3 3 [97, 97, 98] HT4.out H1.out (k := 2) rfl (r := 0) rfl).mono ?_
  rintro e w4 ⟨A4, c4, rfl, hl4, _, hb⟩
  have hb' := below_then ((Below.refl _ w3).alloc (Nat.le_refl _) _) hb (by simp)
  have HB4 := Lib.hid (below_then HB3.out hb' HB3.out.size)
  have HC4 := Lib.hid (HC3.out.below hb')
  have HL4 := Lib.hid hl4
  clear hb hb' hl4 HT4
  go_wp2_with fail
  have HT5 := Lib.hid (ints_row (l := [256, 97]) (n := 2) (Blk.new w4 3 #[.int .i64 256, .int .i64 97]) rfl (by unfold maxLen; omega) (by decide))
  refine (decode_is _ b V (HC4.out.below ((Below.refl _ w4).alloc (Nat.le_refl _) _)) HO.out _ 2 2 [256, 97] HT5.out H3.out (k := 3) rfl H2.out).mono ?_
  rintro e w5 ⟨A5, c5, rfl, hl5, _, hb⟩
  have hb' := below_then ((Below.refl _ w4).alloc (Nat.le_refl _) _) hb (by simp)
  have HB5 := Lib.hid (below_then HB4.out hb' HB4.out.size)
  have HC5 := Lib.hid (HC4.out.below hb')
  have HL5 := Lib.hid (HL4.out.below hb')
  have HS5 := Lib.hid hl5
  clear hb hb' hl5 HT5
  go_wp2_with fail
  have HT6 := Lib.hid (ints_row (l := [256, 97]) (n := 2) (Blk.new w5 3 #[.int .i64 256, .int .i64 97]) rfl (by unfold maxLen; omega) (by decide))
  refine (starts_is _ b V (HC5.out.below ((Below.refl _ w5).alloc (Nat.le_refl _) _)) HO.out _ 2 2 [256, 97] HT6.out (by omega) H4.out (k := 2) rfl H2.out).mono ?_
  rintro e w6 ⟨A6, c6, rfl, hl6, _, hb⟩
  have hb' := below_then ((Below.refl _ w5).alloc (Nat.le_refl _) _) hb (by simp)
  have HB6 := Lib.hid (below_then HB5.out hb' HB5.out.size)
  have HC6 := Lib.hid (HC5.out.below hb')
  have HL6 := Lib.hid (HL5.out.below hb')
  have HS6 := Lib.hid (HS5.out.below hb')
  have HK6 := Lib.hid hl6
  clear hb hb' hl6 HT6
  go_wp2_with fail
  have HT7 := Lib.hid (ints_row (l := [257]) (n := 1) (Blk.new w6 3 #[.int .i64 257]) rfl (by unfold maxLen; omega) (by decide))
  refine (decode_is _ b V (HC6.out.below ((Below.refl _ w6).alloc (Nat.le_refl _) _)) HO.out _ 1 1 [257] HT7.out H6.out (k := 0) rfl H5.out).mono ?_
  rintro e w7 ⟨A7, c7, rfl, _, _, hb⟩
  have hb' := below_then ((Below.refl _ w6).alloc (Nat.le_refl _) _) hb (by simp)
  have HB7 := Lib.hid (below_then HB6.out hb' HB6.out.size)
  obtain ⟨ad, x, rfl, e1, l0, -, -⟩ := (HL6.out.below hb').at 0 (by omega)
  obtain ⟨ad', x', e0, e2, l1, -, -⟩ := (HL6.out.below hb').at 1 (by omega)
  cases e0
  cases e1
  cases e2
  obtain ⟨ak, y, rfl, e1, k1, -, -⟩ := (HK6.out.below hb').at 1 (by omega)
  cases e1
  have hst := str_of (HS6.out.below hb') c5
  have hst' : (convert 23 9 (.slice A5 3 c5)).run Try.prog w7 = .ok (.string ⟨#[97, 98, 97]⟩) w7 := hst
  have l0' : w7.cell? ad = some (.int .i64 97) := by simpa [Addr.add] using l0
  have l1' := at_one l1
  have k1' := at_one k1
  clear hb hb' HT7 hst
  go_wp2_with fail
  go_ret
  exact ⟨rfl, HB7.out⟩
end Go.Proofs.Ytimbimnbaoaboaa
