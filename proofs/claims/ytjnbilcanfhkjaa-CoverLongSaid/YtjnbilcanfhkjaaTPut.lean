/- The contracts of put and find. -/
import Derived.Test.YtjnbilcanfhkjaaTOps
namespace Go.Proofs.Ytjnbilcanfhkjaa
open Go.RowKit Go.Maps Go.WideMaps Go.Shelf

attribute [local go_sem] Oper.semAt_some

set_option maxHeartbeats 2000000 in
set_option maxRecDepth 100000 in
theorem cloneInt_any (w : World) (A : Option Addr) (n c : Nat) (l : List Int) (hl : w.ownsRow 0 3 1 (.slice A n c) n (l.map i64V)) (hn : n ≤ 1099511627776) :
    Calls Try.prog 70 #[.slice A n c] w fun e w' => ∃ v, e = .returned v ∧ w'.ownsRow w.heap.size 3 1 v n (l.map i64V) ∧ Below w.heap.size w w' := by
  obtain ⟨i0, hi, hz0, hz1, hz2⟩ := info_parts intInfoI
  have q22 : ∀ (w : World) (a : Option Addr) (n c n' c' : Nat), (binOp .eql 24 (.slice a n c) (.slice none n' c')).run Try.prog w = .ok (.bool a.isNone) w := fun w a n c n' c' => Lib.run_eql_slice_nil w _ _ a n c n' c' Try.underlying24
  have hsrc := src_of_own (hl.alloc (.cells #[] 3))
  have hlen : l.length = n := by have := hsrc.len; simpa using this
  cases A with
  | none =>
    have h0 := hsrc.nil rfl
    have hx : l = [] := List.eq_nil_of_length_eq_zero (by omega)
    subst h0 hx
    clear hl hsrc
    go_enter Try.func70, Try.ntmps70
    go_wp2
    go_ret
    exact ⟨_, rfl, ⟨rfl, .inl ⟨rfl, rfl⟩⟩, Below.refl _ _⟩
  | some ad =>
    have HS := Lib.hid hsrc
    clear hl hsrc hlen
    go_enter Try.func70, Try.ntmps70
    go_wp2_with (at_builtin; refine wpList_append_src _ rfl (.tmp 5) (.tmp 6) 24 rfl w.heap.size 3 i0 (.int .i64 0) 8 Try.underlying24 hi hz0 hz1 hz2 rfl _ 0 [] rfl (World.ownsRow_made w #[] 0 (Nat.le_refl _) (Nat.zero_le _) rfl) (some ad) n c (l.map i64V) rfl HS.out (i64V_one l) (by unfold maxLen; omega) (by omega) (by simp) ?_; intro v w2 hown hgrow hloc; rw [Nat.zero_add, List.nil_append] at hown; have HO := Lib.hid hown; have HB : Hid (Below w.heap.size w w2) := Lib.hid ((((Below.refl _ w).alloc (Nat.le_refl _) (.cells #[] 3)).grown hgrow (by simp) (fun k e => by cases e; exact Nat.le_refl _))); clear hown hgrow hloc)
    go_ret
    exact ⟨_, rfl, HO.out, HB.out⟩

theorem list_any {w : World} {b : Nat} {T : Lay} {X : Key → List Int} {M : Nat} (hF : Forest w b T X M) {k : Key} {g o : Nat} (hk : T.ad k = some (g, o)) (hM : M ≤ 10000000) :
    Calls Try.prog 63 #[.pointer (some ⟨g, o, none⟩)] w (IdxOut w (X k)) := by
  obtain ⟨v, mv, hn⟩ := hF.node k g o hk
  obtain ⟨A, c, rfl⟩ := own_slice hn.own
  have c0 := hn.c0
  have hcl := cloneInt_any w A _ c (X k) hn.own (by have := hn.few; omega)
  have HCL := Lib.hid hcl
  clear hF hn hk hcl
  go_enter Try.func63, Try.ntmps63
  go_wp2_with fail
  refine HCL.out.mono ?_
  rintro e w2 ⟨v, rfl, ho, hb⟩
  have HO := Lib.hid ho
  have HB := Lib.hid hb
  clear ho hb
  go_wp2
  go_ret
  exact ⟨_, rfl, HO.out, HB.out⟩

/-- What the tries hold when a text has left an index at the first nodes of its way. -/
def putUp (X : Key → List Int) (t : Nat) (ys : Nm) (i : Int) : Nat → Key → List Int
  | 0 => upd X (t, []) (addI i (X (t, [])))
  | j + 1 => upd (putUp X t ys i j) (t, ys.take (j + 1)) (addI i (putUp X t ys i j (t, ys.take (j + 1))))

theorem Kept.putObj {F : Nat → Prop} {a w : World} (h : Kept F a w) {l : Nat} (hl : F l ∨ a.heap.size ≤ l) (o : Obj) : Kept F a (w.putObj l o) :=
  ⟨h.os, h.tape, h.output, by simpa using h.size, fun k hk hn => (World.putObj_heap_other (by
    rintro rfl
    rcases hl with hl | hl
    · exact hn hl
    · omega)).trans (h.block k hk hn)⟩

/-- Between two rounds of put. -/
def PutInv (w : World) (b : Nat) (T : Lay) (X : Key → List Int) (M B t i : Nat) (ys : Nm) (j : Nat) (W : World) : Prop :=
  ∃ T' g o, Forest W b T' (putUp X t ys i j) (M + (2 * j + 1)) ∧ Ext w T T' ∧ Kept T.foot w W ∧ T'.ad (t, ys.take j) = some (g, o) ∧ Blk W w.heap.size 86 #[.pointer (some ⟨g, o, none⟩)] ∧ Blk W (w.heap.size + 1) 3 #[.int .i64 (i : Int)] ∧
    (∀ k, k = w.heap.size ∨ k = w.heap.size + 1 ∨ k = B ∨ k = B + 1 → ¬ T'.foot k) ∧ w.heap.size + 2 ≤ B ∧ B + 2 ≤ W.heap.size
theorem Forest.setFar {w : World} {b : Nat} {T : Lay} {X : Key → List Int} {M : Nat} (h : Forest w b T X M) {a : Addr} (ha : ¬ T.foot a.block) (v : Value) : Forest (w.setCell a v) b T X M :=
  h.keep (by rw [size_setCell']; exact Nat.le_refl _) fun j r e => heap_setCell_other w a v fun e2 => ha (by rw [← e2]; exact ⟨r, e⟩)
theorem Blk.putObj {w : World} {g : Nat} {t : TypeId} {cs : Array Value} (h : Blk w g t cs) {l : Nat} (hl : g ≠ l) (o : Obj) : Blk (w.putObj l o) g t cs := (World.putObj_heap_other hl).trans h
theorem PutInv.put {w : World} {b : Nat} {T : Lay} {X : Key → List Int} {M B t i : Nat} {ys : Nm} {j : Nat} {W : World} (h : PutInv w b T X M B t i ys j W) (o : Obj) : PutInv w b T X M B t i ys j (W.putObj (B + 1) o) := by
  obtain ⟨T', g, o', h1, h2, h3, h4, h5, h6, h7, h8, h9⟩ := h
  exact ⟨T', g, o', h1.putObj (h7 _ (.inr (.inr (.inr rfl)))) o, h2, h3.putObj (.inr (by omega)) o, h4, h5.putObj (by omega) o, h6.putObj (by omega) o, h7, h8, by simpa using h9⟩
theorem take_kid (t : Nat) (ys : Nm) {j : Nat} (hj : j < ys.length) : Key.kid (t, ys.take j) (ys.getD j 0) = (t, ys.take (j + 1)) := by
  unfold Key.kid
  rw [List.take_add_one, List.getD_eq_getElem?_getD, List.getElem?_eq_getElem hj]
  rfl
theorem foot_grown {w : World} {T T' : Lay} (h : Ext w T T') {k : Nat} (hk : k < w.heap.size) (hn : ¬ T.foot k) : ¬ T'.foot k := fun ⟨r, e⟩ => by
  rcases h.new k r e with e2 | e2
  · exact hn ⟨r, e2⟩
  · omega
theorem foot_back {w : World} {T T' : Lay} (h : Ext w T T') (k : Nat) (hk : k < w.heap.size) (hf : T'.foot k) : T.foot k := by
  obtain ⟨r, e⟩ := hf
  rcases h.new k r e with e2 | e2
  · exact ⟨r, e2⟩
  · omega

set_option maxHeartbeats 4000000 in
set_option maxRecDepth 100000 in
theorem put_any {w : World} {b : Nat} {T : Lay} {X : Key → List Int} {M : Nat} (hF : Forest w b T X M) {t g o : Nat} (hk : T.ad (t, []) = some (g, o)) {gf : Nat} {lb : Array Value} {ys : Nm} {ix : Nat → Int} {Rd : World → Prop}
    (hit : IterOk gf lb ys ix Rd) (hRd : ∀ w', Kept T.foot w w' → Rd w') (i : Nat) (hy : ys.length ≤ 1000) (hM : M ≤ 9000000) :
    Calls Try.prog 38 #[.pointer (some ⟨g, o, none⟩), .func (.func gf) #[] lb, .int .i64 i] w fun e w' => (∃ v, e = .returned v) ∧ ∃ T', Forest w' b T' (putUp X t ys i ys.length) (M + (2 * ys.length + 1)) ∧ Ext w T T' ∧ Kept T.foot w w' := by
  obtain ⟨W0, hW0⟩ : ∃ W0, W0 = (w.alloc (.cells #[.pointer (some ⟨g, o, none⟩)] 86)).alloc (.cells #[.int .i64 (i : Int)] 3) := ⟨_, rfl⟩
  have hsz : W0.heap.size = w.heap.size + 2 := by rw [hW0]; simp
  have b1 : Blk W0 w.heap.size 86 #[.pointer (some ⟨g, o, none⟩)] := by rw [hW0]; exact (Blk.new w _ _).alloc _
  have b2 : Blk W0 (w.heap.size + 1) 3 #[.int .i64 (i : Int)] := by
    have := Blk.new (w.alloc (.cells #[.pointer (some ⟨g, o, none⟩)] 86)) 3 #[.int .i64 (i : Int)]
    rw [World.size_alloc] at this
    rw [hW0]
    exact this
  have hF0 : Forest W0 b T X M := by rw [hW0]; exact (hF.alloc _).alloc _
  have hK0 : Kept T.foot w W0 := by rw [hW0]; exact ((Kept.refl _ w).alloc _).alloc _
  have hmx : Try.prog.follows .mixedOrders = true := by kernel_rfl
  have hadd := add_any (hF0.drewN 1) hk i (by omega)
  have HIT := Lib.hid hit
  refine (callsIn_wide (n := 5)).1 ?_
  refine callsIn_of_wp_marks Try.func38 rfl trivial ?_ rfl
  simp only [Try.ntmps38, List.size_toArray, List.length_cons, List.length_nil, Nat.reduceAdd, Nat.reduceSub, Array.replicate_succ, Array.replicate_zero, List.push_toArray, List.append_toArray, List.nil_append, List.cons_append]
  have e1 : W0.cell? ⟨w.heap.size, 0, none⟩ = some (.pointer (some ⟨g, o, none⟩)) := b1.cell 0
  have e2 : W0.cell? ⟨w.heap.size + 1, 0, none⟩ = some (.int .i64 (i : Int)) := b2.cell 0
  have HHF := Lib.hid hF
  have HF0 := Lib.hid hF0
  have HK0 := Lib.hid hK0
  have HB1 := Lib.hid b1
  have HB2 := Lib.hid b2
  have HSZ := Lib.hid hsz
  have HRD := Lib.hid hRd
  have HK := Lib.hid hk
  have HADD := Lib.hid hadd
  have HW0 := Lib.hid hW0
  clear hF hF0 hK0 b1 b2 hsz hRd hit hk hW0 hadd
  gi_wp2
  rw [← HW0.out]
  refine wpIn_mono (Q := Exit.then (fun a w' => ∃ v12, a = { tmps := #[.pointer (some ⟨g, o, none⟩), .func (.func gf) #[] lb, .int .i64 i, .pointer (some ⟨w.heap.size, 0, none⟩), undef, .pointer (some ⟨w.heap.size + 1, 0, none⟩), undef, undef, .pointer (some ⟨g, o, none⟩), .pointer (some ⟨g, o, none⟩), .pointer (some ⟨g, o, none⟩), .int .i64 i, v12, undef, undef, undef, undef, undef, undef, undef, undef, undef, undef, undef], defers := [] } ∧ ∃ T', Forest w' b T' (upd X (t, []) (addI i (X (t, [])))) (M + 1) ∧ Ext W0 T T' ∧ Kept T.foot W0 w' ∧ T'.ad = T.ad) (fun _ _ _ => False)) ?reg ?rest
  case reg =>
    gi_region_with_o (refine ⟨trivial, ?_⟩; gi_at_call 47; refine (callsIn_wide.2 HADD.out).mono ?_; rintro e w2 ⟨⟨v, rfl⟩, T2, h1, h2, h3, h4⟩)
    all_goals exact ⟨_, rfl, T2, h1, ⟨h2.lab, h2.new, h2.ad⟩, ((Kept.refl _ _).drewN 1).trans h3 fun _ _ h => h, h4⟩
  case rest =>
    rintro e a W1 hq
    cases e <;> try exact hq.elim
    obtain ⟨v12, rfl, T1, h1, h2, h3, h4⟩ := hq
    have hsz := HSZ.out
    have hlt := HHF.out.lt
    have n0 : ¬ T.foot w.heap.size := fun ⟨r, e⟩ => by have := hlt _ r e; omega
    have n1 : ¬ T.foot (w.heap.size + 1) := fun ⟨r, e⟩ => by have := hlt _ r e; omega
    have hs1 := h3.size
    have hj0 : ∀ r, PutInv w b T X M W1.heap.size t i ys 0 ((W1.alloc (.deferred (some []))).alloc (.loop r)) := fun r => by
      refine ⟨T1, g, o, (h1.alloc _).alloc _, ⟨h2.lab, fun j r e => ?_, h2.ad⟩, ((HK0.out.trans h3 fun _ _ h => h).alloc _).alloc _, by rw [h4]; exact HK.out, ((HB1.out.kept h3 n0).alloc _).alloc _, ((HB2.out.kept h3 n1).alloc _).alloc _, ?_, by omega, by simp⟩
      · rcases h2.new j r e with e | e
        · exact .inl e
        · exact .inr (by omega)
      · rintro k (rfl | rfl | rfl | rfl)
        · exact foot_grown h2 (by omega) n0
        · exact foot_grown h2 (by omega) n1
        · exact fun ⟨r, e⟩ => by have := h1.lt _ r e; omega
        · exact fun ⟨r, e⟩ => by have := h1.lt _ r e; omega
    have HJ0 := Lib.hid hj0
    clear hsz hlt n0 n1 hs1 hj0 h1 h2 h3 h4 e1 e2
    gi_wp2
    refine range_law (F := Fence.wide) (n := 5) rfl (by omega) (gf := gf) (lb := lb) rfl trivial HIT.out.enters HIT.out.seq (fun _ => rfl)
      (PutInv w b T X M W1.heap.size t i ys) (fun _ _ _ => False) (fun k W hW => by obtain ⟨_, _, _, _, _, h, _⟩ := hW; exact HRD.out W h) HJ0.out (fun k W o hW => hW.put o) (fun _ _ _ _ h => h)
      (fun j => { tmps := #[.pointer (some ⟨g, o, none⟩), .func (.func gf) #[] lb, .int .i64 i, .pointer (some ⟨w.heap.size, 0, none⟩), undef, .pointer (some ⟨w.heap.size + 1, 0, none⟩), undef, .int .u8 ((ys.getD j 0).toNat : Nat), .pointer (some ⟨g, o, none⟩), .pointer (some ⟨g, o, none⟩), .pointer (some ⟨g, o, none⟩), .int .i64 i, v12, .func (.func gf) #[] lb, .int .i64 (ix j), .int .u8 ((ys.getD j 0).toNat : Nat), undef, undef, undef, undef, undef, undef, undef, undef], defers := [] }) ?assign ?body ?done ?stop
    case assign =>
      intro l k W K hK
      gi_wp2
      exact hK
    case body =>
      intro l j W hBs hJ hj
      obtain ⟨T2, g2, o2, f1, f2, f3, f4, f5, f6, f7, f8, f9⟩ := hJ
      have hkid := kid_any f1 f4 (ys.getD j 0) (by omega)
      rw [take_kid t ys hj] at hkid
      obtain ⟨cc, hcc⟩ : ∃ cc, cc = ys.getD j 0 := ⟨_, rfl⟩
      rw [← hcc] at hkid ⊢
      have e1 : W.cell? ⟨w.heap.size, 0, none⟩ = some (.pointer (some ⟨g2, o2, none⟩)) := f5.cell 0
      have HKID := Lib.hid hkid
      have F1 := Lib.hid f1
      have F2 := Lib.hid f2
      have F3 := Lib.hid f3
      have F5 := Lib.hid f5
      have F6 := Lib.hid f6
      have F7 := Lib.hid f7
      have F8 := Lib.hid f8
      have F9 := Lib.hid f9
      clear hkid f1 f2 f3 f4 f5 f6 f7 f8 f9 hcc hBs
      gi_wp2_with (refine ⟨trivial, ?_⟩; gi_at_call 48; refine (CallsIn.inRound l (callsIn_wide.2 HKID.out)).mono ?_; rintro e w2 ⟨T3, g3, rfl, q1, q2, q3, q4⟩; have Q1 := Lib.hid q1; have Q2 := Lib.hid q2; have Q3 := Lib.hid q3; have Q4 := Lib.hid q4; have c5 : Blk w2 w.heap.size 86 #[.pointer (some ⟨g2, o2, none⟩)] := F5.out.kept q3 (F7.out _ (.inl rfl)); have C5 := Lib.hid c5; have d5 := c5.cell 0; have d6 := c5.frozen 0; clear q1 q2 q3 q4 c5)
      obtain ⟨W3, hW3⟩ : ∃ W3, W3 = w2.setCell ⟨w.heap.size, 0, none⟩ (.pointer (some ⟨g3, 0, none⟩)) := ⟨_, rfl⟩
      rw [← hW3]
      have hno : ∀ k, k = w.heap.size ∨ k = w.heap.size + 1 ∨ k = W1.heap.size ∨ k = W1.heap.size + 1 → ¬ T3.foot k := fun k hk => foot_grown Q2.out (by have := F8.out; have := F9.out; omega) (F7.out k hk)
      have g1 : Forest W3 b T3 (putUp X t ys i j) (M + (2 * j + 1) + 1) := by rw [hW3]; exact Q1.out.setFar (hno _ (.inl rfl)) _
      have b5 : Blk W3 w.heap.size 86 #[.pointer (some ⟨g3, 0, none⟩)] := by rw [hW3]; exact C5.out.set_ 0 _
      have b6 : Blk W3 (w.heap.size + 1) 3 #[.int .i64 (i : Int)] := by rw [hW3]; exact (F6.out.kept Q3.out (F7.out _ (.inr (.inl rfl)))).far (by show _ ≠ w.heap.size; omega) _
      have hst : W3.heap[W1.heap.size]? = W.heap[W1.heap.size]? ∧ W3.heap[W1.heap.size + 1]? = W.heap[W1.heap.size + 1]? := by
        have := F8.out
        have := F9.out
        rw [hW3]
        exact ⟨(heap_setCell_other w2 _ _ (by show _ ≠ w.heap.size; omega)).trans (Q3.out.block _ (by omega) (F7.out _ (.inr (.inr (.inl rfl))))),
          (heap_setCell_other w2 _ _ (by show _ ≠ w.heap.size; omega)).trans (Q3.out.block _ (by omega) (F7.out _ (.inr (.inr (.inr rfl)))))⟩
      have hs3 : W3.heap.size = w2.heap.size := by rw [hW3]; exact size_setCell' _ _ _
      have hk3 : Kept T.foot w W3 := by
        rw [hW3]
        exact (F3.out.trans Q3.out fun k hk hf => foot_back F2.out k hk hf).setCell (.inr (Nat.le_refl _)) _
      have hadd := add_any (g1.drewN 1) Q4.out i (by omega)
      have e3 : W3.cell? ⟨w.heap.size, 0, none⟩ = some (.pointer (some ⟨g3, 0, none⟩)) := b5.cell 0
      have e4 : W3.cell? ⟨w.heap.size + 1, 0, none⟩ = some (.int .i64 (i : Int)) := b6.cell 0
      have HADD2 := Lib.hid hadd
      have HNO := Lib.hid hno
      have B5 := Lib.hid b5
      have B6 := Lib.hid b6
      have HST := Lib.hid hst
      have HS3 := Lib.hid hs3
      have HK3 := Lib.hid hk3
      clear hW3 hno g1 b5 b6 hst hs3 hk3 hadd d5 d6 e1
      gi_region_with_o (refine ⟨trivial, ?_⟩; gi_at_call 47; refine (CallsIn.inRound l (callsIn_wide.2 HADD2.out)).mono ?_; rintro e w4 ⟨⟨v, rfl⟩, T4, r1, r2, r3, r4⟩)
      all_goals
        have hsz : W.heap.size ≤ W3.heap.size := by rw [HS3.out]; exact Q3.out.size
        have h8 := F8.out
        have h9 := F9.out
        refine ⟨⟨(r3.block W1.heap.size (by show _ < W3.heap.size; omega) (HNO.out _ (.inr (.inr (.inl rfl))))).trans HST.out.1, (r3.block (W1.heap.size + 1) (by show _ < W3.heap.size; omega) (HNO.out _ (.inr (.inr (.inr rfl))))).trans HST.out.2⟩,
          T4, g3, 0, ?_, F2.out.trans (Q2.out.trans ⟨r2.lab, fun j r e => by have := r2.new j r e; simp at this; rw [HS3.out] at this; exact this, r2.ad⟩ Q3.out.size) F3.out.size, ?_, by rw [r4]; exact Q4.out, (B5.out.drewN 1).kept r3 (HNO.out _ (.inl rfl)), (B6.out.drewN 1).kept r3 (HNO.out _ (.inr (.inl rfl))), fun k hk => foot_grown r2 (by show _ < W3.heap.size; omega) (HNO.out k hk), h8, by have := r3.size; simp at this; omega⟩
        · exact r1.more (by omega)
        · exact (HK3.out.drewN 1).trans r3 fun k hk hf => foot_back F2.out k hk (foot_back Q2.out k (by have := F3.out.size; omega) hf)
    case done =>
      intro W hJ hK
      obtain ⟨T2, g2, o2, f1, f2, f3, f4, f5, f6, f7, f8, f9⟩ := hJ
      gi_wp2
      refine ⟨by simp, .inl ⟨_, _, rfl, run_takeDeferred hK, ?_⟩⟩
      exact ⟨_, results_none rfl _ _ _, ⟨_, rfl⟩, T2, f1.putObj (f7 _ (.inr (.inr (.inl rfl)))) _, f2, f3.putObj (.inr (by omega)) _⟩
    case stop =>
      intro c k W _ h _
      exact h.elim

theorem lookNil (w : World) (c : UInt8) : (Instr.lookup 64 (.map none) (.int .u8 c.toNat) true).run Try.prog w = .ok (.tuple #[.pointer none, .bool false]) w :=
  Maps.look_nil true u8Law Try.underlying64 (zeroPtr w) (u8key c)
/-- Without a node on the way there is none at its end. -/
theorem Forest.gone {w : World} {b : Nat} {T : Lay} {X : Key → List Int} {M : Nat} (h : Forest w b T X M) {t : Nat} {ys : Nm} {j : Nat} (hj : j < ys.length) (hn : T.ad (t, ys.take (j + 1)) = none) : ∀ n, j + 1 ≤ n → n ≤ ys.length → T.ad (t, ys.take n) = none := by
  intro n
  induction n with
  | zero => intro h1 _; omega
  | succ n ih =>
    intro h1 h2
    rcases Nat.lt_or_ge (j + 1) (n + 1) with h3 | h3
    · have h4 := ih (by omega) (by omega)
      cases e : T.ad (t, ys.take (n + 1)) with
      | none => rfl
      | some a =>
        rw [← take_kid t ys (by omega)] at e
        obtain ⟨a', e2⟩ := h.up _ _ _ e
        rw [h4] at e2
        cases e2
    · obtain rfl : n = j := by omega
      exact hn

/-- Between two rounds of find. -/
def FindInv (w : World) (T : Lay) (B t : Nat) (ys : Nm) (j : Nat) (W : World) : Prop :=
  ∃ g o, Below w.heap.size w W ∧ T.ad (t, ys.take j) = some (g, o) ∧ Blk W w.heap.size 86 #[.pointer (some ⟨g, o, none⟩)] ∧ Blk W (w.heap.size + 1) 24 #[.slice none 0 0] ∧ w.heap.size + 2 ≤ B ∧ B + 2 ≤ W.heap.size
def FindEnd (w : World) (T : Lay) (B t : Nat) (ys : Nm) (c : Code) (j : Nat) (W : World) : Prop :=
  c = .ret ∧ j ≤ ys.length ∧ (∃ i, j = i + 1 ∧ T.ad (t, ys.take j) = none) ∧ Below w.heap.size w W ∧ Blk W (w.heap.size + 1) 24 #[.slice none 0 0] ∧ w.heap.size + 2 ≤ B ∧ B + 2 ≤ W.heap.size
theorem below_putObj {a w : World} {B : Nat} (h : Below B a w) {l : Nat} (hl : B ≤ l) (o : Obj) : Below B a (w.putObj l o) :=
  ⟨h.os, h.tape, h.output, by simpa using h.size, fun k hk => (World.putObj_heap_other (by omega)).trans (h.block k hk)⟩

set_option maxHeartbeats 4000000 in
set_option maxRecDepth 100000 in
theorem find_any {w : World} {b : Nat} {T : Lay} {X : Key → List Int} {M : Nat} (hF : Forest w b T X M) {t g o : Nat} (hk : T.ad (t, []) = some (g, o)) {gf : Nat} {lb : Array Value} {ys : Nm} {ix : Nat → Int} {Rd : World → Prop}
    (hit : IterOk gf lb ys ix Rd) (hRd : ∀ w', Below w.heap.size w w' → Rd w') (hM : M ≤ 10000000) :
    Calls Try.prog 51 #[.pointer (some ⟨g, o, none⟩), .func (.func gf) #[] lb] w (IdxOut w (X (t, ys))) := by
  obtain ⟨W0, hW0⟩ : ∃ W0, W0 = (w.alloc (.cells #[.pointer (some ⟨g, o, none⟩)] 86)).alloc (.cells #[.slice none 0 0] 24) := ⟨_, rfl⟩
  have hsz : W0.heap.size = w.heap.size + 2 := by rw [hW0]; simp
  have b1 : Blk W0 w.heap.size 86 #[.pointer (some ⟨g, o, none⟩)] := by rw [hW0]; exact (Blk.new w _ _).alloc _
  have b2 : Blk W0 (w.heap.size + 1) 24 #[.slice none 0 0] := by
    have := Blk.new (w.alloc (.cells #[.pointer (some ⟨g, o, none⟩)] 86)) 24 #[.slice none 0 0]
    rw [World.size_alloc] at this
    rw [hW0]
    exact this
  have hK0 : Below w.heap.size w W0 := by rw [hW0]; exact ((Below.refl _ w).alloc (Nat.le_refl _) _).alloc (by simp) _
  have HIT := Lib.hid hit
  refine (callsIn_wide (n := 5)).1 ?_
  refine callsIn_of_wp_marks Try.func51 rfl trivial ?_ rfl
  simp only [Try.ntmps51, List.size_toArray, List.length_cons, List.length_nil, Nat.reduceAdd, Nat.reduceSub, Array.replicate_succ, Array.replicate_zero, List.push_toArray, List.append_toArray, List.nil_append, List.cons_append]
  have hj0 : ∀ r, FindInv w T W0.heap.size t ys 0 ((W0.alloc (.deferred (some []))).alloc (.loop r)) := fun r =>
    ⟨g, o, (hK0.alloc (by omega) _).alloc (by simp; omega) _, hk, (b1.alloc _).alloc _, (b2.alloc _).alloc _, by omega, by simp⟩
  have HF := Lib.hid hF
  have HK0 := Lib.hid hK0
  have HSZ := Lib.hid hsz
  have HRD := Lib.hid hRd
  have HJ0 := Lib.hid hj0
  have HW0 := Lib.hid hW0
  clear hF hK0 b1 b2 hsz hRd hit hk hW0 hj0
  gi_wp2
  rw [← HW0.out]
  refine range_law (F := Fence.wide) (n := 5) rfl (by omega) (gf := gf) (lb := lb) rfl trivial HIT.out.enters HIT.out.seq (fun _ => rfl)
    (FindInv w T W0.heap.size t ys) (FindEnd w T W0.heap.size t ys) (fun k W hW => by obtain ⟨_, _, h, _⟩ := hW; exact HRD.out W h) HJ0.out
    (fun k W x hW => by obtain ⟨g, o, f1, f2, f3, f4, f5, f6⟩ := hW; exact ⟨g, o, below_putObj f1 (by omega) x, f2, f3.putObj (by omega) x, f4.putObj (by omega) x, f5, by simpa using f6⟩)
    (fun c k W x hW => by obtain ⟨q1, q2, q3, f1, f4, f5, f6⟩ := hW; exact ⟨q1, q2, q3, below_putObj f1 (by omega) x, f4.putObj (by omega) x, f5, by simpa using f6⟩)
    (fun j => { tmps := #[.pointer (some ⟨g, o, none⟩), .func (.func gf) #[] lb, .pointer (some ⟨w.heap.size, 0, none⟩), undef, .pointer (some ⟨w.heap.size + 1, 0, none⟩), undef, .int .u8 ((ys.getD j 0).toNat : Nat), undef, undef, .func (.func gf) #[] lb, .int .i64 (ix j), .int .u8 ((ys.getD j 0).toNat : Nat), undef, undef, undef, undef, undef, undef, undef, undef, undef, undef, undef, undef, undef, undef, undef, undef], defers := [] }) ?assign ?body ?done ?stop
  case assign =>
    intro l k W K hK
    gi_wp2
    exact hK
  case body =>
    intro l j W hBs hJ hj
    obtain ⟨g2, o2, f1, f2, f3, f4, f5, f6⟩ := hJ
    have hFW := HF.out.below f1 (Nat.le_refl _)
    obtain ⟨v, mv, hn⟩ := hFW.node _ _ _ f2
    obtain ⟨cc, hcc⟩ : ∃ cc, cc = ys.getD j 0 := ⟨_, rfl⟩
    have htk := take_kid t ys hj
    rw [← hcc] at htk ⊢
    have e1 : W.cell? ⟨w.heap.size, 0, none⟩ = some (.pointer (some ⟨g2, o2, none⟩)) := f3.cell 0
    have e2 : W.frozen? ⟨w.heap.size, 0, none⟩ = false := f3.frozen 0
    have e3 : W.cell? ⟨w.heap.size + 1, 0, none⟩ = some (.slice none 0 0) := f4.cell 0
    have e4 : W.frozen? ⟨w.heap.size + 1, 0, none⟩ = false := f4.frozen 0
    have c1 := hn.c1
    have hfar := hFW.far (t, ys.take (j + 1))
    have F1 := Lib.hid f1
    have F3 := Lib.hid f3
    have F4 := Lib.hid f4
    have F5 := Lib.hid f5
    have F6 := Lib.hid f6
    have hne : (ys.take (j + 1)) ≠ [] := fun e => by have := congrArg List.length e; simp only [List.length_take, List.length_nil] at this; omega
    cases hx : T.ad (t, ys.take (j + 1)) with
    | some a =>
      obtain ⟨g3, o3⟩ := a
      obtain rfl : o3 = 0 := hfar _ _ hx hne
      obtain ⟨m, hm, hl⟩ : ∃ m, mv = .map (some m) ∧ (Instr.lookup 64 (.map (some m)) (.int .u8 cc.toNat) true).run Try.prog W = .ok (.tuple #[.pointer (some ⟨g3, 0, none⟩), .bool true]) W := by
        rcases hn.kids with ⟨_, h⟩ | ⟨m, n, D, h1, h2, h3, h4, h5⟩
        · have := h cc
          rw [htk, hx] at this
          cases this
        · exact ⟨m, h1, kid_look_ok (x := some g3) h4 h5 cc (by rw [htk, hx]; rfl)⟩
      subst hm
      have HX := Lib.hid hx
      clear hFW hn htk hfar hne hx f1 f2 f3 f4 f5 f6 hcc hBs
      gi_wp2
      refine ⟨⟨heap_setCell_other W _ _ (by show _ ≠ w.heap.size; have := F5.out; omega), heap_setCell_other W _ _ (by show _ ≠ w.heap.size; have := F5.out; omega)⟩, g3, 0, F1.out.setCell (p := ⟨w.heap.size, 0, none⟩) (Nat.le_refl _) _, HX.out, F3.out.set_ 0 _, F4.out.far (by show _ ≠ w.heap.size; omega) _, F5.out, by rw [size_setCell']; exact F6.out⟩
    | none =>
      have hl : (Instr.lookup 64 mv (.int .u8 cc.toNat) true).run Try.prog W = .ok (.tuple #[.pointer none, .bool false]) W := by
        rcases hn.kids with ⟨h, _⟩ | ⟨m, n, D, h1, h2, h3, h4, h5⟩
        · rw [h]; exact lookNil W cc
        · rw [h1]; exact kid_look_ok (x := none) h4 h5 cc (by rw [htk, hx]; rfl)
      have HX := Lib.hid hx
      clear hFW hn htk hfar hne hx f1 f2 f3 f4 f5 f6 hcc hBs
      gi_wp2
      refine ⟨⟨heap_setCell_other W _ _ (by show _ ≠ w.heap.size + 1; have := F5.out; omega), heap_setCell_other W _ _ (by show _ ≠ w.heap.size + 1; have := F5.out; omega)⟩, rfl, hj, ⟨j, rfl, HX.out⟩, F1.out.setCell (p := ⟨w.heap.size + 1, 0, none⟩) (Nat.le_succ _) _, F4.out.set_ 0 _, F5.out, by rw [size_setCell']; exact F6.out⟩
  case done =>
    intro W hJ hK
    obtain ⟨g2, o2, f1, f2, f3, f4, f5, f6⟩ := hJ
    rw [List.take_length] at f2
    have hFW := HF.out.below f1 (Nat.le_refl _)
    have hlist := list_any hFW f2 hM
    have e1 : W.cell? ⟨w.heap.size, 0, none⟩ = some (.pointer (some ⟨g2, o2, none⟩)) := f3.cell 0
    have HL := Lib.hid hlist
    have F1 := Lib.hid f1
    have F4 := Lib.hid f4
    have F5 := Lib.hid f5
    have F6 := Lib.hid f6
    have HK := Lib.hid hK
    clear hFW hlist f1 f2 f3 f4 f5 f6 hK
    gi_wp2_with (refine ⟨trivial, ?_⟩; gi_at_call 63; refine (callsIn_wide.2 HL.out).mono ?_; rintro e w2 ⟨v, rfl, q1, q2⟩; have Q1 := Lib.hid q1; have Q2 := Lib.hid q2; obtain ⟨A2, cc2, hv⟩ := own_slice q1; subst hv; have c4 : Blk w2 (w.heap.size + 1) 24 #[.slice none 0 0] := F4.out.below q2 (by have := F5.out; have := F6.out; omega); have d5 := c4.cell 0; have d6 := c4.frozen 0; have C4 := Lib.hid c4; clear q1 q2 c4)
    obtain ⟨W4, hW4⟩ : ∃ W4, W4 = w2.setCell ⟨w.heap.size + 1, 0, none⟩ (.slice A2 (X (t, ys)).length cc2) := ⟨_, rfl⟩
    rw [← hW4]
    have g5 := F5.out
    have g6 := F6.out
    have gs := Q2.out.size
    have hblk : ∀ k, k ≠ w.heap.size + 1 → W4.heap[k]? = w2.heap[k]? := fun k hk => by rw [hW4]; exact heap_setCell_other w2 _ _ hk
    have hs4 : W4.heap.size = w2.heap.size := by rw [hW4]; exact size_setCell' _ _ _
    have hK4 : W4.heap[W0.heap.size]? = some (.deferred (some [])) := (hblk _ (by omega)).trans ((Q2.out.block _ (by omega)).trans HK.out)
    have hc4 : (W4.putObj W0.heap.size (.deferred none)).cell? ⟨w.heap.size + 1, 0, none⟩ = some (.slice A2 (X (t, ys)).length cc2) := by
      rw [World.cell?_of_block (World.putObj_heap_other (by show w.heap.size + 1 ≠ _; omega)), hW4]
      exact cell_here _ (C4.out.cell 0)
    refine ⟨by simp, .inl ⟨_, _, rfl, run_takeDeferred hK4, ?_⟩⟩
    refine ⟨.slice A2 (X (t, ys)).length cc2, ?_, _, rfl, ?_, ?_⟩
    · simp [results, Try.f51, go_sem, hc4]
    · refine Go.Joins.ownsRow_le (ownsRow_block Q1.out fun r hr => ?_) (Nat.le_trans (by omega) g6)
      have hr2 := Q1.out.lt r hr
      exact (World.putObj_heap_other (by omega)).trans (hblk r (by omega))
    · refine below_putObj ?_ (by omega) _
      have h1 : Below w.heap.size w w2 := below_then F1.out Q2.out (by omega)
      rw [hW4]
      exact h1.setCell (p := ⟨w.heap.size + 1, 0, none⟩) (Nat.le_succ _) _
  case stop =>
    intro c k W hk' hJ hK
    obtain ⟨rfl, q2, ⟨i, rfl, q3⟩, f1, f4, f5, f6⟩ := hJ
    have hx : T.ad (t, ys) = none := by
      have := HF.out.gone q2 q3 ys.length q2 (Nat.le_refl _)
      rwa [List.take_length] at this
    have HX := Lib.hid (HF.out.nix _ hx)
    have F1 := Lib.hid f1
    have F4 := Lib.hid f4
    have F5 := Lib.hid f5
    have F6 := Lib.hid f6
    clear f1 f4 f5 f6 hx
    gi_wp2
    have g5 := F5.out
    have hc4 : (W.putObj W0.heap.size (.deferred none)).cell? ⟨w.heap.size + 1, 0, none⟩ = some (.slice none 0 0) := by
      rw [World.cell?_of_block (World.putObj_heap_other (by show w.heap.size + 1 ≠ _; omega))]
      exact F4.out.cell 0
    refine ⟨by simp, .inl ⟨_, _, rfl, run_takeDeferred hK, ?_⟩⟩
    refine ⟨.slice none 0 0, ?_, _, rfl, ?_, below_putObj F1.out (by omega) _⟩
    · simp [results, Try.f51, go_sem, hc4]
    · rw [HX.out]
      exact ⟨rfl, .inl ⟨rfl, rfl⟩⟩
end Go.Proofs.Ytjnbilcanfhkjaa
