/- How much the files are that came in. -/
import Derived.Test.YtblpppeppgfbpaaGreat
namespace Go.Proofs.Ytblpppeppgfbpaa
open Go.ChangeShapes Go.WideShapes Go.ChangeAt Go.RowKit Go.Deep

structure FlV where
  a : ByteArray
  B : Option Addr
  bn : Nat
  bc : Nat
  bs : Nm
def FlV.cells (o : FlV) : List Value := [.string o.a, .slice o.B o.bn o.bc]
structure FlIn (w : World) (o : FlV) : Prop where
  a : o.a.size ≤ maxLen
  b : BytesIn w o.B o.bn o.bs
  bc : o.bn ≤ o.bc
  na : o.a.size ≤ 140737488351232
  nb : o.bn ≤ 140737488351232
/-- A slice of files that came in. -/
structure FlsIn (w : World) (A : Option Addr) (n : Nat) (l : List FlV) : Prop where
  len : l.length = n
  big : n * 40 ≤ 140737488351232
  op : ∀ o ∈ l, FlIn w o
  nil : A = none → n = 0
  cells : ∀ ad, A = some ad → ∀ (i : Nat) (o : FlV), l[i]? = some o → ∀ (j : Nat) (v : Value), o.cells[j]? = some v → w.cell? (ad.add (i * 2 + j)) = some v
  lt : ∀ ad, A = some ad → 0 < n → ad.block < w.heap.size
theorem FlsIn.at0 {w : World} {ad : Addr} {n : Nat} {l : List FlV} (h : FlsIn w (some ad) n l) {k : Nat} {o : FlV} (ho : l[k]? = some o) : w.cell? (ad.add (k * 2)) = some (.string o.a) := h.cells ad rfl k o ho 0 _ rfl
theorem FlsIn.at1 {w : World} {ad : Addr} {n : Nat} {l : List FlV} (h : FlsIn w (some ad) n l) {k : Nat} {o : FlV} (ho : l[k]? = some o) : w.cell? ⟨(ad.add (k * 2)).block, (ad.add (k * 2)).off + 1, none⟩ = some (.slice o.B o.bn o.bc) := by
  rw [← add_pos _ _ _ (by omega)]
  exact h.cells ad rfl k o ho 1 _ rfl
section
variable {H : Type} {enc : TypeId × Value → H} {w : World}
set_option maxRecDepth 100000 in
theorem file_in {cs : List Value} {x : DataW H × List MemPlace} {fuel : Nat} {base : Nat} {spare : Nat → Bool} {held : Bool} (h : DataW.trod enc Try.prog w base spare held fuel 60 cs = some x) (hs : Sized 60 x.1) :
    ∃ o : FlV, cs = o.cells ∧ FlIn w o := by
  obtain ⟨ys, m, _, hx, hlen, _, hf⟩ := DataW.trod_struct Try.underlying60 h
  have hl2 : cs.length = 2 := by rw [hlen]; kernel_rfl
  have cS : Try.prog.cellsOf 9 = 1 := by kernel_rfl
  have cB : Try.prog.cellsOf 33 = 1 := by kernel_rfl
  have f1 : DataW.trod enc Try.prog w base spare held m 9 ((cs.drop 0).take (Try.prog.cellsOf 9)) = ys[0]? := hf 0 _ rfl
  have f2 : DataW.trod enc Try.prog w base spare held m 33 ((cs.drop 1).take (Try.prog.cellsOf 33)) = ys[1]? := hf 1 _ rfl
  have hy : ys.length = 2 := by assumption
  rw [cS, take_drop1 _ _ (by omega), List.getElem?_eq_getElem (by omega)] at f1
  rw [cB, take_drop1 _ _ (by omega), List.getElem?_eq_getElem (by omega)] at f2
  rw [hx] at hs
  have s1 : Sized 9 (ys[0]).1 := hs.field Try.underlying60 (j := 0) rfl (by rw [List.getElem?_map, List.getElem?_eq_getElem (by omega)]; rfl)
  have s2 : Sized 33 (ys[1]).1 := hs.field Try.underlying60 (j := 1) rfl (by rw [List.getElem?_map, List.getElem?_eq_getElem (by omega)]; rfl)
  obtain ⟨nm, e1, x1, w1⟩ := DataW.trod_string Try.underlying9 f1
  obtain ⟨B, bn, bc, e2, hbc⟩ := bytes_shape f2
  rw [e2] at f2
  obtain ⟨bs, hbs⟩ := bytes_in f2
  simp only [List.cons.injEq, and_true] at e1
  rw [x1] at s1
  have b1 := s1.str
  have b2 := s2.ints Try.underlying33 Try.underlying5 (by kernel_rfl) f2
  rw [show Try.prog.bytesOf 5 = 1 by kernel_rfl] at b2
  simp at b1
  refine ⟨⟨nm, B, bn, bc, bs⟩, ?_, ⟨w1, hbs, hbc, b1, by show bn ≤ _; omega⟩⟩
  apply List.ext_getElem
  · rw [hl2]; rfl
  · intro j hj _
    have : j < 2 := by omega
    match j, this with
    | 0, _ => exact e1
    | 1, _ => exact e2
set_option maxRecDepth 100000 in
theorem files_in {A : Value} {x : DataW H × List MemPlace} {fuel : Nat} {base : Nat} {spare : Nat → Bool} {held : Bool} (h : DataW.trod enc Try.prog w base spare held fuel 22 [A] = some x) (hs : Sized 22 x.1) :
    ∃ (C : Option Addr) (n c : Nat) (l : List FlV), A = .slice C n c ∧ n ≤ c ∧ FlsIn w C n l := by
  rcases open_slice Try.underlying22 h with ⟨hcs, _⟩ | ⟨a, len, cap, m, f, D, Pl, hcs, _, hl, hm, hmm, hx, hi⟩
  · simp only [List.cons.injEq, and_true] at hcs
    exact ⟨none, 0, 0, [], hcs, Nat.le_refl _, rfl, by omega, by simp, fun _ => rfl, (fun ad e => by cases e), fun ad e => by cases e⟩
  · simp only [List.cons.injEq, and_true] at hcs
    have hlm : len ≤ m := by rw [hmm]; split <;> omega
    have cO : Try.prog.cellsOf 60 = 2 := by kernel_rfl
    rw [hx] at hs
    have hlen := hs.len Try.underlying22
    rw [show Try.prog.bytesOf 60 = 40 by kernel_rfl] at hlen
    simp only [List.length_map, List.length_range] at hlen
    have hex : ∀ i, i < len → ∃ o : FlV, FlIn w o ∧ ∀ (j : Nat) (v : Value), o.cells[j]? = some v → w.cell? (a.add (i * 2 + j)) = some v := by
      intro i hlt
      obtain ⟨cs', hc, ht⟩ := hi i (by omega)
      rw [cO] at hc
      obtain ⟨o, rfl, ho⟩ := file_in ht (hs.elem Try.underlying22 (List.mem_map.2 ⟨i, List.mem_range.2 hlt, rfl⟩))
      obtain ⟨_, _, hat⟩ := World.cells?_some hc
      refine ⟨o, ho, fun j v hv => ?_⟩
      have hj : j < 2 := (List.getElem?_eq_some_iff.1 hv).1
      rw [← add_add]
      rw [hat j hj]
      exact hv
    have hw : ∀ k, k ≤ len → ∃ l : List FlV, l.length = k ∧ (∀ o ∈ l, FlIn w o) ∧ ∀ (i : Nat) (o : FlV), l[i]? = some o → ∀ (j : Nat) (v : Value), o.cells[j]? = some v → w.cell? (a.add (i * 2 + j)) = some v := by
      intro k
      induction k with
      | zero => intro _; exact ⟨[], rfl, by simp, by simp⟩
      | succ k ih =>
        intro hk
        obtain ⟨l, h1, h2, h3⟩ := ih (by omega)
        obtain ⟨o, h4, h5⟩ := hex k (by omega)
        refine ⟨l ++ [o], by simp [h1], fun x hx => ?_, fun i y hy j v hv => ?_⟩
        · rcases List.mem_append.1 hx with h | h
          · exact h2 x h
          · rw [List.mem_singleton.1 h]; exact h4
        · rcases Nat.lt_or_ge i k with hik | hik
          · rw [List.getElem?_append_left (by omega)] at hy
            exact h3 i y hy j v hv
          · have hlt := (List.getElem?_eq_some_iff.1 hy).1
            simp [h1] at hlt
            obtain rfl : i = k := by omega
            rw [List.getElem?_append_right (by omega), h1, Nat.sub_self] at hy
            simp at hy
            subst hy
            exact h5 j v hv
    obtain ⟨l, h1, h2, h3⟩ := hw len (Nat.le_refl _)
    refine ⟨some a, len, cap, l, hcs, hl, h1, by omega, h2, (fun e => by cases e), fun ad e => by cases e; exact h3, fun ad e hn => ?_⟩
    cases e
    obtain ⟨o, _, h5⟩ := hex 0 hn
    have := h5 0 _ rfl
    simp [Addr.add] at this
    exact World.block_lt_of_cell? w a this
end
def flSize (o : FlV) : Nat := min o.a.size 300000 + min o.bn 300000
def flsSize (l : List FlV) : Nat := (l.map flSize).sum
theorem flsSize_snoc (l : List FlV) (o : FlV) : flsSize (l ++ [o]) = flsSize l + flSize o := by simp [flsSize]

def GreatFEnd (w : World) (l : List FlV) (e : Ending) (w' : World) : Prop := ∃ (g : Bool) (m : Nat), e = .returned (.bool g) ∧ w' = w.drewN m ∧ (g = false → l.length ≤ 100 ∧ flsSize l < 300000)

set_option maxHeartbeats 2000000 in
set_option maxRecDepth 100000 in
theorem greatFiles_any {w : World} {A : Option Addr} {n : Nat} {l : List FlV} (h : FlsIn w A n l) (c : Nat) :
    Calls Try.prog 5 #[.slice A n c] w (GreatFEnd w l) := by
  have hn := h.len
  have hbig := h.big
  have H := Lib.hid h
  have HN := Lib.hid hn
  clear h hn
  have hbig2 : n ≤ 3518437208781 := by omega
  clear hbig
  go_enter Try.func5, Try.ntmps5
  go_wp2
  go_loopw [3, 4] (fun s i wr => ∃ k m : Nat, k ≤ n ∧ i = .int .i64 k ∧ s = .int .i64 (flsSize (l.take k) : Nat) ∧ flsSize (l.take k) ≤ 900000 ∧ wr = w.drewN m) (fun _ i _ => n - (intOf i).toNat)
  case atStart => exact ⟨0, 0, Nat.zero_le _, rfl, by simp [flsSize], by simp [flsSize], rfl⟩
  case round =>
    obtain ⟨k, m, hk, rfl, rfl, hs, rfl⟩ := hrel
    by_cases hc : k < n
    · by_cases h3 : flsSize (l.take k) < 300000
      · have HL := HN.out
        cases A with
        | none => have := H.out.nil rfl; omega
        | some ad =>
          obtain ⟨o, ho⟩ : ∃ o, l[k]? = some o := ⟨_, List.getElem?_eq_getElem (by omega)⟩
          have hin := H.out.op o (List.mem_of_getElem? ho)
          have h1 := hin.na
          have h2 := hin.nb
          have c1 : ∀ q, (w.drewN q).cell? (ad.add (k * 2)) = some (.string o.a) := fun _ => H.out.at0 ho
          have c2 : ∀ q, (w.drewN q).cell? ⟨(ad.add (k * 2)).block, (ad.add (k * 2)).off + 1, none⟩ = some (.slice o.B o.bn o.bc) := fun _ => H.out.at1 ho
          have hsn : flsSize (l.take (k + 1)) = flsSize (l.take k) + flSize o := by rw [take_snoc' l k o ho, flsSize_snoc]
          have HS := Lib.hid hsn
          clear hin hsn HL
          obtain ⟨blk, off, sp⟩ := ad
          generalize hS : flsSize (l.take k) = S at *
          have HSS := Lib.hid hS
          have HO := Lib.hid ho
          clear hS ho hk
          generalize ht : ((S : Nat) : Int) = t at *
          have h3i : t < 300000 := by omega
          have h0i : 0 ≤ t := by omega
          have HT := Lib.hid ht
          have H3 := Lib.hid h3
          clear ht h3 hs
          go_wp2
          go_quiet (fail)
          go_wp2
          go_roundw
          case rel =>
            have e1 := HS.out
            have e2 := HT.out
            have e3 := H3.out
            have e4 : flSize o = min o.a.size 300000 + min o.bn 300000 := rfl
            exact ⟨k + 1, m + nq, by omega, by go_num, by rw [e1, e4]; congr 1; omega, by rw [e1, e4]; omega, rfl⟩
          case measure => simp [intOf]; omega
      · have hS : (300000 : Int) ≤ ((flsSize (l.take k) : Nat) : Int) := by omega
        generalize ht : ((flsSize (l.take k) : Nat) : Int) = t at *
        have HT := Lib.hid ht
        clear ht h3 hs hbig2
        go_wp2
        go_ret
        exact ⟨true, m, rfl, rfl, fun e => by cases e⟩
    · obtain rfl : k = n := by omega
      have hl : l.take k = l := List.take_of_length_le (by have := HN.out; omega)
      rw [hl] at hs ⊢
      clear hl hc
      generalize ht : ((flsSize l : Nat) : Int) = t at *
      have HT := Lib.hid ht
      clear hs ht
      go_wp2
      all_goals go_ret
      all_goals
        refine ⟨_, m, rfl, rfl, fun e => ?_⟩
        have := HT.out
        have := HN.out
        simp at e
        try omega
end Go.Proofs.Ytblpppeppgfbpaa
