/- The contract of Suffix. -/
import Derived.Test.YtjnbilcanfhkjaaTNew
namespace Go.Proofs.Ytjnbilcanfhkjaa
open Go.RowKit Go.Maps Go.WideMaps Go.Shelf

attribute [local go_sem] Oper.semAt_some

set_option maxHeartbeats 4000000 in
set_option maxRecDepth 100000 in
theorem tSuffix_any {w : World} {b base : Nat} {L : List Nm} (hT : TrieAt w b base L) (B : Option Addr) (m cb : Nat) (s : Nm) (hs : BytesIn w B m s) (hm : m ≤ 1099511627776) :
    Calls Try.prog 43 #[.pointer (some ⟨b, 0, none⟩), .slice B m cb] w (IdxOut w (idxUp (fun t => atB t ((t.length : Int) - (s.length : Int)) s) L L.length)) := by
  obtain ⟨T, X, M, hF, hM, _, hX⟩ := hT
  have hls : s.length = m := by have := hs.2.1.len; simpa using this
  have hall := back_make (w.drewN 1) B m cb
  have hfind := find_any ((hF.drewN 1).alloc (.cells #[.slice B m cb] 23)) ((hF.drewN 1).root 1 (by omega)) (back_ok w.heap.size B m cb s hls hm)
    (fun w' hk => ⟨((Blk.new (w.drewN 1) 23 #[.slice B m cb]).below hk (by simp)).cell 0, ((hs.drewN 1).below ((Below.refl _ _).alloc (Nat.le_refl _) _)).below hk⟩) (by omega)
  rw [hX.tail, List.length_reverse, List.reverse_reverse] at hfind
  have HALL := Lib.hid hall
  have HFIND := Lib.hid hfind
  obtain ⟨R, hR⟩ : ∃ R, R = idxUp (fun t => atB t ((t.length : Int) - (s.length : Int)) s) L L.length := ⟨_, rfl⟩
  rw [← hR] at HFIND ⊢
  have hmx : Try.prog.follows .mixedOrders = true := by kernel_rfl
  clear hall hfind hF hM hX hs hls hR
  refine (callsIn_wide (n := 5)).1 ?_
  refine callsIn_of_wp Try.func43 rfl trivial ?_ rfl
  simp only [Try.ntmps43, List.size_toArray, List.length_cons, List.length_nil, Nat.reduceAdd, Nat.reduceSub, Array.replicate_succ, Array.replicate_zero, List.push_toArray, List.append_toArray, List.nil_append, List.cons_append]
  gi_wp2
  gi_region_with_o (first | (refine ⟨trivial, ?_⟩; gi_at_call 40; refine (callsIn_wide.2 HALL.out).mono ?_; rintro e w2 ⟨rfl, rfl⟩) | (refine ⟨trivial, ?_⟩; gi_at_call 51; refine (callsIn_wide.2 HFIND.out).mono ?_; rintro e w2 ⟨v, rfl, r1, r2⟩))
  have R1 := Lib.hid r1
  have R2 := Lib.hid r2
  clear r1 r2
  gi_wp2
  go_ret
  refine ⟨v, rfl, Go.Joins.ownsRow_le R1.out (by simp), ?_⟩
  exact ((below_drewN (Below.refl _ w) 1).alloc (Nat.le_refl _) _).trans (R2.out.mono (by simp))
end Go.Proofs.Ytjnbilcanfhkjaa
