/- The program's disk, told by the document's state: each call answers what the document's does, and leaves a disk that is told by what that leaves. The program's do: steps, one after the other, up to the first that fails. The program's Write. The program's Save. The program's Load. The program's Clean. The program's Clean, whole. The laws' live question is answered with true. -/
import Derived.Test.YtmhiekbpmoikfaaGreatDoorZp9
import Derived.Test.YtmhiekbpmoikfaaGreatDoorZp12
import Derived.Deep.RegionHeld3
import Derived.Test.YtmhiekbpmoikfaaGreatDoorZp10
import Derived.Test.YtmhiekbpmoikfaaGreatDoorZp11
namespace Go.Proofs.YtmhiekbpmoikfaaGreatDoor
open Go.RowKit Go.Maps Go.WideMaps

def PAt (w : World) (F : Nat → Prop) (b : Nat) (r : RSt) : Prop := ∃ s f, Disk w F b s ∧ s.mid = false ∧ Sim s r f
def PLeft (w : World) (F : Nat → Prop) (b : Nat) (n : Int) (r' : RSt) (e : Ending) (w' : World) : Prop :=
  e = .returned (.int .i64 n) ∧ ∃ F', PAt w' F' b r' ∧ Kept F w w' ∧ ∀ i, F' i → F i ∨ w.heap.size ≤ i
theorem PAt.frame {w w' : World} {F : Nat → Prop} {b : Nat} {r : RSt} (h : PAt w F b r) (hb : ∀ i, F i → w'.heap[i]? = w.heap[i]?) (hs : w.heap.size ≤ w'.heap.size) : PAt w' F b r := by
  obtain ⟨s, f, h1, h2, h3⟩ := h
  exact ⟨s, f, h1.frame hb hs, h2, h3⟩
theorem PAt.lt {w : World} {F : Nat → Prop} {b : Nat} {r : RSt} (h : PAt w F b r) : ∀ i, F i → i < w.heap.size := by
  obtain ⟨s, f, h1, h2, h3⟩ := h
  exact h1.size
theorem PAt.fb {w : World} {F : Nat → Prop} {b : Nat} {r : RSt} (h : PAt w F b r) : F b := by
  obtain ⟨s, f, ⟨bn, bo, cv, cls, fv, hd⟩, h2, h3⟩ := h
  exact hd.fb
theorem PAt.kept {w w' : World} {F G : Nat → Prop} {b : Nat} {r : RSt} (h : PAt w F b r) (hk : Kept G w w') (hn : ∀ i, F i → ¬ G i) : PAt w' F b r := by
  obtain ⟨s, f, h1, h2, h3⟩ := h
  exact ⟨s, f, h1.kept hk hn, h2, h3⟩
theorem PAt.below {w w' : World} {F : Nat → Prop} {b : Nat} {r : RSt} (h : PAt w F b r) (hb : Below w.heap.size w w') : PAt w' F b r :=
  h.kept (Kept.below (F := fun _ => False) hb) fun _ _ => id
theorem PAt.alloc {w : World} {F : Nat → Prop} {b : Nat} {r : RSt} (h : PAt w F b r) (o : Obj) : PAt (w.alloc o) F b r := by
  obtain ⟨s, f, h1, h2, h3⟩ := h
  exact ⟨s, f, h1.alloc o, h2, h3⟩
theorem PAt.drew {w : World} {F : Nat → Prop} {b : Nat} {r : RSt} (h : PAt w F b r) : PAt w.drew F b r := h.frame (fun _ _ => rfl) (Nat.le_refl _)
theorem PAt.drewN {w : World} {F : Nat → Prop} {b : Nat} {r : RSt} (h : PAt w F b r) (n : Nat) : PAt (w.drewN n) F b r := h.frame (fun _ _ => rfl) (Nat.le_refl _)
theorem R1Mov.left' {w w' : World} {F F' : Nat → Prop} {b : Nat} {r : RSt} (h : R1Mov w F w' F') (hR : PAt w' F' b r) (n : Int) : PLeft w F b n r (.returned (.int .i64 n)) w' := ⟨rfl, F', hR, h.kept, h.new⟩
theorem R1Mov.left_' {w w1 w' : World} {F F1 : Nat → Prop} {b : Nat} {r : RSt} {n : Int} {e : Ending} (h : R1Mov w F w1 F1) (hl : PLeft w1 F1 b n r e w') : PLeft w F b n r e w' := by
  obtain ⟨he, F2, hR, hk, hn⟩ := hl
  have := h.trans ⟨hk, hn⟩
  exact ⟨he, F2, hR, this.kept, this.new⟩
theorem act_mid {s s' : St} {T : Int → St → Prop} {n : Int} (h : ActEnd s T n s') (hm : s.mid = false) (hT : ∀ n s1, T n s1 → s1.mid = false) : s'.mid = false := by
  rcases h with ⟨_, _, rfl⟩ | ⟨_, _, s1, h1, _, _, _, h2⟩
  · exact hm
  · have h3 := hT _ _ h1
    rcases h2 with ⟨_, rfl⟩ | ⟨_, rfl⟩ <;> exact h3
theorem PLeft.of {w : World} {F : Nat → Prop} {b : Nat} {T : Int → St → Prop} {n0 : Int} {r0 : RSt} {e : Ending} {w' : World} (hl : Left w F b T e w')
    (h : ∀ n s', T n s' → s'.mid = false ∧ n = n0 ∧ ∃ f', Sim s' r0 f') : PLeft w F b n0 r0 e w' := by
  obtain ⟨n, s', F', rfl, hT, hD, hk, hF⟩ := hl
  obtain ⟨h1, rfl, f', h2⟩ := h n s' hT
  exact ⟨rfl, F', ⟨s', f', hD, h1, h2⟩, hk, hF⟩
section
variable {w : World} {F : Nat → Prop} {b : Nat} {r : RSt}
theorem big_max {n : Nat} (h : n ≤ 281474976710656) : n ≤ maxLen := by unfold maxLen; omega
theorem pCreate_any (hP : PAt w F b r) (hc : RCan r 1) (k : ByteArray) (hk : k.size ≤ 281474976710656) :
    Calls Tryz.prog 45 #[at0 b, .string k] w (PLeft w F b (rCreate r k.data.toList).1 (rCreate r k.data.toList).2) := by
  obtain ⟨s, f, hD, hm, hs⟩ := hP
  have h1 := hc.done
  have h2 := hc.chs
  refine (Create_any hD hm (by rw [← hs.acts]; omega) (by rw [← hs.len]; omega) k (big_max hk)).mono fun e w' hl => PLeft.of hl fun n s' hT => ⟨?_, hs.create hD.wf hm hT⟩
  refine act_mid hT hm fun n s1 h1 => ?_
  rcases h1 with ⟨_, _, rfl⟩ | ⟨_, _, _, rfl⟩ | ⟨_, _, _, _, rfl⟩ | ⟨_, _, _, _, i, _, rfl⟩ <;> exact hm
theorem pAppend_any (hP : PAt w F b r) (hc : RCan r 1) (k : ByteArray) (hk : k.size ≤ 281474976710656) (A : Option Addr) (n c : Nat) (bs : Nm) (hsrc : Src w A n (bs.map byteV)) (hn : n ≤ 140737488355328) (hA : ∀ ad, A = some ad → 0 < n → ad.block < w.heap.size ∧ ¬ F ad.block) :
    Calls Tryz.prog 46 #[at0 b, .string k, .slice A n c] w (PLeft w F b (rAppend r k.data.toList bs).1 (rAppend r k.data.toList bs).2) := by
  obtain ⟨s, f, hD, hm, hs⟩ := hP
  have h1 := hc.done
  refine (Append_any hD (by rw [← hs.acts]; omega) k (big_max hk) A n c bs hsrc hn hA).mono fun e w' hl => PLeft.of hl fun n s' hT => ⟨?_, hs.append hD.wf hm hT⟩
  refine act_mid hT hm fun n s1 h1 => ?_
  rcases h1 with ⟨_, _, rfl⟩ | ⟨_, _, _, _, _, rfl⟩ | ⟨_, _, _, _, _, _, rfl⟩ | ⟨_, _, _, _, _, _, rfl⟩ <;> exact hm
theorem pSync_any (hP : PAt w F b r) (hc : RCan r 1) (k : ByteArray) (hk : k.size ≤ 281474976710656) :
    Calls Tryz.prog 47 #[at0 b, .string k] w (PLeft w F b (rSync r k.data.toList).1 (rSync r k.data.toList).2) := by
  obtain ⟨s, f, hD, hm, hs⟩ := hP
  have h1 := hc.done
  refine (Sync_any hD (by rw [← hs.acts]; omega) k (big_max hk)).mono fun e w' hl => PLeft.of hl fun n s' hT => ⟨?_, hs.sync hD.wf hm hT⟩
  refine act_mid hT hm fun n s1 h1 => ?_
  rcases h1 with ⟨_, _, rfl⟩ | ⟨_, _, _, _, rfl⟩ <;> exact hm
theorem pRemove_any (hP : PAt w F b r) (hc : RCan r 1) (k : ByteArray) (hk : k.size ≤ 281474976710656) :
    Calls Tryz.prog 89 #[at0 b, .string k] w (PLeft w F b (rRemove r k.data.toList).1 (rRemove r k.data.toList).2) := by
  obtain ⟨s, f, hD, hm, hs⟩ := hP
  have h1 := hc.done
  have h2 := hc.chs
  refine (Remove_any hD hm (by rw [← hs.acts]; omega) (by rw [← hs.len]; omega) k (big_max hk) fun _ => hk).mono fun e w' hl => PLeft.of hl fun n s' hT => ⟨?_, hs.remove hD.wf hm hT⟩
  refine act_mid hT hm fun n s1 h1 => ?_
  rcases h1 with ⟨_, _, rfl⟩ | ⟨_, _, rfl⟩ <;> exact hm
theorem pRename_any (hP : PAt w F b r) (hc : RCan r 1) (x y : ByteArray) (hx : x.size ≤ 281474976710656) (hy : y.size ≤ 281474976710656) :
    Calls Tryz.prog 82 #[at0 b, .string x, .string y] w (PLeft w F b (rRename r x.data.toList y.data.toList).1 (rRename r x.data.toList y.data.toList).2) := by
  obtain ⟨s, f, hD, hm, hs⟩ := hP
  have h1 := hc.done
  have h2 := hc.chs
  refine (Rename_any hD hm (by rw [← hs.acts]; omega) (by rw [← hs.len]; omega) x y (big_max hx) (fun _ => hx) (big_max hy)).mono fun e w' hl => PLeft.of hl fun n s' hT => ⟨?_, hs.rename hD.wf hm hT⟩
  refine act_mid hT hm fun n s1 h1 => ?_
  rcases h1 with ⟨_, _, rfl⟩ | ⟨_, _, _, rfl⟩ | ⟨_, _, _, _, rfl⟩ | ⟨_, _, _, i, _, rfl⟩ <;> exact hm
theorem pSyncDir_any (hP : PAt w F b r) (hc : RCan r 1) :
    Calls Tryz.prog 51 #[at0 b] w (PLeft w F b (rSyncDir r).1 (rSyncDir r).2) := by
  obtain ⟨s, f, hD, hm, hs⟩ := hP
  have h1 := hc.done
  refine (SyncDir_any hD (by rw [← hs.acts]; omega)).mono fun e w' hl => PLeft.of hl fun n s' hT => ⟨?_, hs.syncDir hD.wf hm hT⟩
  refine act_mid hT hm fun n s1 h1 => ?_
  obtain ⟨_, rfl⟩ := h1
  rfl
theorem pRead_any (hP : PAt w F b r) (k : ByteArray) (hk : k.size ≤ 281474976710656) :
    Calls Tryz.prog 52 #[at0 b, .string k] w fun e w' => ∃ v, e = .returned (.tuple #[v, .int .i64 (rRead r k.data.toList).2]) ∧ w'.ownsRow w.heap.size 5 1 v (rRead r k.data.toList).1.length ((rRead r k.data.toList).1.map byteV) ∧ Below w.heap.size w w' := by
  obtain ⟨s, f, hD, hm, hs⟩ := hP
  rw [hs.read hD.wf hm]
  exact Read_any hD k (big_max hk)
theorem pNames_any (hP : PAt w F b r) :
    Calls Tryz.prog 49 #[at0 b] w fun e w' => ∃ v, e = .returned v ∧ w'.ownsRow w.heap.size 9 1 v r.dir.length (nameCells r.dir) ∧ Below w.heap.size w w' := by
  obtain ⟨s, f, hD, hm, hs⟩ := hP
  have hn := hs.names hD.wf hm
  have e1 : r.dir.length = s.now.length := by simpa using congrArg List.length hn
  have e2 : nameCells r.dir = s.now.map fun p => encStr p.1 := by
    have e := congrArg (List.map encStr) hn
    rw [List.map_map, List.map_map] at e
    exact e
  rw [e1, e2]
  exact Names_any hD
theorem pFiles_any (hP : PAt w F b r) :
    Calls Tryz.prog 41 #[at0 b] w fun e w' => ∃ v, e = .returned v ∧ FilesRow w' w.heap.size v (rFiles r) ∧ Below w.heap.size w w' := by
  obtain ⟨s, f, hD, hm, hs⟩ := hP
  rw [hs.files hD.wf hm]
  exact Files_any hD
theorem PAt.files64 (hP : PAt w F b r) : r.dir.length ≤ 64 := by
  obtain ⟨s, f, hD, hm, hs⟩ := hP
  have hn := hs.names hD.wf hm
  have e1 : r.dir.length = s.now.length := by simpa using congrArg List.length hn
  have := hD.wf.nnow
  omega
theorem PAt.fit (hP : PAt w F b r) (k : Nm) : (rRead r k).1.length ≤ 262144 := by
  obtain ⟨s, f, hD, hm, hs⟩ := hP
  rw [hs.read hD.wf hm]
  unfold readOf
  split
  · simp
  · split
    · simp
    · rename_i i hi
      exact (hD.wf.fit i (hD.wf.now_id _ (dget_mem hi))).2
end
end Go.Proofs.YtmhiekbpmoikfaaGreatDoor
namespace Go.Proofs.YtmhiekbpmoikfaaGreatDoor
open Go.RowKit Go.Maps Go.WideMaps
set_option linter.unusedSimpArgs false

/-- A step: a function value that does g to the disk at b, from whatever state in which I holds. -/
def IsStep (w0 : World) (F0 : Nat → Prop) (b : Nat) (I : RSt → Prop) (v : Value) (g : Stp) : Prop :=
  ∃ (f : FuncId) (a c : Array Value), v = .func (.func f) a c ∧ (∀ args w, (callFunc f args).run Tryz.prog w = .ok (.enter f args) w) ∧
    ∀ w F r, R1Mov w0 F0 w F → PAt w F b r → I r → Calls Tryz.prog f (a ++ c) w (PLeft w F b (g r).1 (g r).2)

set_option maxHeartbeats 4000000 in
set_option maxRecDepth 100000 in
theorem do_any {w : World} {F : Nat → Prop} {b : Nat} {r : RSt} (hP : PAt w F b r) (A : Option Addr) (n c : Nat) (vs : List Value) (gs : List Stp) (hsrc : Src w A n vs) (hA : ∀ ad, A = some ad → 0 < n → ad.block < w.heap.size ∧ ¬ F ad.block)
    (hn : n ≤ 1099511627776) (hl : gs.length = n) (I : Nat → RSt → Prop) (h0 : I 0 r) (hI : ∀ i g r, gs[i]? = some g → I i r → I (i + 1) (g r).2) (hst : ∀ i v g, vs[i]? = some v → gs[i]? = some g → IsStep w F b (I i) v g) :
    Calls Tryz.prog 79 #[.slice A n c] w (PLeft w F b (rDo gs r).1 (rDo gs r).2) := by
  obtain ⟨R, hR⟩ : ∃ R, R = rDo gs r := ⟨_, rfl⟩
  rw [← hR]
  have HRW := Lib.hid hR
  have HP := Lib.hid hP
  have HSRC := Lib.hid hsrc
  have HA := Lib.hid hA
  have HL := Lib.hid hl
  have HI := Lib.hid hI
  have HST := Lib.hid hst
  have H0 := Lib.hid h0
  have HVL : Hid (vs.length = n) := Lib.hid hsrc.len
  clear hR hP hsrc hA hl hI hst h0
  go_enter Tryz.func79, Tryz.ntmps79
  go_wp2
  go_loopw [8] (fun iv wr => ∃ (i : Nat) (ri : RSt) (Fi : Nat → Prop), i ≤ n ∧ iv = .int .i64 i ∧ rDo (gs.drop i) ri = R ∧ I i ri ∧ R1Mov w F wr Fi ∧ PAt wr Fi b ri) (fun iv _ => n - (intOf iv).toNat)
  case atStart => exact ⟨0, r, F, by omega, rfl, by rw [List.drop_zero, HRW.out], H0.out, R1Mov.refl _ _, HP.out⟩
  case round =>
    obtain ⟨i, ri, Fi, hi, rfl, hrest, hii, hmov, hri⟩ := hrel
    have HRE := Lib.hid hrest
    have HII := Lib.hid hii
    have HMV := Lib.hid hmov
    have HRI := Lib.hid hri
    clear hrest hii hmov hri HRW H0 HP
    rcases Nat.lt_or_ge i n with hlt | hge
    · have hlt' : (i : Int) < (n : Int) := by omega
      have pi : (0 : Int) ≤ (i : Int) := by omega
      have hv : vs[i]? = some (vs[i]'(by rw [HVL.out]; exact hlt)) := List.getElem?_eq_getElem _
      have hg : gs[i]? = some (gs[i]'(by rw [HL.out]; exact hlt)) := List.getElem?_eq_getElem _
      obtain ⟨v, hve⟩ : ∃ v, v = vs[i]'(by rw [HVL.out]; exact hlt) := ⟨_, rfl⟩
      obtain ⟨g, hge⟩ : ∃ g, g = gs[i]'(by rw [HL.out]; exact hlt) := ⟨_, rfl⟩
      rw [← hve] at hv
      rw [← hge] at hg
      obtain ⟨f, a, cp, rfl, eg, hcl⟩ := HST.out i v g hv hg
      have hdr : gs.drop i = g :: gs.drop (i + 1) := by
        rw [List.drop_eq_getElem_cons (by rw [HL.out]; exact hlt), hge]
      obtain ⟨ad, hAd⟩ : ∃ ad, A = some ad := by
        cases A with
        | none => have := HSRC.out.nil rfl; omega
        | some ad => exact ⟨ad, rfl⟩
      subst hAd
      have hc : wr.cell? (ad.add i) = some (.func (.func f) a cp) := by
        obtain ⟨h1, h2⟩ := HA.out ad rfl (by omega)
        have h3 := HSRC.out.cells ad rfl i _ hv
        exact (World.cell?_of_block (by rw [addBlock]; exact HMV.out.kept.block _ h1 h2)).trans h3
      have hcl2 := hcl wr Fi ri HMV.out HRI.out HII.out
      have hn2 := HI.out i g ri hg HII.out
      have HR2 : Hid (R = if (g ri).1 ≠ 0 then g ri else rDo (gs.drop (i + 1)) (g ri).2) := Lib.hid (by rw [← HRE.out, hdr, rDo_cons])
      obtain ⟨n0, r0, h0⟩ : ∃ n s, g ri = (n, s) := ⟨_, _, rfl⟩
      rw [h0] at hcl2 hn2 HR2
      simp only at hcl2 hn2
      have HRS := Lib.hid HR2.out
      have HN2 := Lib.hid hn2
      have HCL := Lib.hid hcl2
      clear hv hg hve hge hcl hdr HR2 h0 hn2 hcl2 HRE HII
      go_wp2_with fail
      refine HCL.out.mono ?_
      rintro e y2 ⟨rfl, G2, hS1, hk1, hn1⟩
      have HM2 := Lib.hid (HMV.out.trans ⟨hk1, hn1⟩)
      have HS2 := Lib.hid hS1
      clear hk1 hn1 hS1 HCL
      by_cases e0 : n0 = 0
      case neg =>
        have d1 : (n0 != 0) = true := by simpa using e0
        have HE : Hid (R = (n0, r0)) := Lib.hid (by have h2 := HRS.out; rw [if_pos e0] at h2; exact h2)
        clear e0
        go_wp2
        go_ret
        rw [HE.out]
        exact HM2.out.left' HS2.out n0
      subst e0
      have HE : Hid (rDo (gs.drop (i + 1)) r0 = R) := Lib.hid (by have h2 := HRS.out; rw [if_neg (by simp)] at h2; exact h2.symm)
      clear HRS
      go_wp2
      go_roundw
      case rel => exact ⟨i + 1, r0, G2, by omega, by go_num, HE.out, HN2.out, HM2.out, HS2.out⟩
      case measure => simp [intOf]; omega
    · have hlz : ¬ ((i : Int) < (n : Int)) := by omega
      have HE : Hid (R = (0, ri)) := Lib.hid (by
        have h1 := HRE.out
        rw [List.drop_eq_nil_of_le (by have := HL.out; omega)] at h1
        exact h1.symm)
      obtain rfl : i = n := by omega
      clear HRE
      go_wp2
      go_ret
      rw [HE.out]
      exact HMV.out.left' HRI.out 0
end Go.Proofs.YtmhiekbpmoikfaaGreatDoor
namespace Go.Proofs.YtmhiekbpmoikfaaGreatDoor
open Go.RowKit Go.Maps Go.WideMaps
set_option linter.unusedSimpArgs false

set_option maxHeartbeats 1000000
set_option maxRecDepth 100000
theorem write1_any {w : World} {F : Nat → Prop} {b : Nat} {r : RSt} (hP : PAt w F b r) (hc : RCan r 1) (p q : Nat) (x : Nm) (hx : x.length ≤ 281474976710656) (h1 : w.cell? ⟨p, 0, none⟩ = some (at0 b)) (h2 : w.cell? ⟨q, 0, none⟩ = some (.string ⟨x.toArray⟩)) :
    Calls Tryz.prog 92 #[at0 p, at0 q] w (PLeft w F b (rRemove r x).1 (rRemove r x).2) := by
  have HC := Lib.hid (pRemove_any hP hc ⟨x.toArray⟩ hx)
  clear hP hc
  unfold at0 at *
  go_enter Tryz.func92, Tryz.ntmps92
  go_wp2_with fail
  refine HC.out.mono ?_
  rintro e w2 ⟨rfl, F2, hp2, hk2, hn2⟩
  go_wp2
  go_ret
  exact ⟨rfl, F2, hp2, hk2, hn2⟩
theorem write2_any {w : World} {F : Nat → Prop} {b : Nat} {r : RSt} (hP : PAt w F b r) (hc : RCan r 1) (p q : Nat) (x : Nm) (hx : x.length ≤ 281474976710656) (h1 : w.cell? ⟨p, 0, none⟩ = some (at0 b)) (h2 : w.cell? ⟨q, 0, none⟩ = some (.string ⟨x.toArray⟩)) :
    Calls Tryz.prog 93 #[at0 p, at0 q] w (PLeft w F b (rCreate r x).1 (rCreate r x).2) := by
  have HC := Lib.hid (pCreate_any hP hc ⟨x.toArray⟩ hx)
  clear hP hc
  unfold at0 at *
  go_enter Tryz.func93, Tryz.ntmps93
  go_wp2_with fail
  refine HC.out.mono ?_
  rintro e w2 ⟨rfl, F2, hp2, hk2, hn2⟩
  go_wp2
  go_ret
  exact ⟨rfl, F2, hp2, hk2, hn2⟩
theorem write3_any {w : World} {F : Nat → Prop} {b : Nat} {r : RSt} (hP : PAt w F b r) (hc : RCan r 1) (p q o : Nat) (x : Nm) (hx : x.length ≤ 281474976710656) (h1 : w.cell? ⟨p, 0, none⟩ = some (at0 b)) (h2 : w.cell? ⟨q, 0, none⟩ = some (.string ⟨x.toArray⟩)) (A : Option Addr) (n c : Nat) (bs : Nm) (h3 : w.cell? ⟨o, 0, none⟩ = some (.slice A n c)) (hbs : BytesIn w A n bs) (hn : n ≤ 140737488355328) (hA : ∀ ad, A = some ad → 0 < n → ¬ F ad.block) :
    Calls Tryz.prog 94 #[at0 p, at0 q, at0 o] w (PLeft w F b (rAppend r x bs).1 (rAppend r x bs).2) := by
  have HC := Lib.hid (pAppend_any hP hc ⟨x.toArray⟩ hx A n c bs hbs.2.1 hn (fun ad e h0 => ⟨hbs.2.2 ad e h0, hA ad e h0⟩))
  clear hP hc hbs hA
  unfold at0 at *
  go_enter Tryz.func94, Tryz.ntmps94
  go_wp2_with fail
  refine HC.out.mono ?_
  rintro e w2 ⟨rfl, F2, hp2, hk2, hn2⟩
  go_wp2
  go_ret
  exact ⟨rfl, F2, hp2, hk2, hn2⟩
theorem write4_any {w : World} {F : Nat → Prop} {b : Nat} {r : RSt} (hP : PAt w F b r) (hc : RCan r 1) (p q : Nat) (x : Nm) (hx : x.length ≤ 281474976710656) (h1 : w.cell? ⟨p, 0, none⟩ = some (at0 b)) (h2 : w.cell? ⟨q, 0, none⟩ = some (.string ⟨x.toArray⟩)) :
    Calls Tryz.prog 95 #[at0 p, at0 q] w (PLeft w F b (rSync r x).1 (rSync r x).2) := by
  have HC := Lib.hid (pSync_any hP hc ⟨x.toArray⟩ hx)
  clear hP hc
  unfold at0 at *
  go_enter Tryz.func95, Tryz.ntmps95
  go_wp2_with fail
  refine HC.out.mono ?_
  rintro e w2 ⟨rfl, F2, hp2, hk2, hn2⟩
  go_wp2
  go_ret
  exact ⟨rfl, F2, hp2, hk2, hn2⟩
theorem stepInfo : (Tryz.prog.info? 81).map (fun i => (i.zero, i.size, i.bytes)) = some (some .nilFunc, 1, 8) := by kernel_rfl
/-- What lies in the boxes stays there while a disk is changed. -/
theorem R1Mov.cell {w w' : World} {F F' : Nat → Prop} (h : R1Mov w F w' F') {a : Addr} {v : Value} (hc : w.cell? a = some v) (ha : ¬ F a.block) : w'.cell? a = some v :=
  (World.cell?_of_block (h.kept.block _ (World.block_lt_of_cell? w _ hc) ha)).trans hc
set_option maxHeartbeats 16000000 in
theorem pWrite_any {w : World} {F : Nat → Prop} {b : Nat} {r : RSt} (hP : PAt w F b r) (hC : RCan r 4) (x : Nm) (hx : x.length ≤ 281474976710656) (A : Option Addr) (n c : Nat) (bs : Nm) (hbs : BytesIn w A n bs) (hn : n ≤ 140737488355328) (hA : ∀ ad, A = some ad → 0 < n → ¬ F ad.block) :
    Calls Tryz.prog 32 #[at0 b, .string ⟨x.toArray⟩, .slice A n c] w (PLeft w F b (rWrite r x bs).1 (rWrite r x bs).2) := by
  obtain ⟨i0, hi, hz0, hz1, hz2⟩ := info_parts stepInfo
  obtain ⟨w1, hw1⟩ : ∃ w1, w1 = ((w.alloc (.cells #[at0 b] 42)).alloc (.cells #[.string ⟨x.toArray⟩] 9)).alloc (.cells #[.slice A n c] 25) := ⟨_, rfl⟩
  have hb1 : Below w.heap.size w w1 := by
    rw [hw1]
    exact (((Below.refl _ w).alloc (Nat.le_refl _) _).alloc (by simp) _).alloc (by simp; omega) _
  obtain ⟨p, hp⟩ : ∃ p, p = w.heap.size := ⟨_, rfl⟩
  have k0 : w1.cell? ⟨p, 0, none⟩ = some (at0 b) := by
    have : Blk w1 p 42 #[at0 b] := by rw [hw1, hp]; exact ((Blk.new _ _ _).alloc _).alloc _
    simpa using this.cell 0
  have k1 : w1.cell? ⟨p + 1, 0, none⟩ = some (.string ⟨x.toArray⟩) := by
    have : Blk w1 (p + 1) 9 #[.string ⟨x.toArray⟩] := by
      rw [hw1, hp]
      have := Blk.new (w.alloc (.cells #[at0 b] 42)) 9 #[.string ⟨x.toArray⟩]
      exact Blk.alloc (by simpa using this) _
    simpa using this.cell 0
  have k2 : w1.cell? ⟨p + 1 + 1, 0, none⟩ = some (.slice A n c) := by
    have : Blk w1 (p + 1 + 1) 25 #[.slice A n c] := by
      rw [hw1, hp]
      simpa using Blk.new ((w.alloc (.cells #[at0 b] 42)).alloc (.cells #[.string ⟨x.toArray⟩] 9)) 25 #[.slice A n c]
    simpa using this.cell 0
  have hnf : ∀ i, p ≤ i → ¬ F i := fun i h hf => by have := hP.lt _ hf; omega
  have hnd : r.dir.length ≤ 100000 := by have := hC.dir; omega
  have hnc : nameCells r.dir = (r.dir.map (·.1)).map encStr := by unfold nameCells; rw [List.map_map]; rfl
  obtain ⟨tb, htb⟩ : ∃ tb, tb = rThere r x := ⟨_, rfl⟩
  have hTH : (r.dir.map (·.1)).any (· == x) = tb := by rw [htb]; unfold rThere; rw [List.any_map]; rfl
  have HTB := Lib.hid htb
  obtain ⟨dn, hdn⟩ : ∃ dn, dn = r.dir.length := ⟨_, rfl⟩
  obtain ⟨R, hR⟩ : ∃ R, R = rWrite r x bs := ⟨_, rfl⟩
  rw [← hR]
  have hRD : R = rDo (wSteps r x bs) r := by rw [hR, rWrite_do]
  have HRD := Lib.hid hRD
  have HP1 := Lib.hid (hP.below hb1)
  have HW1 := Lib.hid hw1
  have HB1 := Lib.hid hb1
  have HPP : Hid (w.heap.size = p) := Lib.hid hp.symm
  have HK0 := Lib.hid k0
  have HK1 := Lib.hid k1
  have HK2 := Lib.hid k2
  have HNF := Lib.hid hnf
  have HC := Lib.hid hC
  have HNC := Lib.hid hnc
  have HTH := Lib.hid hTH
  have HDN := Lib.hid hdn
  have HBS := Lib.hid (hbs.below hb1)
  have HA := Lib.hid hA
  have hps : p + 3 ≤ w1.heap.size := by rw [hw1, hp]; simp
  have HCN := Lib.hid (pNames_any (HP1.out.drew))
  rw [HDN.out.symm] at hnd HCN
  clear hP hC hbs hA hb1 hnf hnc hTH hR hRD hp hdn htb
  unfold at0
  go_enter Tryz.func32, Tryz.ntmps32
  go_wp2_with fail
  unfold at0 at *
  rw [← HW1.out, HPP.out]
  clear hw1 k0 k1 k2
  refine wp_region_held_drew (S := fun u => u.cell? ⟨p, 0, none⟩ = some (.pointer (some ⟨b, 0, none⟩)) ∧ u.cell? ⟨p + 1, 0, none⟩ = some (.string ⟨x.toArray⟩)) (by kernel_rfl) ?_ (fun hHeld => ?_)
  · exact ⟨HK0.out, HK1.out⟩
  refine wpAnyH_take (i := 0) (oi := ?oit0) (v := ?vt0) ?hit0 (by kernel_rfl) (by kernel_rfl) (by kernel_rfl) ?hQt0 (Or.inl ⟨?hwt0, ?hyt0⟩) (by assumption) ?restt0
  case hit0 => (first | (simp only [List.getElem?_toArray, List.getElem?_cons_zero, List.getElem?_cons_succ]; rfl) | rfl)
  case hQt0 => exact fun _ _ _ h => h
  case hwt0 => rfl
  case hyt0 => ((intro w hSw; obtain ⟨q0, q1⟩ := hSw; go_simp); first | done | with_reducible rfl)
  try simp only [Act.put, List.setIfInBounds_toArray, List.set_cons_zero, List.set_cons_succ]
  refine wpAnyH_take (i := 2) (oi := ?oit2) (v := ?vt2) ?hit2 (by kernel_rfl) (by kernel_rfl) (by kernel_rfl) ?hQt2 (Or.inl ⟨?hwt2, ?hyt2⟩) (by assumption) ?restt2
  case hit2 => (first | (simp only [List.getElem?_toArray, List.getElem?_cons_zero, List.getElem?_cons_succ]; rfl) | rfl)
  case hQt2 => exact fun _ _ _ h => h
  case hwt2 => rfl
  case hyt2 => ((intro w hSw; obtain ⟨q0, q1⟩ := hSw; go_simp); first | done | with_reducible rfl)
  try simp only [Act.put, List.setIfInBounds_toArray, List.set_cons_zero, List.set_cons_succ]
  refine wpAnyH_ready (rs := [1]) (by kernel_rfl) (by simp) ?_
  refine AllReadyH.cons (o := ?oc1) ?hcc1 ?stc1 AllReadyH.nil
  case hcc1 => (simp only [List.getElem?_toArray, List.getElem?_cons_zero, List.getElem?_cons_succ]; rfl)
  intro K hK
  go_simp
  refine HCN.out.mono ?_
  rintro e w2 ⟨v6, rfl, hrow6, hb2⟩
  obtain ⟨Al, cl, hv, hpl⟩ := own_plain hrow6
  subst hv
  rw [HNC.out] at hrow6
  have hnm6 := NamesIn.own hrow6 hnd
  have hhas := contains_any w2 Al dn cl _ hnm6 hpl x
  rw [HTH.out] at hhas
  have HHAS := Lib.hid hhas
  clear hhas
  have hb2' : Below w1.heap.size w1 w2 := ⟨hb2.os, hb2.tape, hb2.output, hb2.size, hb2.block⟩
  have HS2 : Hid (w2.cell? ⟨p, 0, none⟩ = some (.pointer (some ⟨b, 0, none⟩)) ∧ w2.cell? ⟨p + 1, 0, none⟩ = some (.string ⟨x.toArray⟩)) := Lib.hid ⟨below_cells hb2' HK0.out, below_cells hb2' HK1.out⟩
  have HB2 := Lib.hid hb2'
  clear hrow6 hnm6 hpl hb2 hb2' HCN
  go_wp2_with fail
  refine hK.out _ _ HS2.out (fun _ => ?_)
  clear hK K
  try simp only [Act.put, List.setIfInBounds_toArray, List.set_cons_zero, List.set_cons_succ]
  refine wpAnyH_ready (rs := [3]) (by kernel_rfl) (by simp) ?_
  refine AllReadyH.cons (o := ?oc2) ?hcc2 ?stc2 AllReadyH.nil
  case hcc2 => (simp only [List.getElem?_toArray, List.getElem?_cons_zero, List.getElem?_cons_succ]; rfl)
  intro K hK
  go_simp
  refine HHAS.out.mono ?_
  rintro e w3 ⟨rfl, e3⟩
  have e3' := e3.symm
  subst e3'
  clear e3
  go_wp2_with fail
  refine hK.out _ _ HS2.out (fun _ => ?_)
  clear hK K HHAS
  try simp only [Act.put, List.setIfInBounds_toArray, List.set_cons_zero, List.set_cons_succ]
  refine wpAnyH_done (by kernel_rfl) ?_ _
  have HP2 := Lib.hid (HP1.out.below HB2.out)
  have h2s : w1.heap.size ≤ w2.heap.size := HB2.out.size
  have HBS2 : Hid (BytesIn w2 A n bs) := Lib.hid (HBS.out.below HB2.out)
  have HC0 : Hid (w2.cell? ⟨p, 0, none⟩ = some (at0 b)) := Lib.hid HS2.out.1
  have HC1 : Hid (w2.cell? ⟨p + 1, 0, none⟩ = some (.string ⟨x.toArray⟩)) := Lib.hid HS2.out.2
  have HC2 : Hid (w2.cell? ⟨p + 1 + 1, 0, none⟩ = some (.slice A n c)) := Lib.hid (below_cells HB2.out HK2.out)
  have HMV2 : Hid (R1Mov w F w2 F) := Lib.hid ((R1Mov.refl w F).below (below_then HB1.out HB2.out HB1.out.size))
  have HLT2 := Lib.hid HP2.out.lt
  clear HS2 HK0 HK1 HK2 HBS HP1 HB2 HB1 HTH HDN HNC hnd
  cases tb with
  | true =>
    go_wp2_with (first | (at_builtin; refine wpList_append_own _ rfl _ _ 130 rfl w2.heap.size 81 i0 _ 1 8 Tryz.underlying130 hi hz0 hz1 hz2 rfl (by decide) _ 0 _ rfl (World.ownsRow_nil _ _ _ _) ⟨w2.heap.size, 0, none⟩ 1 1 [.func (.func 92) #[] #[.pointer (some ⟨p, 0, none⟩), .pointer (some ⟨p + 1, 0, none⟩)]] rfl rfl (by intro i u hu; rw [Addr.add_mid, cell_of_row _ _ _ _ _ _ (heap_alloc_new w2 _)]; simpa using hu) (by intro u hu; simp at hu; rcases hu with rfl <;> rfl) (by unfold maxLen; omega) (by omega) (by simp) ?_; intro v3 w3 hown3 hgrow3 hnil3; clear hnil3) | (at_builtin; refine wpList_append_own _ rfl _ _ 130 rfl w2.heap.size 81 i0 _ 1 8 Tryz.underlying130 hi hz0 hz1 hz2 rfl (by decide) _ 1 _ rfl (World.ownsRow.alloc hown3 _) ⟨w3.heap.size, 0, none⟩ 3 3 [.func (.func 93) #[] #[.pointer (some ⟨p, 0, none⟩), .pointer (some ⟨p + 1, 0, none⟩)], .func (.func 94) #[] #[.pointer (some ⟨p, 0, none⟩), .pointer (some ⟨p + 1, 0, none⟩), .pointer (some ⟨p + 1 + 1, 0, none⟩)], .func (.func 95) #[] #[.pointer (some ⟨p, 0, none⟩), .pointer (some ⟨p + 1, 0, none⟩)]] rfl rfl (by intro i u hu; rw [Addr.add_mid, cell_of_row _ _ _ _ _ _ (heap_alloc_new w3 _)]; simpa using hu) (by intro u hu; simp at hu; rcases hu with rfl | rfl | rfl <;> rfl) (by unfold maxLen; omega) (by omega) (by have := hgrow3.size; simp at this ⊢; omega) ?_; intro v4 w4 hown4 hgrow4 hnil4; clear hnil4))

    have HO4 : Hid (w4.ownsRow w2.heap.size 81 1 v4 4 [.func (.func 92) #[] #[.pointer (some ⟨p, 0, none⟩), .pointer (some ⟨p + 1, 0, none⟩)], .func (.func 93) #[] #[.pointer (some ⟨p, 0, none⟩), .pointer (some ⟨p + 1, 0, none⟩)], .func (.func 94) #[] #[.pointer (some ⟨p, 0, none⟩), .pointer (some ⟨p + 1, 0, none⟩), .pointer (some ⟨p + 1 + 1, 0, none⟩)], .func (.func 95) #[] #[.pointer (some ⟨p, 0, none⟩), .pointer (some ⟨p + 1, 0, none⟩)]]) := Lib.hid (by simpa using hown4)
    have HB4 : Hid (Below w2.heap.size w2 w4) := Lib.hid ((((((Below.refl _ w2).alloc (Nat.le_refl _) _).grown hgrow3 (by simp) (fun k e => by cases e)).alloc (by have := hgrow3.size; simp at this; omega) _).grown hgrow4 (by have := hgrow3.size; simp at this ⊢; omega) (fun g hg => (hown3.lt g hg).1)))
    clear hown4 hgrow4
    obtain ⟨A4, c4, hv4, -⟩ := own_plain HO4.out
    subst hv4
    have HSR := Lib.hid (src_of_own HO4.out)
    have HLTO : Hid (∀ ad, A4 = some ad → 0 < 4 → ad.block < w4.heap.size ∧ w2.heap.size ≤ ad.block) := Lib.hid (fun ad e _ => by
      have := HO4.out.lt ad.block (by rw [e]; rfl)
      exact ⟨this.2, this.1⟩)
    have HP4 := Lib.hid (HP2.out.below HB4.out)
    have HM4 := Lib.hid (HMV2.out.below HB4.out)
    have HBS4 := Lib.hid (HBS2.out.below HB4.out)
    have HG : Hid (R = rDo [fun r => rRemove r x, fun r => rCreate r x, fun r => rAppend r x bs, fun r => rSync r x] r) := Lib.hid (by rw [HRD.out]; unfold wSteps; rw [← HTB.out]; rfl)
    have key0 := below_cells HB4.out HC0.out
    have key1 := below_cells HB4.out HC1.out
    have key2 := below_cells HB4.out HC2.out
    have HDO := Lib.hid (do_any HP4.out A4 4 c4 _ [fun r => rRemove r x, fun r => rCreate r x, fun r => rAppend r x bs, fun r => rSync r x] HSR.out (fun ad e h0 => by
        obtain ⟨h1, h2⟩ := HLTO.out ad e h0
        exact ⟨h1, fun hf => by have := HLT2.out _ hf; omega⟩) (by omega) rfl (fun i r => RCan r (4 - i)) HC.out (fun i g r hg hr => by
        match i, hg with
        | 0, hg => cases hg; exact (RCan.mono hr (show 3 + 1 ≤ 4 - 0 by omega)).remove x
        | 1, hg => cases hg; exact (RCan.mono hr (show 2 + 1 ≤ 4 - 1 by omega)).create x
        | 2, hg => cases hg; exact (RCan.mono hr (show 1 + 1 ≤ 4 - 2 by omega)).append x bs
        | 3, hg => cases hg; exact (RCan.mono hr (show 0 + 1 ≤ 4 - 3 by omega)).sync x
        | j + 4, hg => simp at hg) (fun i v g hv hg => by
        match i, hv, hg with
        | 0, hv, hg =>
          cases hv; cases hg
          exact ⟨92, #[], #[.pointer (some ⟨p, 0, none⟩), .pointer (some ⟨p + 1, 0, none⟩)], rfl, enters_of Tryz.func92 (by kernel_rfl) rfl, fun y G s hm hp hr => write1_any hp (hr.mono (by omega)) p (p + 1) x hx (hm.cell key0 (HNF.out _ (by simp))) (hm.cell key1 (HNF.out _ (by simp)))⟩
        | 1, hv, hg =>
          cases hv; cases hg
          exact ⟨93, #[], #[.pointer (some ⟨p, 0, none⟩), .pointer (some ⟨p + 1, 0, none⟩)], rfl, enters_of Tryz.func93 (by kernel_rfl) rfl, fun y G s hm hp hr => write2_any hp (hr.mono (by omega)) p (p + 1) x hx (hm.cell key0 (HNF.out _ (by simp))) (hm.cell key1 (HNF.out _ (by simp)))⟩
        | 2, hv, hg =>
          cases hv; cases hg
          refine ⟨94, #[], #[.pointer (some ⟨p, 0, none⟩), .pointer (some ⟨p + 1, 0, none⟩), .pointer (some ⟨p + 1 + 1, 0, none⟩)], rfl, enters_of Tryz.func94 (by kernel_rfl) rfl, fun y G s hm hp hr => ?_⟩
          obtain ⟨hy1, hy2⟩ := hm.bytes HBS4.out HA.out
          exact write3_any hp (hr.mono (by omega)) p (p + 1) (p + 1 + 1) x hx (hm.cell key0 (HNF.out _ (by simp))) (hm.cell key1 (HNF.out _ (by simp))) A n c bs (hm.cell key2 (HNF.out _ (by simp; omega))) hy1 hn hy2
        | 3, hv, hg =>
          cases hv; cases hg
          exact ⟨95, #[], #[.pointer (some ⟨p, 0, none⟩), .pointer (some ⟨p + 1, 0, none⟩)], rfl, enters_of Tryz.func95 (by kernel_rfl) rfl, fun y G s hm hp hr => write4_any hp (hr.mono (by omega)) p (p + 1) x hx (hm.cell key0 (HNF.out _ (by simp))) (hm.cell key1 (HNF.out _ (by simp)))⟩
        | j + 4, hv, hg => simp at hg))
    clear key0 key1 key2
    go_wp2_with fail
    refine HDO.out.mono ?_
    intro e w5 hl
    rw [← HG.out] at hl
    have hl2 := HM4.out.left_' hl
    obtain ⟨rfl, F5, hp5, hk5, hn5⟩ := hl2
    have HFIN := Lib.hid (show PLeft w F b R.1 R.2 (.returned (.int .i64 R.1)) w5 from ⟨rfl, F5, hp5, hk5, hn5⟩)
    clear hl hp5 hk5 hn5
    go_wp2
    go_ret
    exact HFIN.out
  | false =>
    go_wp2_with (at_builtin; refine wpList_append_own _ rfl _ _ 130 rfl w2.heap.size 81 i0 _ 1 8 Tryz.underlying130 hi hz0 hz1 hz2 rfl (by decide) _ 0 _ rfl (World.ownsRow_nil _ _ _ _) ⟨w2.heap.size, 0, none⟩ 3 3 [.func (.func 93) #[] #[.pointer (some ⟨p, 0, none⟩), .pointer (some ⟨p + 1, 0, none⟩)], .func (.func 94) #[] #[.pointer (some ⟨p, 0, none⟩), .pointer (some ⟨p + 1, 0, none⟩), .pointer (some ⟨p + 1 + 1, 0, none⟩)], .func (.func 95) #[] #[.pointer (some ⟨p, 0, none⟩), .pointer (some ⟨p + 1, 0, none⟩)]] rfl rfl (by intro i u hu; rw [Addr.add_mid, cell_of_row _ _ _ _ _ _ (heap_alloc_new w2 _)]; simpa using hu) (by intro u hu; simp at hu; rcases hu with rfl | rfl | rfl <;> rfl) (by unfold maxLen; omega) (by omega) (by simp) ?_; intro v4 w4 hown4 hgrow4 hnil4; clear hnil4)

    have HO4 : Hid (w4.ownsRow w2.heap.size 81 1 v4 3 [.func (.func 93) #[] #[.pointer (some ⟨p, 0, none⟩), .pointer (some ⟨p + 1, 0, none⟩)], .func (.func 94) #[] #[.pointer (some ⟨p, 0, none⟩), .pointer (some ⟨p + 1, 0, none⟩), .pointer (some ⟨p + 1 + 1, 0, none⟩)], .func (.func 95) #[] #[.pointer (some ⟨p, 0, none⟩), .pointer (some ⟨p + 1, 0, none⟩)]]) := Lib.hid (by simpa using hown4)
    have HB4 : Hid (Below w2.heap.size w2 w4) := Lib.hid (((Below.refl _ w2).alloc (Nat.le_refl _) _).grown hgrow4 (by simp) (fun k e => by cases e))
    clear hown4 hgrow4
    obtain ⟨A4, c4, hv4, -⟩ := own_plain HO4.out
    subst hv4
    have HSR := Lib.hid (src_of_own HO4.out)
    have HLTO : Hid (∀ ad, A4 = some ad → 0 < 3 → ad.block < w4.heap.size ∧ w2.heap.size ≤ ad.block) := Lib.hid (fun ad e _ => by
      have := HO4.out.lt ad.block (by rw [e]; rfl)
      exact ⟨this.2, this.1⟩)
    have HP4 := Lib.hid (HP2.out.below HB4.out)
    have HM4 := Lib.hid (HMV2.out.below HB4.out)
    have HBS4 := Lib.hid (HBS2.out.below HB4.out)
    have HG : Hid (R = rDo [fun r => rCreate r x, fun r => rAppend r x bs, fun r => rSync r x] r) := Lib.hid (by rw [HRD.out]; unfold wSteps; rw [← HTB.out]; rfl)
    have key0 := below_cells HB4.out HC0.out
    have key1 := below_cells HB4.out HC1.out
    have key2 := below_cells HB4.out HC2.out
    have HDO := Lib.hid (do_any HP4.out A4 3 c4 _ [fun r => rCreate r x, fun r => rAppend r x bs, fun r => rSync r x] HSR.out (fun ad e h0 => by
        obtain ⟨h1, h2⟩ := HLTO.out ad e h0
        exact ⟨h1, fun hf => by have := HLT2.out _ hf; omega⟩) (by omega) rfl (fun i r => RCan r (4 - i)) HC.out (fun i g r hg hr => by
        match i, hg with
        | 0, hg => cases hg; exact (RCan.mono hr (show 3 + 1 ≤ 4 - 0 by omega)).create x
        | 1, hg => cases hg; exact (RCan.mono hr (show 2 + 1 ≤ 4 - 1 by omega)).append x bs
        | 2, hg => cases hg; exact (RCan.mono hr (show 1 + 1 ≤ 4 - 2 by omega)).sync x
        | j + 3, hg => simp at hg) (fun i v g hv hg => by
        match i, hv, hg with
        | 0, hv, hg =>
          cases hv; cases hg
          exact ⟨93, #[], #[.pointer (some ⟨p, 0, none⟩), .pointer (some ⟨p + 1, 0, none⟩)], rfl, enters_of Tryz.func93 (by kernel_rfl) rfl, fun y G s hm hp hr => write2_any hp (hr.mono (by omega)) p (p + 1) x hx (hm.cell key0 (HNF.out _ (by simp))) (hm.cell key1 (HNF.out _ (by simp)))⟩
        | 1, hv, hg =>
          cases hv; cases hg
          refine ⟨94, #[], #[.pointer (some ⟨p, 0, none⟩), .pointer (some ⟨p + 1, 0, none⟩), .pointer (some ⟨p + 1 + 1, 0, none⟩)], rfl, enters_of Tryz.func94 (by kernel_rfl) rfl, fun y G s hm hp hr => ?_⟩
          obtain ⟨hy1, hy2⟩ := hm.bytes HBS4.out HA.out
          exact write3_any hp (hr.mono (by omega)) p (p + 1) (p + 1 + 1) x hx (hm.cell key0 (HNF.out _ (by simp))) (hm.cell key1 (HNF.out _ (by simp))) A n c bs (hm.cell key2 (HNF.out _ (by simp; omega))) hy1 hn hy2
        | 2, hv, hg =>
          cases hv; cases hg
          exact ⟨95, #[], #[.pointer (some ⟨p, 0, none⟩), .pointer (some ⟨p + 1, 0, none⟩)], rfl, enters_of Tryz.func95 (by kernel_rfl) rfl, fun y G s hm hp hr => write4_any hp (hr.mono (by omega)) p (p + 1) x hx (hm.cell key0 (HNF.out _ (by simp))) (hm.cell key1 (HNF.out _ (by simp)))⟩
        | j + 3, hv, hg => simp at hg))
    clear key0 key1 key2
    go_wp2_with fail
    refine HDO.out.mono ?_
    intro e w5 hl
    rw [← HG.out] at hl
    have hl2 := HM4.out.left_' hl
    obtain ⟨rfl, F5, hp5, hk5, hn5⟩ := hl2
    have HFIN := Lib.hid (show PLeft w F b R.1 R.2 (.returned (.int .i64 R.1)) w5 from ⟨rfl, F5, hp5, hk5, hn5⟩)
    clear hl hp5 hk5 hn5
    go_wp2
    go_ret
    exact HFIN.out
end Go.Proofs.YtmhiekbpmoikfaaGreatDoor
namespace Go.Proofs.YtmhiekbpmoikfaaGreatDoor
open Go.RowKit Go.Maps Go.WideMaps
set_option linter.unusedSimpArgs false

set_option maxHeartbeats 1000000
set_option maxRecDepth 100000
theorem save1_any {w : World} {F : Nat → Prop} {b : Nat} {r : RSt} (hP : PAt w F b r) (hc : RCan r 4) (p q : Nat) (h1 : w.cell? ⟨p, 0, none⟩ = some (at0 b)) (A : Option Addr) (n c : Nat) (bs : Nm) (h2 : w.cell? ⟨q, 0, none⟩ = some (.slice A n c)) (hbs : BytesIn w A n bs) (hn : n ≤ 140737488355328) (hA : ∀ ad, A = some ad → 0 < n → ¬ F ad.block) :
    Calls Tryz.prog 80 #[at0 p, at0 q] w (PLeft w F b (rWrite r manNewN bs).1 (rWrite r manNewN bs).2) := by
  have hw := pWrite_any hP hc manNewN (by decide) A n c bs hbs hn hA
  rw [show (⟨manNewN.toArray⟩ : ByteArray) = ⟨#[109, 97, 110, 46, 110, 101, 119]⟩ from rfl] at hw
  have HC := Lib.hid hw
  clear hP hc hbs hA hw
  unfold at0 at *
  go_enter Tryz.func80, Tryz.ntmps80
  go_wp2_with fail
  refine HC.out.mono ?_
  rintro e w2 ⟨rfl, F2, hp2, hk2, hn2⟩
  go_wp2
  go_ret
  exact ⟨rfl, F2, hp2, hk2, hn2⟩
theorem save2_any {w : World} {F : Nat → Prop} {b : Nat} {r : RSt} (hP : PAt w F b r) (hc : RCan r 1) (p : Nat) (h1 : w.cell? ⟨p, 0, none⟩ = some (at0 b)) :
    Calls Tryz.prog 81 #[at0 p] w (PLeft w F b (rRename r manNewN manN).1 (rRename r manNewN manN).2) := by
  have hw := pRename_any hP hc ⟨manNewN.toArray⟩ ⟨manN.toArray⟩ (by decide) (by decide)
  rw [show (⟨manNewN.toArray⟩ : ByteArray) = ⟨#[109, 97, 110, 46, 110, 101, 119]⟩ from rfl, show (⟨manN.toArray⟩ : ByteArray) = ⟨#[109, 97, 110]⟩ from rfl] at hw
  have HC := Lib.hid hw
  clear hP hc hw
  unfold at0 at *
  go_enter Tryz.func81, Tryz.ntmps81
  go_wp2_with fail
  refine HC.out.mono ?_
  rintro e w2 ⟨rfl, F2, hp2, hk2, hn2⟩
  go_wp2
  go_ret
  exact ⟨rfl, F2, hp2, hk2, hn2⟩
theorem fn_src (w : World) (vs : List Value) (n : Nat) (hn : vs.length = n) : Src (w.alloc (.cells vs.toArray 81)) (some ⟨w.heap.size, 0, none⟩) n vs :=
  ⟨hn, fun ad e j u hu => by
    injection e with e
    subst e
    rw [Addr.add_mid, World.cell?_alloc_mark]
    simpa using hu, fun e => by cases e⟩
def sCan : Nat → Nat
  | 0 => 7
  | 1 => 3
  | 2 => 2
  | 3 => 1
  | _ => 0
set_option maxHeartbeats 16000000 in
theorem pSave_any {w : World} {F : Nat → Prop} {b : Nat} {r : RSt} (hP : PAt w F b r) (hC : RCan r 7) (m : Mf) (A : Option Addr) (n c : Nat) (h : RefsIn w A n m.refs) :
    Calls Tryz.prog 26 #[at0 b, .agg #[.int .i64 m.gen, .int .i64 m.next, .slice A n c]] w (PLeft w F b (rSave r m).1 (rSave r m).2) := by
  obtain ⟨w1, hw1⟩ : ∃ w1, w1 = (w.alloc (.cells #[at0 b] 42)).alloc (.cells #[.int .i64 m.gen, .int .i64 m.next, .slice A n c] 24) := ⟨_, rfl⟩
  obtain ⟨p, hp⟩ : ∃ p, p = w.heap.size := ⟨_, rfl⟩
  have hb1 : Below w.heap.size w w1 := by
    rw [hw1]
    exact ((Below.refl _ w).alloc (Nat.le_refl _) _).alloc (by simp) _
  have hk0 : Blk w1 p 42 #[at0 b] := by rw [hw1, hp]; exact (Blk.new _ _ _).alloc _
  have hk1 : Blk w1 (p + 1) 24 #[.int .i64 m.gen, .int .i64 m.next, .slice A n c] := by
    have := Blk.new (w.alloc (.cells #[at0 b] 42)) 24 #[.int .i64 m.gen, .int .i64 m.next, .slice A n c]
    rw [World.size_alloc] at this
    rw [hw1, hp]
    exact this
  have HK0 := Lib.hid hk0
  have m0 := hk1.cell 0
  have m1 := hk1.cell 1
  have m2 := hk1.cell 2
  simp only [List.getElem?_toArray, List.getElem?_cons_zero, List.getElem?_cons_succ] at m0 m1 m2
  have HNF : Hid (∀ i, p ≤ i → ¬ F i) := Lib.hid (fun i h hf => by have := hP.lt _ hf; omega)
  have HP1 := Lib.hid (hP.below hb1)
  have HB1 := Lib.hid hb1
  have HC := Lib.hid hC
  have HPUT := Lib.hid (pPut_any w1 m A n c (h.below hb1))
  have HW1 := Lib.hid hw1
  have HPP : Hid (w.heap.size = p) := Lib.hid hp.symm
  have hps : p + 2 ≤ w1.heap.size := by rw [hw1, hp]; simp
  obtain ⟨R, hR⟩ : ∃ R, R = rSave r m := ⟨_, rfl⟩
  rw [← hR]
  have HR := Lib.hid hR
  clear hw1 hb1 hk0 hk1 hP hC h hR hp
  unfold at0 at *
  go_enter Tryz.func26, Tryz.ntmps26
  go_wp2_with fail
  rw [← HW1.out, HPP.out]
  refine HPUT.out.mono ?_
  rintro e w2 ⟨hb2, hyes, hno⟩
  have HB2 := Lib.hid hb2
  have hs2 : w1.heap.size ≤ w2.heap.size := hb2.size
  have HP2 := Lib.hid (HP1.out.below hb2)
  have HK2 := Lib.hid (HK0.out.below hb2 HK0.out.lt)
  have HM2 : Hid (R1Mov w F w2 F) := Lib.hid ((R1Mov.refl w F).below (below_then HB1.out hb2 HB1.out.size))
  clear hb2 HPUT m0 m1 m2 HP1
  by_cases hm : mOk m
  case neg =>
    obtain rfl := hno hm
    have HE : Hid (R = (1, r)) := Lib.hid (by rw [HR.out]; unfold rSave; rw [if_pos (by rw [mErr_one hm]; simp), mErr_one hm])
    have HPB := Lib.hid (HP2.out.alloc (.cells #[.slice none 0 0] 25))
    have HMB := Lib.hid (HM2.out.below ((Below.refl w2.heap.size w2).alloc (Nat.le_refl _) (.cells #[.slice none 0 0] 25)))
    clear hm hyes hno
    go_wp2
    go_ret
    rw [HE.out]
    exact HMB.out.left' HPB.out 1
  obtain ⟨A2, c2, rfl, ho2⟩ := hyes hm
  have hme := mErr_zero hm
  have hpl := mErr_put hme
  have hRD : R = rDo (sSteps m) r := by rw [HR.out, rSave_do hme]
  have HRD := Lib.hid hRD
  obtain ⟨B, hB⟩ : ∃ B, B = mPutB m := ⟨_, rfl⟩
  unfold sSteps at HRD
  rw [← hB] at ho2 hpl HRD ⊢
  obtain ⟨n2, hn2⟩ : ∃ z, z = B.length := ⟨_, rfl⟩
  rw [← hn2] at ho2 hpl ⊢
  have hn3 : n2 ≤ 1004 := hpl.1
  have hbi := BytesIn.own ho2 (by unfold maxLen; omega)
  have hlo : ∀ ad, A2 = some ad → ad.block < w2.heap.size ∧ w1.heap.size ≤ ad.block := fun ad e => by
    have := ho2.lt ad.block (by rw [e]; rfl)
    exact ⟨this.2, this.1⟩
  obtain ⟨q, hq⟩ : ∃ q, q = w2.heap.size := ⟨_, rfl⟩
  obtain ⟨w3, hw3⟩ : ∃ w3, w3 = w2.alloc (.cells #[.slice A2 n2 c2] 25) := ⟨_, rfl⟩
  have hb3 : Below w2.heap.size w2 w3 := by rw [hw3]; exact (Below.refl _ w2).alloc (Nat.le_refl _) _
  have hkq : Blk w3 q 25 #[.slice A2 n2 c2] := by rw [hw3, hq]; exact Blk.new _ _ _
  have hs3 : w3.heap.size = q + 1 := by rw [hw3, hq]; simp
  obtain ⟨vs, hvs⟩ : ∃ vs : List Value, vs = [.func (.func 80) #[] #[.pointer (some ⟨p, 0, none⟩), .pointer (some ⟨q, 0, none⟩)], .func (.func 51) #[.pointer (some ⟨b, 0, none⟩)] #[], .func (.func 81) #[] #[.pointer (some ⟨p, 0, none⟩)], .func (.func 51) #[.pointer (some ⟨b, 0, none⟩)] #[]] := ⟨_, rfl⟩
  obtain ⟨w4, hw4⟩ : ∃ w4, w4 = w3.alloc (.cells vs.toArray 81) := ⟨_, rfl⟩
  have hb4 : Below w3.heap.size w3 w4 := by rw [hw4]; exact (Below.refl _ w3).alloc (Nat.le_refl _) _
  have hsr : Src w4 (some ⟨q + 1, 0, none⟩) 4 vs := by
    have := fn_src w3 vs 4 (by rw [hvs]; rfl)
    rw [hs3] at this
    rw [hw4]
    exact this
  have hs4 : w4.heap.size = q + 2 := by rw [hw4]; simp [hs3]
  have hb24 : Below w2.heap.size w2 w4 := below_then hb3 hb4 hb3.size
  have HP4 := Lib.hid (HP2.out.below hb24)
  have HM4 := Lib.hid (HM2.out.below hb24)
  have key0 : w4.cell? ⟨p, 0, none⟩ = some (at0 b) := (HK2.out.below hb24 HK2.out.lt).cell 0
  have key1 : w4.cell? ⟨q, 0, none⟩ = some (.slice A2 n2 c2) := (hkq.below hb4 hkq.lt).cell 0
  have HBI := Lib.hid (hbi.below hb24)
  have HDO := Lib.hid (do_any HP4.out (some ⟨q + 1, 0, none⟩) 4 4 vs [fun r => rWrite r manNewN B, rSyncDir, fun r => rRename r manNewN manN, rSyncDir] hsr (fun ad e h0 => by
      cases e
      exact ⟨by show q + 1 < _; omega, HNF.out _ (by show p ≤ q + 1; omega)⟩) (by omega) rfl (fun i r => RCan r (sCan i)) HC.out (fun i g r hg hr => by
      match i, hg with
      | 0, hg => cases hg; exact (RCan.mono hr (show 3 + 4 ≤ 7 by omega)).write manNewN B
      | 1, hg => cases hg; exact (RCan.mono hr (show 2 + 1 ≤ 3 by omega)).syncDir
      | 2, hg => cases hg; exact (RCan.mono hr (show 1 + 1 ≤ 2 by omega)).rename manNewN manN
      | 3, hg => cases hg; exact (RCan.mono hr (show 0 + 1 ≤ 1 by omega)).syncDir
      | j + 4, hg => simp at hg) (fun i v g hv hg => by
      rw [hvs] at hv
      match i, hv, hg with
      | 0, hv, hg =>
        cases hv; cases hg
        refine ⟨80, #[], #[.pointer (some ⟨p, 0, none⟩), .pointer (some ⟨q, 0, none⟩)], rfl, enters_of Tryz.func80 (by kernel_rfl) rfl, fun y G s hm hp hr => ?_⟩
        obtain ⟨hy1, hy2⟩ := hm.bytes HBI.out (fun ad e h0 => HNF.out _ (by have := (hlo ad e).2; omega))
        exact save1_any hp (RCan.mono hr (show 4 ≤ 7 by omega)) p q (hm.cell key0 (HNF.out _ (by simp))) A2 n2 c2 B (hm.cell key1 (HNF.out _ (by show p ≤ q; omega))) hy1 (by omega) hy2
      | 1, hv, hg =>
        cases hv; cases hg
        exact ⟨51, #[.pointer (some ⟨b, 0, none⟩)], #[], rfl, enters_of Tryz.func51 (by kernel_rfl) rfl, fun y G s hm hp hr => pSyncDir_any hp (RCan.mono hr (show 1 ≤ 3 by omega))⟩
      | 2, hv, hg =>
        cases hv; cases hg
        exact ⟨81, #[], #[.pointer (some ⟨p, 0, none⟩)], rfl, enters_of Tryz.func81 (by kernel_rfl) rfl, fun y G s hm hp hr => save2_any hp (RCan.mono hr (show 1 ≤ 2 by omega)) p (hm.cell key0 (HNF.out _ (by simp)))⟩
      | 3, hv, hg =>
        cases hv; cases hg
        exact ⟨51, #[.pointer (some ⟨b, 0, none⟩)], #[], rfl, enters_of Tryz.func51 (by kernel_rfl) rfl, fun y G s hm hp hr => pSyncDir_any hp (RCan.mono hr (show 1 ≤ 1 by omega))⟩
      | j + 4, hv, hg => simp at hg))
  have d0 : w3.cell? ⟨p, 0, none⟩ = some (.pointer (some ⟨b, 0, none⟩)) := (HK2.out.below hb3 HK2.out.lt).cell 0
  have HW3 := Lib.hid hw3
  rw [hvs] at hw4
  have HW4 := Lib.hid hw4
  have HQ := Lib.hid hq
  have HS3 := Lib.hid hs3
  clear hbi hlo hkq hvs hw3 hw4 hb3 hb4 hb24 hsr hq hme hpl hRD key0 key1 ho2 hm hyes hno hB hn2 HP2 HK2 hs3 hs4
  go_upto_region 4 with fail
  rw [← HW3.out, ← HQ.out]
  go_wp2_with fail
  rw [HS3.out, ← HW4.out]
  refine HDO.out.mono ?_
  intro e w5 hl
  rw [← HRD.out] at hl
  have hl2 := HM4.out.left_' hl
  obtain ⟨rfl, F5, hp5, hk5, hn5⟩ := hl2
  have HFIN := Lib.hid (show PLeft w F b R.1 R.2 (.returned (.int .i64 R.1)) w5 from ⟨rfl, F5, hp5, hk5, hn5⟩)
  clear hl hp5 hk5 hn5
  go_wp2
  go_ret
  exact HFIN.out
end Go.Proofs.YtmhiekbpmoikfaaGreatDoor
namespace Go.Proofs.YtmhiekbpmoikfaaGreatDoor
open Go.RowKit Go.Maps Go.WideMaps
set_option linter.unusedSimpArgs false

set_option maxHeartbeats 8000000 in
set_option maxRecDepth 100000 in
theorem pLoad_any {w : World} {F : Nat → Prop} {b : Nat} {r : RSt} (hP : PAt w F b r) : Calls Tryz.prog 28 #[at0 b] w (MLoadOut w (rLoad r)) := by
  obtain ⟨R, hRW⟩ : ∃ R, R = rLoad r := ⟨_, rfl⟩
  rw [← hRW]
  unfold rLoad at hRW
  have hlen := hP.fit manN
  obtain ⟨W1, hW1⟩ : ∃ W1, W1 = w.alloc (.cells #[.int .i64 0, .int .i64 0, .slice none 0 0] 24) := ⟨_, rfl⟩
  have hb0 : Below w.heap.size w W1 := by rw [hW1]; exact (Below.refl _ w).alloc (Nat.le_refl _) _
  have hv0 : Blk W1 w.heap.size 24 #[.int .i64 0, .int .i64 0, .slice none 0 0] := by rw [hW1]; exact Blk.new _ _ _
  have hrd := pRead_any (hP.below hb0) ⟨manN.toArray⟩ (by decide)
  rw [show (⟨manN.toArray⟩ : ByteArray).data.toList = manN from rfl, show (⟨manN.toArray⟩ : ByteArray) = ⟨#[109, 97, 110]⟩ from rfl] at hrd
  obtain ⟨x, er, hx⟩ : ∃ x er, rRead r manN = (x, er) := ⟨_, _, rfl⟩
  rw [hx] at hRW hlen hrd
  simp only at hRW hlen hrd
  have HRD := Lib.hid hrd
  have HRW := Lib.hid hRW
  have HW1 := Lib.hid hW1
  have HB0 := Lib.hid hb0
  have HV0 := Lib.hid hv0
  clear hRW hW1 hb0 hv0 hrd hx hP
  unfold at0 at *
  go_enter Tryz.func28, Tryz.ntmps28
  go_wp2_with fail
  rw [← HW1.out]
  refine HRD.out.mono ?_
  rintro e w2 ⟨v2, rfl, ho2, hb2⟩
  obtain ⟨A2, c2, hv2⟩ := own_slice ho2
  subst hv2
  have hX2 := BytesIn.own ho2 (by unfold maxLen; omega)
  have hcap := own_capM ho2
  obtain ⟨xn, hxn⟩ : ∃ z, z = x.length := ⟨_, rfl⟩
  rw [← hxn] at hX2 hcap hlen ⊢
  have HX2 := Lib.hid hX2
  have HB2 := Lib.hid (below_then HB0.out hb2 HB0.out.size)
  have HV2 := Lib.hid (HV0.out.below hb2 HV0.out.lt)
  have y0 := HV2.out.cell 0
  have y1 := HV2.out.cell 1
  have y2 := HV2.out.cell 2
  have z0 := HV2.out.frozen 0
  have z1 := HV2.out.frozen 1
  have z2 := HV2.out.frozen 2
  simp only [List.getElem?_toArray, List.getElem?_cons_zero, List.getElem?_cons_succ] at y0 y1 y2
  clear ho2 hb2 hX2 hxn
  by_cases he : er = 0
  case neg =>
    have he' : (er != 0) = true := by simpa using he
    have HE : Hid (R = (none, er)) := Lib.hid (by rw [HRW.out, if_pos he])
    clear he
    go_wp2
    refine bodyPost_ret (results_man rfl _ _ w.heap.size 24 #[.int .i64 0, .int .i64 0, .slice none 0 0] (0, 0) _ rfl ?_ Tryz.underlying24 rfl manCells) rfl ?_
    · have := ((HV2.out.set_ 0 (.int .i64 0)).set_ 1 (.int .i64 0)).set_ 2 (.slice none 0 0)
      simpa [Blk] using this
    · rw [HE.out]
      exact ⟨((HB2.out.setCell (Nat.le_refl _) _).setCell (Nat.le_refl _) _).setCell (Nat.le_refl _) _, rfl⟩
  subst he
  have HG : Hid (R = match mGetB x with | none => (none, 3) | some m => (some m, 0)) := Lib.hid (by rw [HRW.out, if_neg (by simp)]; cases mGetB x <;> rfl)
  have HGC := Lib.hid (pGet_any w2 A2 xn c2 x HX2.out hcap (by omega))
  clear y0 y1 y2 z0 z1 z2
  go_wp2_with fail
  refine HGC.out.mono ?_
  rintro e w3 ⟨hb3, hr3⟩
  have hv3 := HV2.out.below hb3 HV2.out.lt
  have HV3 := Lib.hid hv3
  have HB3 := Lib.hid (below_then HB2.out hb3 HB2.out.size)
  have y0 := hv3.cell 0
  have y1 := hv3.cell 1
  have y2 := hv3.cell 2
  have z0 := hv3.frozen 0
  have z1 := hv3.frozen 1
  have z2 := hv3.frozen 2
  simp only [List.getElem?_toArray, List.getElem?_cons_zero, List.getElem?_cons_succ] at y0 y1 y2
  clear hb3 hv3 HGC
  cases hm : mGetB x with
  | none =>
    rw [hm] at hr3
    subst hr3
    have HE : Hid (R = (none, 3)) := Lib.hid (by rw [HG.out, hm])
    clear hm
    go_wp2
    refine bodyPost_ret (results_man rfl _ _ w.heap.size 24 #[.int .i64 0, .int .i64 0, .slice none 0 0] (0, 0) _ rfl ?_ Tryz.underlying24 rfl manCells) rfl ?_
    · have := ((HV3.out.set_ 0 (.int .i64 0)).set_ 1 (.int .i64 0)).set_ 2 (.slice none 0 0)
      simpa [Blk] using this
    · rw [HE.out]
      exact ⟨((HB3.out.setCell (Nat.le_refl _) _).setCell (Nat.le_refl _) _).setCell (Nat.le_refl _) _, rfl⟩
  | some m =>
    rw [hm] at hr3
    obtain ⟨v3, rfl, ho3⟩ := hr3
    have HE : Hid (R = (some m, 0)) := Lib.hid (by rw [HG.out, hm])
    obtain ⟨A3, c3, hv3⟩ := own_slice ho3
    subst hv3
    obtain ⟨rn, hrn⟩ : ∃ z, z = m.refs.length := ⟨_, rfl⟩
    rw [← hrn] at ho3 ⊢
    have HO3 := Lib.hid (Go.Joins.ownsRow_le ho3 (show w.heap.size ≤ w2.heap.size from HB2.out.size))
    have HNE : Hid (∀ g, (Value.slice A3 rn c3).ownBlock = some g → g ≠ w.heap.size) := Lib.hid (fun g hg => by
      have h1 := (ho3.lt g hg).1
      have h2 := HV2.out.lt
      omega)
    have HRN := Lib.hid hrn
    clear hm ho3 hrn
    go_wp2
    refine bodyPost_ret (results_man rfl _ _ w.heap.size 24 #[.int .i64 m.gen, .int .i64 m.next, .slice A3 rn c3] (0, 0) _ rfl ?_ Tryz.underlying24 rfl manCells) rfl ?_
    · have := ((HV3.out.set_ 0 (.int .i64 m.gen)).set_ 1 (.int .i64 m.next)).set_ 2 (.slice A3 rn c3)
      simpa [Blk] using this
    · rw [HE.out]
      refine ⟨((HB3.out.setCell (Nat.le_refl _) _).setCell (Nat.le_refl _) _).setCell (Nat.le_refl _) _, .slice A3 rn c3, rfl, ?_⟩
      have := HO3.out
      rw [← HRN.out]
      exact ownsRow_block this fun g hg => (heap_setCell_other _ _ _ (HNE.out g hg)).trans ((heap_setCell_other _ _ _ (HNE.out g hg)).trans (heap_setCell_other _ _ _ (HNE.out g hg)))
end Go.Proofs.YtmhiekbpmoikfaaGreatDoor
namespace Go.Proofs.YtmhiekbpmoikfaaGreatDoor
open Go.RowKit Go.Maps Go.WideMaps
set_option linter.unusedSimpArgs false

set_option maxHeartbeats 1000000
set_option maxRecDepth 100000
theorem clean1_any {w : World} {F : Nat → Prop} {b : Nat} {r : RSt} (hP : PAt w F b r) (hc : RCan r 1) (p q : Nat) (x : Nm) (hx : x.length ≤ 281474976710656) (h1 : w.cell? ⟨p, 0, none⟩ = some (at0 b)) (h2 : w.cell? ⟨q, 0, none⟩ = some (.string ⟨x.toArray⟩)) :
    Calls Tryz.prog 88 #[at0 p, at0 q] w (PLeft w F b (rRemove r x).1 (rRemove r x).2) := by
  have HC := Lib.hid (pRemove_any hP hc ⟨x.toArray⟩ hx)
  clear hP hc
  unfold at0 at *
  go_enter Tryz.func88, Tryz.ntmps88
  go_wp2_with fail
  refine HC.out.mono ?_
  rintro e w2 ⟨rfl, F2, hp2, hk2, hn2⟩
  go_wp2
  go_ret
  exact ⟨rfl, F2, hp2, hk2, hn2⟩
/-- A function value that removes the file x. -/
def RemFn (w : World) (base p : Nat) (v : Value) (x : Nm) : Prop := ∃ q, v = .func (.func 88) #[] #[at0 p, at0 q] ∧ base ≤ q ∧ Blk w q 9 #[.string ⟨x.toArray⟩]
theorem RemFn.step {w : World} {F : Nat → Prop} {base p b : Nat} {v : Value} {x : Nm} (h : RemFn w base p v x) (h0 : w.cell? ⟨p, 0, none⟩ = some (at0 b)) (hp : ¬ F p) (hb : ∀ i, base ≤ i → ¬ F i) (hx : x.length ≤ 281474976710656) {I : RSt → Prop} (hI : ∀ r, I r → RCan r 1) : IsStep w F b I v (fun r => rRemove r x) := by
  obtain ⟨q, rfl, hq, hc⟩ := h
  exact ⟨88, #[], #[at0 p, at0 q], rfl, enters_of Tryz.func88 (by kernel_rfl) rfl, fun y G s hm hpp hr => clean1_any hpp (hI s hr) p q x hx (hm.cell h0 hp) (hm.cell (hc.cell 0) (hb _ hq))⟩
/-- The names of the first k, those that are not kept. -/
theorem cOut_succ (keep l : List Nm) (k : Nat) {x : Nm} (h : l[k]? = some x) : cOut keep (l.take (k + 1)) = cOut keep (l.take k) ++ if keep.any (· == x) = true then [] else [x] := by
  unfold cOut
  rw [List.take_add_one, h]
  simp only [Option.toList_some, List.filter_append]
  congr 1
  obtain ⟨t, ht⟩ : ∃ t, t = keep.any (· == x) := ⟨_, rfl⟩
  rw [List.filter_cons, ← ht]
  cases t <;> rfl
theorem cOut_len (keep l : List Nm) : (cOut keep l).length ≤ l.length := List.length_filter_le _ _
theorem cSteps_at {K L : List Nm} {i : Nat} {g : Stp} (h : (cSteps K L false)[i]? = some g) : (∃ x, (cOut K L)[i]? = some x ∧ g = fun r => rRemove r x) ∨ (i = (cOut K L).length ∧ 0 < (cOut K L).length ∧ g = rSyncDir) := by
  unfold cSteps at h
  rcases Nat.lt_or_ge i (cOut K L).length with hi | hi
  · rw [List.getElem?_append_left (by simpa using hi), List.getElem?_map, List.getElem?_eq_getElem hi] at h
    cases h
    exact .inl ⟨_, List.getElem?_eq_getElem hi, rfl⟩
  · rw [List.getElem?_append_right (by simpa using hi), List.length_map] at h
    split at h
    · rename_i hc
      simp at hc
      have h1 := (List.getElem?_eq_some_iff.1 h).1
      simp at h1
      have h2 : i = (cOut K L).length := by omega
      rw [h2, Nat.sub_self] at h
      cases h
      exact .inr ⟨h2, by omega, rfl⟩
    · simp at h
theorem cSteps_len (K L : List Nm) : (cSteps K L false).length = (cOut K L).length + if 0 < (cOut K L).length then 1 else 0 := by
  unfold cSteps
  rw [List.length_append, List.length_map]
  congr 1
  by_cases h : 0 < (cOut K L).length
  · rw [if_pos (by simpa using h), if_pos h]; rfl
  · rw [if_neg (by simpa using h), if_neg h]; rfl
theorem clean_do {w : World} {F : Nat → Prop} {b : Nat} {r : RSt} (hP : PAt w F b r) {L : List Nm} (hC : RCan r (L.length + 1)) (hL : L.length ≤ 100000) (K : List Nm) {base p : Nat} (h0 : w.cell? ⟨p, 0, none⟩ = some (at0 b)) (hp : ¬ F p) (hb : ∀ i, base ≤ i → ¬ F i) (hx : ∀ x ∈ L, x.length ≤ 281474976710656) (A : Option Addr) (n c : Nat) (vs : List Value) (hsrc : Src w A n vs) (hA : ∀ ad, A = some ad → 0 < n → ad.block < w.heap.size ∧ ¬ F ad.block)
    (hn : (cSteps K L false).length = n) (hv : ∀ i u, vs[i]? = some u → (∀ x, (cOut K L)[i]? = some x → RemFn w base p u x) ∧ (i = (cOut K L).length → u = .func (.func 51) #[at0 b] #[])) :
    Calls Tryz.prog 79 #[.slice A n c] w (PLeft w F b (rDo (cSteps K L false) r).1 (rDo (cSteps K L false) r).2) := by
  have hle := cOut_len K L
  have hcl := cSteps_len K L
  have hn1 : n ≤ L.length + 1 := by rw [← hn, hcl]; split <;> omega
  refine do_any hP A n c vs _ hsrc hA (by omega) hn (fun i r => RCan r (L.length + 1 - i)) hC (fun i g r hg hr => ?_) (fun i v g hv1 hg => ?_)
  · have hi := (List.getElem?_eq_some_iff.1 hg).1
    have hr2 : RCan r ((L.length + 1 - (i + 1)) + 1) := hr.mono (by omega)
    rcases cSteps_at hg with ⟨x, -, rfl⟩ | ⟨-, -, rfl⟩
    · exact hr2.remove x
    · exact hr2.syncDir
  · have hi := (List.getElem?_eq_some_iff.1 hg).1
    obtain ⟨q1, q2⟩ := hv i v hv1
    rcases cSteps_at hg with ⟨x, hx1, rfl⟩ | ⟨hi2, -, rfl⟩
    · exact (q1 x hx1).step h0 hp hb (hx x (List.mem_filter.1 (List.mem_of_getElem? hx1)).1) fun s hs => hs.mono (by omega)
    · obtain rfl := q2 hi2
      exact ⟨51, #[at0 b], #[], rfl, enters_of Tryz.func51 (by kernel_rfl) rfl, fun y G s hm hpp hr => pSyncDir_any hpp (hr.mono (by omega))⟩
theorem fn_srcC (w : World) (v : Value) : Src (w.alloc (.cells #[v] 81)) (some ⟨w.heap.size, 0, none⟩) 1 [v] :=
  ⟨rfl, fun ad e j u hu => by
    injection e with e
    subst e
    rw [Addr.add_mid, World.cell?_alloc_mark]
    simpa using hu, fun e => by cases e⟩
theorem okName_len {x : Nm} (h : okName x = true) : x.length ≤ 24 := by
  unfold okName at h
  simp only [Bool.and_eq_true, decide_eq_true_eq] at h
  exact h.1.2
end Go.Proofs.YtmhiekbpmoikfaaGreatDoor
namespace Go.Proofs.YtmhiekbpmoikfaaGreatDoor
open Go.RowKit Go.Maps Go.WideMaps
set_option linter.unusedSimpArgs false

/-- The function values of the first names, in a row of one's own. -/
structure RemRow (w : World) (base p : Nat) (v : Value) (l : List Nm) : Prop where
  row : ∃ vs : List Value, vs.length = l.length ∧ w.ownsRow base 81 1 v l.length vs ∧ ∀ (i : Nat) (u : Value) (x : Nm), vs[i]? = some u → l[i]? = some x → RemFn w base p u x
set_option maxHeartbeats 16000000 in
set_option maxRecDepth 100000 in
theorem pClean_any {w : World} {F : Nat → Prop} {b : Nat} {r : RSt} (hP : PAt w F b r) (HP : Pow10 w) (hC : RCan r (r.dir.length + 1)) (hok : ∀ p ∈ r.dir, okName p.1 = true) (m : Mf) (A : Option Addr) (n c : Nat) (h : RefsIn w A n m.refs) (hn : n ≤ 1000) :
    Calls Tryz.prog 30 #[at0 b, .agg #[.int .i64 m.gen, .int .i64 m.next, .slice A n c]] w (PLeft w F b (rClean r m).1 (rClean r m).2) := by
  obtain ⟨i0, hi0, hz0, hz1, hz2⟩ := info_parts stepInfo
  have hqd := qClean_do r m hok
  obtain ⟨R, hR⟩ : ∃ R, R = rClean r m := ⟨_, rfl⟩
  rw [← hR] at hqd ⊢
  obtain ⟨w1, hw1⟩ : ∃ w1, w1 = (w.alloc (.cells #[at0 b] 42)).alloc (.cells #[.int .i64 m.gen, .int .i64 m.next, .slice A n c] 24) := ⟨_, rfl⟩
  obtain ⟨p, hp⟩ : ∃ p, p = w.heap.size := ⟨_, rfl⟩
  have hb1 : Below w.heap.size w w1 := by
    rw [hw1]
    exact ((Below.refl _ w).alloc (Nat.le_refl _) _).alloc (by simp) _
  have hk0 : Blk w1 p 42 #[at0 b] := by rw [hw1, hp]; exact (Blk.new _ _ _).alloc _
  have hk1 : Blk w1 (p + 1) 24 #[.int .i64 m.gen, .int .i64 m.next, .slice A n c] := by
    have := Blk.new (w.alloc (.cells #[at0 b] 42)) 24 #[.int .i64 m.gen, .int .i64 m.next, .slice A n c]
    rw [World.size_alloc] at this
    rw [hw1, hp]
    exact this
  have HK0 := Lib.hid hk0
  have m0 := hk1.cell 0
  have m1 := hk1.cell 1
  have m2 := hk1.cell 2
  simp only [List.getElem?_toArray, List.getElem?_cons_zero, List.getElem?_cons_succ] at m0 m1 m2
  have HNF : Hid (∀ i, p ≤ i → ¬ F i) := Lib.hid (fun i h hf => by have := hP.lt _ hf; omega)
  have HP1 := Lib.hid (hP.below hb1)
  have HB1 := Lib.hid hb1
  have hri := h.below hb1
  have HFI := Lib.hid (pNames0_any w1 (HP.later hb1 (Nat.le_refl _)) m A n c hri hn)
  have hlen := h.len
  rw [hlen] at hqd
  have HW1 := Lib.hid hw1
  have HPP : Hid (w.heap.size = p) := Lib.hid hp.symm
  have hps : p + 2 ≤ w1.heap.size := by rw [hw1, hp]; simp
  have hkl0 := qNames_len m.refs n
  obtain ⟨K, hK⟩ : ∃ K, K = qNames m.refs n := ⟨_, rfl⟩
  obtain ⟨kn, hkn⟩ : ∃ kn, kn = K.length := ⟨_, rfl⟩
  obtain ⟨L, hL⟩ : ∃ L, L = r.dir.map (·.1) := ⟨_, rfl⟩
  obtain ⟨ln, hln⟩ : ∃ ln, ln = L.length := ⟨_, rfl⟩
  rw [← hK, ← hL] at hqd
  rw [← hK, ← hkn] at HFI
  rw [← hK, ← hkn] at hkl0
  have hkl : kn ≤ 100000 := by omega
  have hdl : r.dir.length = ln := by rw [hln, hL, List.length_map]
  have hnc : nameCells r.dir = L.map encStr := by rw [hL]; unfold nameCells; rw [List.map_map]; rfl
  have hll : ln ≤ 100000 := by have := hC.dir; omega
  rw [hdl] at hC
  have HC := Lib.hid hC
  have HQD := Lib.hid hqd
  have HLX : Hid (∀ x ∈ L, x.length ≤ 281474976710656) := Lib.hid (fun x hx => by
    rw [hL] at hx
    obtain ⟨q, hq, rfl⟩ := List.mem_map.1 hx
    have := okName_len (hok q hq)
    omega)
  have HNC := Lib.hid hnc
  have HDL := Lib.hid hdl
  have HLN := Lib.hid hln
  have HKN := Lib.hid hkn
  clear hw1 hb1 hk0 hk1 hP hC h hR hp HP hqd hK hL hnc hdl hln hkn hkl0 hri hlen hok
  unfold at0 at *
  go_enter Tryz.func30, Tryz.ntmps30
  go_wp2_with fail
  rw [← HW1.out, HPP.out]
  refine HFI.out.mono ?_
  rintro e w2 ⟨vk, rfl, hrk, hb2⟩
  obtain ⟨Ak, ck, hv, hpk⟩ := own_plain hrk
  subst hv
  have hnk := NamesIn.own hrk hkl
  have HNK := Lib.hid hnk
  have HPK := Lib.hid hpk
  have HP2 := Lib.hid (HP1.out.below hb2)
  have HB2 := Lib.hid (below_then HB1.out hb2 HB1.out.size)
  have HK2 := Lib.hid (HK0.out.below hb2 HK0.out.lt)
  have hs2 : w1.heap.size ≤ w2.heap.size := hb2.size
  have d2 := HK2.out.cell 0
  simp only [List.getElem?_toArray, List.getElem?_cons_zero] at d2
  clear hrk hnk hpk hb2 HFI m0 m1 m2 HP1
  go_wp2_with fail
  refine (pNames_any HP2.out).mono ?_
  rintro e w3 ⟨vl, rfl, hrl, hb3⟩
  rw [HNC.out, HDL.out] at hrl
  obtain ⟨Al, cl, hv, -⟩ := own_plain hrl
  subst hv
  have HNL := Lib.hid (NamesIn.own hrl hll)
  have HNK3 := Lib.hid (HNK.out.below hb3)
  have HP3 := Lib.hid (HP2.out.below hb3)
  have HB3 := Lib.hid (below_then HB2.out hb3 HB2.out.size)
  have HK3 := Lib.hid (HK2.out.below hb3 HK2.out.lt)
  have hs3 : w2.heap.size ≤ w3.heap.size := hb3.size
  clear hrl hb3 d2 HNK HP2 HK2 HNC HDL
  go_wp2_with fail
  go_loopw [6, 14] (fun v iv wr => ∃ (i : Nat), i ≤ ln ∧ iv = .int .i64 i ∧ RemRow wr w3.heap.size p v (cOut K (L.take i)) ∧ Below w3.heap.size w3 wr) (fun _ iv _ => ln - (intOf iv).toNat)
  case atStart => exact ⟨0, by omega, rfl, ⟨[], rfl, World.ownsRow_nil _ _ _ _, fun i u x h => by simp at h⟩, Below.refl _ _⟩
  case round =>
    obtain ⟨i, hi, rfl, ⟨vs, hvl, hown, hfn⟩, hb⟩ := hrel
    have HVL := Lib.hid hvl
    have HO := Lib.hid hown
    have HFN := Lib.hid hfn
    have HB := Lib.hid hb
    have hsz := hb.size
    have hcl := cOut_len K (L.take i)
    rw [List.length_take] at hcl
    obtain ⟨Q, hQ⟩ : ∃ Q, Q = cOut K (L.take i) := ⟨_, rfl⟩
    rw [← hQ] at HVL HO HFN hcl
    obtain ⟨qn, hqn⟩ : ∃ qn, qn = Q.length := ⟨_, rfl⟩
    rw [← hqn] at HVL HO hcl
    have HQ := Lib.hid hQ
    have HQN := Lib.hid hqn
    have hqi : qn ≤ 100000 := by omega
    obtain ⟨Av, cv, hv⟩ := own_slice HO.out
    subst hv
    clear hvl hown hfn hb hQ hqn hcl
    rcases Nat.lt_or_ge i ln with hlt | hge
    · have hlt' : (i : Int) < (ln : Int) := by omega
      have pi : (0 : Int) ≤ (i : Int) := by omega
      obtain ⟨pl, x, rfl, hx, cx⟩ := (HNL.out.below HB.out).at i hlt
      have HSUC : Hid (cOut K (L.take (i + 1)) = Q ++ if K.any (· == x) = true then [] else [x]) := Lib.hid (by rw [HQ.out]; exact cOut_succ K L i hx)
      obtain ⟨tb, htb⟩ : ∃ tb, tb = K.any (· == x) := ⟨_, rfl⟩
      rw [← htb] at HSUC
      obtain ⟨q, hq⟩ : ∃ q, q = wr.heap.size := ⟨_, rfl⟩
      obtain ⟨wx, hwx⟩ : ∃ z, z = wr.alloc (.cells #[.string ⟨x.toArray⟩] 9) := ⟨_, rfl⟩
      have hbx : Below wr.heap.size wr wx := by rw [hwx]; exact (Below.refl _ wr).alloc (Nat.le_refl _) _
      have hsx : wx.heap.size = q + 1 := by rw [hwx, hq]; simp
      have HBX : Hid (Blk wx q 9 #[.string ⟨x.toArray⟩]) := Lib.hid (by rw [hwx, hq]; exact Blk.new _ _ _)
      have HOX := Lib.hid (ownsRow_block (w' := wx) HO.out fun g hg => hbx.block g (HO.out.lt g hg).2)
      have hbw : Below w3.heap.size w3 wx := below_then HB.out hbx HB.out.size
      have HBW := Lib.hid hbw
      have HFX : Hid (∀ (j : Nat) (u : Value) (y : Nm), vs[j]? = some u → Q[j]? = some y → RemFn wx w3.heap.size p u y) := Lib.hid (fun j u y h1 h2 => by
        obtain ⟨q', e', h3, h4⟩ := HFN.out j u y h1 h2
        exact ⟨q', e', h3, h4.below hbx h4.lt⟩)
      have hcon := contains_any wx Ak kn ck K (HNK3.out.below hbw) HPK.out x
      rw [← htb] at hcon
      have HCON := Lib.hid hcon
      have c1 := HBX.out.cell 0
      simp only [List.getElem?_toArray, List.getElem?_cons_zero] at c1
      have HWX := Lib.hid hwx
      have HQQ := Lib.hid hq
      have hqw : w3.heap.size ≤ q := by rw [hq]; exact hsz
      clear hx hbx hbw hcon hwx hq htb
      go_wp2_with fail
      rw [← HWX.out, ← HQQ.out]
      refine HCON.out.mono ?_
      rintro e u ⟨rfl, e2⟩
      have e3 := e2.symm
      subst e3
      clear e2 HCON
      cases tb with
      | true =>
        have HS2 : Hid (cOut K (L.take (i + 1)) = Q) := Lib.hid (by rw [HSUC.out, if_pos rfl, List.append_nil])
        go_wp2
        go_roundw
        case rel => exact ⟨i + 1, by omega, by go_num, by rw [HS2.out]; exact ⟨vs, by rw [HVL.out, HQN.out], by rw [← HQN.out]; exact HOX.out, HFX.out⟩, HBW.out⟩
        case measure => simp [intOf]; omega
      | false =>
        have HS2 : Hid (cOut K (L.take (i + 1)) = Q ++ [x]) := Lib.hid (by rw [HSUC.out, if_neg (by simp)])
        have HSR : Hid (Src (wx.alloc (.cells #[.func (.func 88) #[] #[.pointer (some ⟨p, 0, none⟩), .pointer (some ⟨q, 0, none⟩)]] 81)) (some ⟨q + 1, 0, none⟩) 1 [.func (.func 88) #[] #[.pointer (some ⟨p, 0, none⟩), .pointer (some ⟨q, 0, none⟩)]]) := Lib.hid (by
          have := fn_srcC wx (.func (.func 88) #[] #[.pointer (some ⟨p, 0, none⟩), .pointer (some ⟨q, 0, none⟩)])
          rw [hsx] at this
          exact this)
        go_wp2_with (at_builtin; refine wpList_append_own _ rfl _ _ 130 rfl w3.heap.size 81 i0 _ 1 8 Tryz.underlying130 hi0 hz0 hz1 hz2 rfl (by decide) _ qn _ rfl (World.ownsRow.alloc HOX.out _) ⟨q + 1, 0, none⟩ 1 1 [.func (.func 88) #[] #[.pointer (some ⟨p, 0, none⟩), .pointer (some ⟨q, 0, none⟩)]] rfl rfl (fun j u hu => HSR.out.cells _ rfl j u hu) (by intro u hu; simp at hu; subst hu; rfl) (by unfold maxLen; omega) (by omega) (by simp; omega) ?_; intro v4 w4 hown4 hgrow4 hnil4; clear hnil4)
        have HB4 : Hid (Below w3.heap.size w3 w4) := Lib.hid ((HBW.out.alloc (by omega) _).grown hgrow4 (by simp; omega) (fun g hg => (HOX.out.lt g hg).1))
        have HBLK : Hid (∀ (q' : Nat) (y : Nm), Blk wx q' 9 #[.string ⟨y.toArray⟩] → Blk w4 q' 9 #[.string ⟨y.toArray⟩]) := Lib.hid (fun q' y h => (h.alloc _).grown hgrow4 (fun e0 => own_blk_ne HOX.out h (by decide) e0.symm))
        have HO4 := Lib.hid hown4
        clear hown4 hgrow4
        go_roundw
        case rel =>
          refine ⟨i + 1, by omega, by go_num, ?_, HB4.out⟩
          rw [HS2.out]
          refine ⟨vs ++ [.func (.func 88) #[] #[.pointer (some ⟨p, 0, none⟩), .pointer (some ⟨q, 0, none⟩)]], by simp [HVL.out, HQN.out], by rw [List.length_append, List.length_singleton, ← HQN.out]; exact HO4.out, fun j u y h1 h2 => ?_⟩
          rcases Nat.lt_or_ge j qn with hj | hj
          · rw [List.getElem?_append_left (by rw [HVL.out]; exact hj)] at h1
            rw [List.getElem?_append_left (by rw [← HQN.out]; exact hj)] at h2
            obtain ⟨q', e', h3, h4⟩ := HFX.out j u y h1 h2
            exact ⟨q', e', h3, HBLK.out q' y h4⟩
          · rw [List.getElem?_append_right (by rw [HVL.out]; exact hj)] at h1
            rw [List.getElem?_append_right (by rw [← HQN.out]; exact hj)] at h2
            have hj0 : j - vs.length = 0 := by
              have := (List.getElem?_eq_some_iff.1 h1).1
              simpa using this
            rw [hj0] at h1
            rw [← HQN.out, show j - qn = 0 by rw [HVL.out] at hj0; exact hj0] at h2
            cases h1
            cases h2
            exact ⟨q, rfl, hqw, HBLK.out q x HBX.out⟩
        case measure => simp [intOf]; omega
    · obtain rfl : i = ln := by omega
      have hlz : ¬ ((i : Int) < (i : Int)) := by omega
      have hQL : Q = cOut K L := by rw [HQ.out, List.take_of_length_le (by rw [HLN.out]; exact Nat.le_refl _)]
      have HQL := Lib.hid hQL
      have hk := HK3.out.below HB.out HK3.out.lt
      have d3 := hk.cell 0
      simp only [List.getElem?_toArray, List.getElem?_cons_zero] at d3
      have HK := Lib.hid hk
      have HPW := Lib.hid (HP3.out.below HB.out)
      have HMW : Hid (R1Mov w F wr F) := Lib.hid ((R1Mov.refl w F).below (below_then HB3.out HB.out HB3.out.size))
      have hcs := cSteps_len K L
      rw [← hQL, ← HQN.out] at hcs
      have HCS := Lib.hid hcs
      have hLl : L.length + 1 = i + 1 := by rw [← HLN.out]
      have HLL := Lib.hid hLl
      clear hQL hk hcs hLl
      by_cases hz : 0 < qn
      · have hz' : (0 : Int) < (qn : Int) := by omega
        have HZ := Lib.hid hz
        have HSL : Hid ((cSteps K L false).length = qn + 1) := Lib.hid (by rw [HCS.out, if_pos hz])
        have HSR : Hid (Src (wr.alloc (.cells #[.func (.func 51) #[.pointer (some ⟨b, 0, none⟩)] #[]] 81)) (some ⟨wr.heap.size, 0, none⟩) 1 [.func (.func 51) #[.pointer (some ⟨b, 0, none⟩)] #[]]) := Lib.hid (fn_srcC wr _)
        clear hz
        go_wp2_with (at_builtin; refine wpList_append_own _ rfl _ _ 130 rfl w3.heap.size 81 i0 _ 1 8 Tryz.underlying130 hi0 hz0 hz1 hz2 rfl (by decide) _ qn _ rfl (World.ownsRow.alloc HO.out _) ⟨wr.heap.size, 0, none⟩ 1 1 [.func (.func 51) #[.pointer (some ⟨b, 0, none⟩)] #[]] rfl rfl (fun j u hu => HSR.out.cells _ rfl j u hu) (by intro u hu; simp at hu; subst hu; rfl) (by unfold maxLen; omega) (by omega) (by simp; omega) ?_; intro v4 w4 hown4 hgrow4 hnil4; clear hnil4)
        have HG4 : Hid (Below w3.heap.size w3 w4) := Lib.hid ((HB.out.alloc hsz _).grown hgrow4 (by simp; omega) (fun g hg => (HO.out.lt g hg).1))
        have HBLK : Hid (∀ (q' : Nat) (y : Nm), Blk wr q' 9 #[.string ⟨y.toArray⟩] → Blk w4 q' 9 #[.string ⟨y.toArray⟩]) := Lib.hid (fun q' y h => (h.alloc _).grown hgrow4 (fun e0 => own_blk_ne HO.out h (by decide) e0.symm))
        obtain ⟨A4, c4, hv4, -⟩ := own_plain hown4
        subst hv4
        have HO4 := Lib.hid hown4
        have hk4 := HK3.out.below HG4.out HK3.out.lt
        have HDO := Lib.hid (clean_do (HP3.out.below HG4.out) (L := L) (by rw [HLL.out]; exact HC.out) (by rw [← HLN.out]; exact hll) K (base := w3.heap.size) (hk4.cell 0) (HNF.out p (Nat.le_refl _)) (fun j hj => HNF.out j (by omega)) HLX.out A4 (qn + 1) c4 _ (src_of_own hown4) (fun ad e _ => by
            have := hown4.lt ad.block (by rw [e]; rfl)
            exact ⟨this.2, HNF.out _ (by omega)⟩) HSL.out (fun j u hu => by
            refine ⟨fun x hx => ?_, fun hj => ?_⟩
            · rw [← HQL.out] at hx
              have hjl := (List.getElem?_eq_some_iff.1 hx).1
              rw [List.getElem?_append_left (by rw [HVL.out, HQN.out]; exact hjl)] at hu
              obtain ⟨q', e', h3, h4⟩ := HFN.out j u x hu hx
              exact ⟨q', e', h3, HBLK.out q' x h4⟩
            · rw [← HQL.out, ← HQN.out] at hj
              rw [List.getElem?_append_right (by rw [HVL.out]; omega), HVL.out, hj, Nat.sub_self] at hu
              cases hu
              rfl))
        have HM4 : Hid (R1Mov w F w4 F) := Lib.hid ((R1Mov.refl w F).below (below_then HB3.out HG4.out HB3.out.size))
        clear hown4 hgrow4 hk4 d3
        go_wp2_with fail
        refine HDO.out.mono ?_
        intro e w5 hl
        rw [← HQD.out] at hl
        have hl2 := HM4.out.left_' hl
        obtain ⟨rfl, F5, hp5, hk5, hn5⟩ := hl2
        have HFIN := Lib.hid (show PLeft w F b R.1 R.2 (.returned (.int .i64 R.1)) w5 from ⟨rfl, F5, hp5, hk5, hn5⟩)
        clear hl hp5 hk5 hn5
        go_wp2
        go_ret
        exact HFIN.out
      · have hz' : ¬ (0 : Int) < (qn : Int) := by omega
        have HSL : Hid ((cSteps K L false).length = qn) := Lib.hid (by rw [HCS.out, if_neg hz]; rfl)
        have HZ := Lib.hid hz
        have hown := HO.out
        have HDO := Lib.hid (clean_do HPW.out (L := L) (by rw [HLL.out]; exact HC.out) (by rw [← HLN.out]; exact hll) K (base := w3.heap.size) (HK.out.cell 0) (HNF.out p (Nat.le_refl _)) (fun j hj => HNF.out j (by omega)) HLX.out Av qn cv _ (src_of_own hown) (fun ad e _ => by
            have := hown.lt ad.block (by rw [e]; rfl)
            exact ⟨this.2, HNF.out _ (by omega)⟩) HSL.out (fun j u hu => by
            have hj := (List.getElem?_eq_some_iff.1 hu).1
            rw [HVL.out] at hj
            omega))
        clear hown d3 hz
        go_wp2_with fail
        refine HDO.out.mono ?_
        intro e w5 hl
        rw [← HQD.out] at hl
        have hl2 := HMW.out.left_' hl
        obtain ⟨rfl, F5, hp5, hk5, hn5⟩ := hl2
        have HFIN := Lib.hid (show PLeft w F b R.1 R.2 (.returned (.int .i64 R.1)) w5 from ⟨rfl, F5, hp5, hk5, hn5⟩)
        clear hl hp5 hk5 hn5
        go_wp2
        go_ret
        exact HFIN.out
end Go.Proofs.YtmhiekbpmoikfaaGreatDoor
namespace Go.Proofs.YtmhiekbpmoikfaaGreatDoor
open Go.RowKit Go.Maps Go.WideMaps
set_option linter.unusedSimpArgs false

theorem sim_new (n : Nat) : Sim (St.new n) (rNew n) (fun _ => 0) :=
  { room := rfl, len := rfl, effr := rfl
    all := fun m => by
      show Good 0 (rEffAll [] (([] : List RCh).take m)) ∧ dmap _ (rEffAll [] (([] : List RCh).take m)) = effAll [] (([] : List Ch).take m)
      rw [List.take_nil, List.take_nil]
      exact ⟨Good.nil 0, rfl⟩
    ids := fun j hj => by cases hj
    inj := fun i j hi => by cases hi
    dat := fun j x hx => by cases hx
    acts := rfl, fuse := rfl, off := rfl }
theorem PAt.good {w : World} {F : Nat → Prop} {b : Nat} {r : RSt} (h : PAt w F b r) : Good r.ino.length r.dir := by
  obtain ⟨s, f, _, _, h3⟩ := h
  exact h3.good
/-- A disk of the call's own; nothing of old has turned. -/
structure PMine (w0 w : World) (F : Nat → Prop) (b : Nat) (r : RSt) : Prop where
  disk : PAt w F b r
  new : ∀ i, F i → w0.heap.size ≤ i
  below : Below w0.heap.size w0 w
theorem PMine.later {w0 w w' : World} {F : Nat → Prop} {b : Nat} {r : RSt} (h : PMine w0 w F b r) (hb : Below w.heap.size w w') : PMine w0 w' F b r :=
  ⟨h.disk.below hb, h.new, below_then h.below hb h.below.size⟩
theorem PMine.mov {w0 w w' : World} {F F' : Nat → Prop} {b : Nat} {r r' : RSt} (h : PMine w0 w F b r) (hd : PAt w' F' b r') (hm : R1Mov w F w' F') : PMine w0 w' F' b r' :=
  ⟨hd, fun i hi => by
    rcases hm.new i hi with h1 | h1
    · exact h.new i h1
    · exact Nat.le_trans h.below.size h1, h.below.trans (hm.kept.toBelow h.below.size h.new)⟩
theorem pNew_any (w : World) (n : Int) (hn : n ≤ 9223372036854775807) :
    Calls Tryz.prog 43 #[.int .i64 n] w fun e w' => ∃ F b, e = .returned (at0 b) ∧ PMine w w' F b (rNew n.toNat) :=
  (New_any w n hn).mono fun _ _ ⟨h1, h2, h3⟩ => ⟨_, _, h1, ⟨⟨_, _, h2, rfl, sim_new _⟩, fun _ hi => hi.1, h3⟩⟩
/-- References stay while a disk is changed. -/
theorem R1Mov.refs {w w' : World} {F F' : Nat → Prop} (h : R1Mov w F w' F') {A : Option Addr} {n : Nat} {L : List Rf} (hr : RefsIn w A n L) (ha : ∀ ad, A = some ad → ad.block < w.heap.size ∧ ¬ F ad.block) : RefsIn w' A n L :=
  hr.keep (fun ad e _ => h.kept.block _ (ha ad e).1 (ha ad e).2) h.kept.size
theorem RefsIn.none_ (w : World) : RefsIn w none 0 [] := ⟨rfl, Nat.zero_le _, fun _ => rfl, fun k r hr => by simp at hr⟩
theorem rCan_new (n k : Nat) (h : k ≤ 1000) : RCan (rNew n) k := ⟨by show 0 + k ≤ _; omega, by show 0 + k ≤ _; omega, by show 0 + k ≤ _; omega, by show 0 + k ≤ _; omega⟩
theorem RCan.save {r : RSt} {k : Nat} (h : RCan r (k + 7)) (m : Mf) : RCan (rSave r m).2 k := by
  unfold rSave
  split
  · exact h.mono (by omega)
  · simp only
    have h1 : RCan (rWrite r manNewN (mPutB m)).2 (k + 3) := h.write _ _
    split
    · exact h1.mono (by omega)
    · have h2 := h1.syncDir
      split
      · exact h2.mono (by omega)
      · have h3 := h2.rename manNewN manN
        split
        · exact h3.mono (by omega)
        · exact h3.syncDir
theorem rfCells_hM : hM.refs.flatMap rfCells = [.int .i64 2, .int .i64 5, .int .i64 0, .int .i64 3] := rfl
theorem hM_bound : ∀ r ∈ hM.refs, rfBound r := by
  intro r hr
  obtain rfl : r = ⟨2, 5, 0, 3⟩ := by simpa [hM] using hr
  exact ⟨⟨by decide, by decide⟩, ⟨by decide, by decide⟩, ⟨by decide, by decide⟩, ⟨by decide, by decide⟩⟩
theorem refs_bound_ok {m : Mf} (h : mOk m) : ∀ r ∈ m.refs, rfBound r := fun r hr => by
  obtain ⟨⟨a1, a2⟩, ⟨b1, b2⟩, ⟨c1, c2⟩, d1, d2⟩ := mOk_fit h r hr
  unfold maxNum at *
  exact ⟨⟨by omega, by omega⟩, ⟨by omega, by omega⟩, ⟨by omega, by omega⟩, ⟨by omega, by omega⟩⟩

set_option maxHeartbeats 16000000 in
set_option maxRecDepth 100000 in
theorem mqHead_any (w : World) (HP : Pow10 w) : Calls Tryz.prog 11 #[] w fun e w' => e = .returned (.bool true) ∧ Below w.heap.size w w' := by
  have HPW := Lib.hid HP
  obtain ⟨r1, hL0, hS, hOn1, hL1, r2, hW, hOn2, hD2⟩ := head_one
  have HL0 := Lib.hid hL0
  have HS := Lib.hid hS
  have HL1 := Lib.hid hL1
  have HW := Lib.hid hW
  have HOn2 := Lib.hid hOn2
  have HD2 := Lib.hid hD2
  clear hL0 hS hOn1 hL1 hW hOn2 hD2 HP
  go_enter Tryz.func11, Tryz.ntmps11
  go_wp2_with fail
  refine (pNew_any w 1000 (by omega)).mono ?_
  rintro e w1 ⟨F, b, rfl, hm1⟩
  have HM1 := Lib.hid hm1
  have hs1 : w.heap.size ≤ w1.heap.size := hm1.below.size
  obtain ⟨g, hg⟩ : ∃ g, g = w1.heap.size := ⟨_, rfl⟩
  obtain ⟨w2, hw2⟩ : ∃ z, z = (w1.alloc (.cells #[.int .i64 2, .int .i64 5, .int .i64 0, .int .i64 3] 88)).alloc (.cells #[.int .i64 1, .int .i64 4, .slice (some ⟨g, 0, none⟩) 1 1] 24) := ⟨_, rfl⟩
  have hb2 : Below w1.heap.size w1 w2 := by rw [hw2]; exact ((Below.refl _ w1).alloc (Nat.le_refl _) _).alloc (by simp) _
  have hs2 : w2.heap.size = g + 2 := by rw [hw2, hg]; simp
  have hk2 : Blk w2 (g + 1) 24 #[.int .i64 1, .int .i64 4, .slice (some ⟨g, 0, none⟩) 1 1] := by
    have := Blk.new (w1.alloc (.cells #[.int .i64 2, .int .i64 5, .int .i64 0, .int .i64 3] 88)) 24 #[.int .i64 1, .int .i64 4, .slice (some ⟨g, 0, none⟩) 1 1]
    rw [World.size_alloc, ← hg] at this
    rw [hw2]
    exact this
  have hrf : RefsIn w2 (some ⟨g, 0, none⟩) 1 hM.refs := by
    have ho : w2.ownsRow 0 88 4 (.slice (some ⟨g, 0, none⟩) 1 1) 1 (hM.refs.flatMap rfCells) := by
      rw [hw2, hg]
      exact World.ownsRow.alloc ⟨rfl, .inr ⟨w1.heap.size, 1, #[.int .i64 2, .int .i64 5, .int .i64 0, .int .i64 3], rfl, Nat.zero_le _, heap_alloc_new w1 _, Nat.le_refl _, by unfold maxLen; omega, rfl, rfl⟩⟩ _
    exact RefsIn.own ho rfl (by unfold maxLen; omega) hM_bound
  have HNG : Hid (¬ F g ∧ ¬ F (g + 1)) := Lib.hid ⟨fun h => by have := hm1.disk.lt _ h; omega, fun h => by have := hm1.disk.lt _ h; omega⟩
  have HM2 := Lib.hid (hm1.later hb2)
  have HK2 := Lib.hid hk2
  have HRF2 := Lib.hid hrf
  have HW2 := Lib.hid hw2
  have HG := Lib.hid hg
  have hls : g + 1 < w2.heap.size := by omega
  have HALL : Hid (∀ (u : World) (G : Nat → Prop), R1Mov w2 F u G → u.cell? ⟨g + 1, 0, none⟩ = some (.int .i64 1) ∧ u.cell? ⟨g + 1, 1, none⟩ = some (.int .i64 4) ∧ u.cell? ⟨g + 1, 2, none⟩ = some (.slice (some ⟨g, 0, none⟩) 1 1) ∧ RefsIn u (some ⟨g, 0, none⟩) 1 hM.refs) := Lib.hid (fun u G hu =>
    ⟨hu.cell (HK2.out.cell 0) HNG.out.2, hu.cell (HK2.out.cell 1) HNG.out.2, hu.cell (HK2.out.cell 2) HNG.out.2, hu.refs HRF2.out (fun ad e => by cases e; exact ⟨by show g < _; omega, HNG.out.1⟩)⟩)
  have hl0 := pLoad_any HM2.out.disk
  rw [show rNew (1000 : Int).toNat = rNew 1000 from rfl, HL0.out] at hl0
  have HLC := Lib.hid hl0
  clear hm1 hb2 hk2 hrf hw2 hg hl0
  unfold at0 at *
  go_wp2_with fail
  rw [← HG.out, ← HW2.out]
  refine HLC.out.mono ?_
  rintro e w3 ⟨hb3, rfl⟩
  have hb3' := hb3.alloc hb3.size (.cells #[.int .i64 0, .int .i64 0, .slice none 0 0] 24)
  obtain ⟨w4, hw4⟩ : ∃ z, z = w3.alloc (.cells #[.int .i64 0, .int .i64 0, .slice none 0 0] 24) := ⟨_, rfl⟩
  rw [← hw4] at hb3'
  have HM4 := Lib.hid (HM2.out.later hb3')
  have hv4 : R1Mov w2 F w4 F := (R1Mov.refl w2 F).below hb3'
  have HV4 := Lib.hid hv4
  obtain ⟨k0, k1, k2, hrf4⟩ := HALL.out w4 F hv4
  have hsv := pSave_any HM4.out.disk (rCan_new 1000 7 (by omega)) hM (some ⟨g, 0, none⟩) 1 1 hrf4
  rw [show rNew (1000 : Int).toNat = rNew 1000 from rfl, HS.out] at hsv
  have HSV := Lib.hid hsv
  have HW4 := Lib.hid hw4
  clear hb3 hb3' hw4 hv4 hrf4 hsv HLC
  go_upto_region 6 with fail
  rw [← HW4.out]
  go_wp2_with fail
  refine HSV.out.mono ?_
  rintro e w5 ⟨rfl, F5, hp5, hk5, hn5⟩
  have HM5 := Lib.hid (HM4.out.mov hp5 ⟨hk5, hn5⟩)
  have HV5 := Lib.hid (HV4.out.trans ⟨hk5, hn5⟩)
  have hcan5 : RCan r1 100 := by
    have := (rCan_new 1000 (100 + 7) (by omega)).save hM
    rw [HS.out] at this
    exact this
  have HC5 := Lib.hid hcan5
  have hl1 := pLoad_any hp5
  rw [HL1.out] at hl1
  have HLC := Lib.hid hl1
  clear hp5 hk5 hn5 hl1 hcan5 HSV k0 k1 k2
  go_wp2_with fail
  refine HLC.out.mono ?_
  rintro e w6 ⟨hb6, vx, rfl, hox⟩
  obtain ⟨Ax, cx, hvx⟩ := own_slice hox
  subst hvx
  obtain ⟨bx, hbx⟩ : ∃ z, z = w6.heap.size := ⟨_, rfl⟩
  obtain ⟨w7, hw7⟩ : ∃ z, z = w6.alloc (.cells #[.int .i64 hM.gen, .int .i64 hM.next, .slice Ax hM.refs.length cx] 24) := ⟨_, rfl⟩
  have hb67 : Below w6.heap.size w6 w7 := by rw [hw7]; exact (Below.refl _ w6).alloc (Nat.le_refl _) _
  have hb57 := below_then hb6 hb67 hb6.size
  have hkx : Blk w7 bx 24 #[.int .i64 hM.gen, .int .i64 hM.next, .slice Ax hM.refs.length cx] := by rw [hw7, hbx]; exact Blk.new _ _ _
  have hrx : RefsIn w7 Ax hM.refs.length hM.refs := RefsIn.own (ownsRow_block hox fun g hg => hb67.block g (hox.lt g hg).2) rfl (by unfold maxLen; decide) hM_bound
  have hnx : ∀ i, w5.heap.size ≤ i → ¬ F5 i := fun i h hf => by have := HM5.out.disk.lt _ hf; omega
  have HALX : Hid (∀ (u : World) (G : Nat → Prop), R1Mov w7 F5 u G → u.cell? ⟨bx, 0, none⟩ = some (.int .i64 1) ∧ u.cell? ⟨bx, 1, none⟩ = some (.int .i64 4) ∧ u.cell? ⟨bx, 2, none⟩ = some (.slice Ax 1 cx) ∧ RefsIn u Ax 1 hM.refs) := Lib.hid (fun u G hu => by
    have hnb : ¬ F5 bx := hnx _ (by rw [hbx]; exact hb6.size)
    refine ⟨hu.cell (hkx.cell 0) hnb, hu.cell (hkx.cell 1) hnb, hu.cell (hkx.cell 2) hnb, hu.refs hrx (fun ad e => ?_)⟩
    have := hox.lt ad.block (by rw [e]; rfl)
    exact ⟨Nat.lt_of_lt_of_le this.2 hb67.size, hnx _ this.1⟩)
  have HM7 := Lib.hid (HM5.out.later hb57)
  have HV7 := Lib.hid (HV5.out.below hb57)
  have hwr := pWrite_any HM7.out.disk (HC5.out.mono (show 4 ≤ 100 by omega)) s9N (by decide) none 0 0 [] (BytesIn.nil w7) (by omega) (fun ad e => by cases e)
  rw [HW.out, show (⟨s9N.toArray⟩ : ByteArray) = ⟨#[115, 46, 57]⟩ from rfl] at hwr
  have HWR := Lib.hid hwr
  have HW7 := Lib.hid hw7
  have HBX := Lib.hid hbx
  clear hb6 hox hw7 hb67 hb57 hkx hrx hnx hwr hbx HLC
  go_upto_region 8 with fail
  rw [← HW7.out, ← HBX.out]
  go_wp2_with fail
  refine HWR.out.mono ?_
  rintro e w8 ⟨rfl, F8, hp8, hk8, hn8⟩
  have hv8 : R1Mov w7 F5 w8 F8 := ⟨hk8, hn8⟩
  have HM8 := Lib.hid (HM7.out.mov hp8 hv8)
  have HV8 := Lib.hid (HV7.out.trans hv8)
  have HX8 := Lib.hid hv8
  obtain ⟨k0, k1, k2, hrf8⟩ := HALL.out w8 F8 HV8.out
  have hcan8 : RCan r2 90 := by
    have := (HC5.out.mono (show 90 + 4 ≤ 100 by omega)).write s9N []
    rw [HW.out] at this
    exact this
  obtain ⟨r3, hcl, hd3⟩ := head_clean HOn2.out HD2.out hp8.good
  have hcc := pClean_any hp8 (HPW.out.later HM8.out.below (Nat.le_refl _)) (hcan8.mono (by rw [HD2.out]; decide)) (by rw [HD2.out]; decide) hM (some ⟨g, 0, none⟩) 1 1 hrf8 (by omega)
  rw [hcl] at hcc
  have HCC := Lib.hid hcc
  have HD3 := Lib.hid hd3
  clear hp8 hk8 hn8 hv8 hrf8 hcan8 hcl hcc hd3 HWR
  go_wp2_with fail
  refine HCC.out.mono ?_
  rintro e w9 ⟨rfl, F9, hp9, hk9, hn9⟩
  have hv9 : R1Mov w8 F8 w9 F9 := ⟨hk9, hn9⟩
  have HM9 := Lib.hid (HM8.out.mov hp9 hv9)
  have HV9 := Lib.hid (HV8.out.trans hv9)
  have HX9 := Lib.hid (HX8.out.trans hv9)
  have hnm := pNames_any hp9
  rw [HD3.out] at hnm
  have HNM := Lib.hid hnm
  clear hp9 hk9 hn9 hv9 hnm k0 k1 k2 HCC
  go_wp2_with fail
  refine HNM.out.mono ?_
  rintro e w10 ⟨vn, rfl, hon, hb10⟩
  obtain ⟨An, cn, hvn⟩ := own_slice hon
  subst hvn
  have hna : ∃ a, An = some a ∧ w10.cell? (a.add 0) = some (.string ⟨#[109, 97, 110]⟩) := by
    have hni : NamesIn w10 An 1 [manN] := NamesIn.own hon (by decide)
    obtain ⟨a, x, e, hx, hc⟩ := hni.at 0 (by omega)
    cases hx
    exact ⟨a, e, hc⟩
  obtain ⟨an, rfl, hcn⟩ := hna
  rw [Addr.add_zero'] at hcn
  have HM10 := Lib.hid (HM9.out.later hb10)
  have HV10 := Lib.hid (HV9.out.below hb10)
  have HX10 := Lib.hid (HX9.out.below hb10)
  obtain ⟨x0, x1, x2, hrx⟩ := HALX.out w10 F9 HX10.out
  obtain ⟨k0, k1, k2, hrf⟩ := HALL.out w10 F9 HV10.out
  have hsm := r15Same_any w10 hM hM Ax 1 cx hrx (some ⟨g, 0, none⟩) 1 1 hrf
  rw [decide_eq_true rfl] at hsm
  have HSM := Lib.hid hsm
  have HCN : Hid (∀ u, Below w10.heap.size w10 u → u.cell? an = some (.string ⟨#[109, 97, 110]⟩)) := Lib.hid (fun u hu => below_cells hu hcn)
  clear hon hb10 hcn hrx hrf hsm HNM
  have HSM' : Hid (Calls Tryz.prog 18 #[.agg #[.int .i64 1, .int .i64 4, .slice Ax 1 cx], .agg #[.int .i64 1, .int .i64 4, .slice (some ⟨g, 0, none⟩) 1 1]] w10 fun e w' => e = .returned (.bool true) ∧ Below w10.heap.size w10 w') := HSM
  clear HSM
  go_wp2_with fail
  refine HSM'.out.mono ?_
  rintro e w11 ⟨rfl, hb11⟩
  have HM11 := Lib.hid (HM10.out.later hb11)
  have hcn := HCN.out w11 hb11
  have hsg := pSeg_any w11 12 (by omega) (HPW.out.later HM11.out.below (Nat.le_refl _))
  rw [show (⟨(nameN 115 12).toArray⟩ : ByteArray) = ⟨#[115, 46, 49, 50]⟩ by unfold nameN; rw [itoa_12]] at hsg
  have HSG := Lib.hid hsg
  clear hb11 hsg HSM' x0 x1 x2 k0 k1 k2
  go_wp2_with fail
  refine HSG.out.mono ?_
  rintro e w12 ⟨rfl, hb12⟩
  have HM12 := Lib.hid (HM11.out.later hb12)
  have hck := pCheck_any w12 ⟨0, 0, []⟩ none 0 0 (RefsIn.none_ w12)
  rw [hZ_err] at hck
  have HCK := Lib.hid hck
  clear hb12 hck hcn HSG
  go_wp2_with fail
  refine HCK.out.mono ?_
  rintro e w13 ⟨rfl, hb13⟩
  have HM13 := Lib.hid (HM12.out.later hb13)
  clear hb13 HCK
  go_wp2
  go_ret
  exact ⟨rfl, HM13.out.below⟩
end Go.Proofs.YtmhiekbpmoikfaaGreatDoor
