import Derived.Test.YthcjikpabpgpfaaGreatZp0
import Derived.Test.YthcjikpabpgpfaaGreatZp37
import Derived.Test.YthcjikpabpgpfaaGreatZp26
import Derived.Test.YthcjikpabpgpfaaGreatZp4
import Derived.Test.YthcjikpabpgpfaaGreatZp11
set_option linter.unusedSimpArgs false
set_option maxHeartbeats 16000000
set_option maxRecDepth 100000
namespace Go.Proofs.YthcjikpabpgpfaaGreat
open Go.RowKit Go.Maps Go.WideMaps
theorem docCellsN:(Tryz.prog.info? 49).map (·.size)=some 2:=by kernel_rfl
theorem rising_few:∀ {l:List Int} {a:Int},(∀ x∈l,a≤x∧x < 512)→l.Pairwise (· < ·)→a≤512→(l.length:Int)≤512 - a
 | [],_,_,_,h=>by simp;omega
 | x :: r,a,h,hp,_=>by
  rw [List.pairwise_cons] at hp
  have h1:=h x (List.mem_cons_self ..)
  have h2:=rising_few (a:=x+1) (fun y hy=>by have:=hp.1 y hy;have:=h y (List.mem_cons_of_mem _ hy);omega) hp.2 (by omega)
  rw [List.length_cons]
  omega
def DocsF (w:World) (G:Nat→Prop) (A:Option Addr) (n:Nat) (l:List (Nm×Nm)):Prop:=DocsIn w A n l∧∀ ad,A=some ad→0 < n→G ad.block
theorem DocsF.keep {w w':World} {G:Nat→Prop} {A:Option Addr} {n:Nat} {l:List (Nm×Nm)} (h:DocsF w G A n l) (hk:∀ i,G i→w'.heap[i]?=w.heap[i]?):DocsF w' G A n l:=by
 obtain ⟨h1,h2⟩:=h
 refine ⟨⟨h1.len,h1.fit,h1.vals,h1.nil,fun ad e i p hp=>?_⟩,h2⟩
 have hlt:=(List.getElem?_eq_some_iff.1 hp).1
 have hb:=hk _ (h2 ad e (by have:=h1.len;omega))
 obtain ⟨c1,c2⟩:=h1.cells ad e i p hp
 have hbl:∀ j,(ad.add j).block=ad.block:=fun j=>by unfold Addr.add;split <;> rfl
 exact ⟨(World.cell?_of_block (by rw [hbl];exact hb)).trans c1,(World.cell?_of_block (by rw [hbl];exact hb)).trans c2⟩
def Sg0 (w:World) (F:Nat→Prop) (g:Nat) (D:List (Nm×Nm)) (T:List (Int×List Pst)):Prop:=
 F g∧(∀ i,F i→i < w.heap.size)∧∃ A c mb f,Blk w g 112 #[.slice A D.length c,.map (some mb)]∧D.length≤c∧DocsF w F A D.length D∧F mb∧BMap w mb T.length f (fun i=>F i∧i≠mb)∧SegF f T
theorem Sg0.keep {w w':World} {F:Nat→Prop} {g:Nat} {D:List (Nm×Nm)} {T:List (Int×List Pst)} (h:Sg0 w F g D T) (hk:∀ i,F i→w'.heap[i]?=w.heap[i]?) (hs:w.heap.size≤w'.heap.size):Sg0 w' F g D T:=by
 obtain ⟨h1,h2,A,c,mb,f,h3,h4,h5,h6,h7,h8⟩:=h
 exact ⟨h1,fun i hi=>Nat.lt_of_lt_of_le (h2 i hi) hs,A,c,mb,f,(hk g h1).trans h3,h4,h5.keep hk,h6,h7.keep (hk mb h6) (fun i hi=>hk i hi.1) (fun _ h=>h) hs,h8⟩
theorem s0Many_any {w:World} {F:Nat→Prop} {g:Nat} {D:List (Nm×Nm)} {T:List (Int×List Pst)} (h:Sg0 w F g D T):Calls Tryz.prog 19 #[.pointer (some ⟨g,0,none⟩)] w fun e w'=>e=.returned (.int .i64 (D.length:Int))∧Below w.heap.size w w':=by
 obtain ⟨h1,h2,A,c,mb,f,h3,h4,h5,h6,h7,h8⟩:=h
 have c0:=h3.cell 0
 simp only [lz0,lz1,lz2] at c0
 obtain ⟨n,hn⟩:∃ n,n=D.length:=⟨_,rfl⟩
 rw [← hn] at c0 ⊢
 clear h1 h2 h3 h4 h5 h6 h7 h8 hn
 go_enter Tryz.func19,Tryz.ntmps19
 go_wp2
 go_ret
 exact ⟨rfl,Below.refl _ _⟩
theorem s0Cursor_any {w:World} {F:Nat→Prop} {g:Nat} {D:List (Nm×Nm)} {T:List (Int×List Pst)} (h:Sg0 w F g D T) (t:Int) (ht:fits64 t):Calls Tryz.prog 24 #[.pointer (some ⟨g,0,none⟩),.int .i64 t] w (CurBack K0 w (postsT T t)):=by
 obtain ⟨h1,h2,A,c,mb,f,h3,h4,h5,h6,h7,h8⟩:=h
 have c1:=h3.cell 1
 simp only [lz0,lz1,lz2] at c1
 obtain ⟨v,hlook,hv⟩:=h7.look ht
 obtain ⟨hf1,hf2⟩:=h8 t
 rw [← hf1]
 cases hft:f t with
 | none=>
  rw [hft] at hlook
  simp only [Option.isSome_none] at hlook
  clear h1 h2 h3 h4 h5 h6 h7 h8 hv hf1 hf2 hft
  go_enter Tryz.func24,Tryz.ntmps24
  go_wp2
  go_ret
  exact ⟨Below.refl _ _,rfl⟩
 | some s=>
  rw [hft] at hlook
  simp only [Option.isSome_some] at hlook
  obtain ⟨B,n,cc,rfl,hbi,⟨hcc,hnm⟩,-⟩:=hv s hft
  have HBI:=Lib.hid hbi
  have HE:=Lib.hid (hf2 s hft)
  have hn:n≤1099511627776:=by omega
  clear hnm
  clear h1 h2 h3 h4 h5 h6 h7 h8 hv hf1 hf2 hft hbi
  go_enter Tryz.func24,Tryz.ntmps24
  go_wp2_with fail
  refine (k0_new w B n cc s HBI.out hcc hn HE.out).mono ?_
  rintro e w1 ⟨b,G,rfl,hb,hk,hg⟩
  have HB:=Lib.hid hb
  have HK:=Lib.hid hk
  clear hb hk
  go_wp2
  go_ret
  exact ⟨HB.out,b,G,rfl,HK.out,hg⟩
theorem s0Terms_any {w:World} {F:Nat→Prop} {g:Nat} {D:List (Nm×Nm)} {T:List (Int×List Pst)} (h:Sg0 w F g D T) (hup:(T.map Prod.fst).Pairwise (· < ·)) (htok:∀ x∈T,0≤x.1∧x.1≤511):Calls Tryz.prog 25 #[.pointer (some ⟨g,0,none⟩)] w (IntsBack w (T.map Prod.fst)):=by
 obtain ⟨h1,h2,A,c,mb,f,h3,h4,h5,h6,h7,h8⟩:=h
 obtain ⟨E,hM,hD⟩:=h7.own
 have c1:=h3.cell 1
 simp only [lz0,lz1,lz2] at c1
 obtain ⟨K,hK⟩:∃ K,K=T.map Prod.fst:=⟨_,rfl⟩
 rw [← hK] at hup ⊢
 have hfit:∀ x∈K,0≤x∧x≤511:=fun x hx=>by
  rw [hK] at hx
  obtain ⟨y,hy,rfl⟩:=List.mem_map.1 hx
  exact htok y hy
 have hlen:K.length≤512:=by have:=rising_few (a:=0) (fun x hx=>by have:=hfit x hx;omega) hup (by omega);omega
 have htl:T.length≤512:=by rw [hK,List.length_map] at hlen;exact hlen
 have hmax:Maps.size E≤maxLen:=by have:=hM.size_le;unfold maxLen;omega
 have hbytes:Maps.size E * 8≤140737488355328:=by have:=hM.size_le;omega
 have hmem:∀ t,t∈K↔(f t).isSome=true:=fun t=>by rw [hK,h8.isSome]
 have HKE:=Lib.hid ((callsIn_wide (n:=5)).1 (Tryz.imaps_KeysB (some mb) w))
 have hso:Calls Tryz.prog 69 #[.func (.func 125) #[] #[.pointer (some ⟨w.heap.size,0,none⟩)]] (w.alloc (.cells #[.map (some mb)] 108)) (IntsBack w K):=by
  refine ((callsIn_wide (n:=5)).1 (Tryz.islices_Sorted_keysB mb T.length E _ w hM hmax hbytes)).mono ?_
  rintro e2 w2 ⟨v,ss,rfl,hP,hrow,hnil,hb⟩
  have hk1:ss.mergeSort leI=K:=BMap.keys hM hD hup hmem hP
  have hrow':w2.ownsRow (w.alloc (.cells #[.map (some mb)] 108)).heap.size 3 1 v ss.length ((ss.mergeSort leI).map i64V):=hrow
  have hsl:ss.length=K.length:=by rw [← hk1];exact (List.mergeSort_perm ss leI).length_eq.symm
  rw [hk1,hsl] at hrow'
  obtain ⟨A,c,rfl,hc⟩:=own_cap hrow'
  exact ⟨A,c,rfl,IntsIn.own hrow' (by unfold maxLen;omega) (fun x hx=>by have:=hfit x hx;omega),hc,((Below.refl _ w).alloc (Nat.le_refl _) _).trans (hb.mono (by simp))⟩
 have HSO:=Lib.hid hso
 clear hso hmax hbytes hfit hup hM hD h1 h2 h3 h4 h5 h6 h7 h8 hmem hlen htl htok hK
 go_enter Tryz.func25,Tryz.ntmps25
 go_wp2_with (first
  | (go_at_call 70;refine HKE.out.mono ?_;rintro e2 w2 ⟨rfl,rfl⟩)
  | (go_at_call 69;refine HSO.out.mono ?_;rintro e2 w2 ⟨Ak,ck,rfl,hki,hck,hb2⟩))
 go_ret
 exact ⟨Ak,ck,rfl,hki,hck,hb2⟩
theorem s0Doc_any {w:World} {F:Nat→Prop} {g:Nat} {D:List (Nm×Nm)} {T:List (Int×List Pst)} (h:Sg0 w F g D T) (i:Int) (hi:fits64 i):Calls Tryz.prog 20 #[.pointer (some ⟨g,0,none⟩),.int .i64 i] w fun e w'=>
  e=.returned (.tuple #[.agg #[.string ⟨(docAt D i).1.toArray⟩,.string ⟨(docAt D i).2.toArray⟩],.bool (decide (0≤i∧i < (D.length:Int)))])∧Below w.heap.size w w':=by
 obtain ⟨h1,h2,A,c,mb,f,h3,h4,h5,h6,h7,h8⟩:=h
 have hb0:Below w.heap.size w (w.alloc (.cells #[.string ⟨#[]⟩,.string ⟨#[]⟩] 49)):=(Below.refl _ w).alloc (Nat.le_refl _) _
 have c0:=(h3.below hb0 h3.lt).cell 0
 simp only [lz0,lz1,lz2] at c0
 obtain ⟨n,hn⟩:∃ n,n=D.length:=⟨_,rfl⟩
 have HL:=Lib.hid h5.1
 rw [← hn] at c0 HL
 have HN:=Lib.hid hn
 have HD:Hid (docAt D i=if 0≤i∧i < (n:Int) then D.getD i.toNat ([],[]) else ([],[])):=Lib.hid (by unfold docAt;rw [← hn])
 rw [← hn]
 have hil:=hi.1
 have hih:=hi.2
 clear h1 h2 h3 h4 h5 h6 h7 h8 hn hi
 by_cases q1:i < 0
 ·have d1:decide (i < 0)=true:=decide_eq_true q1
  have hd:docAt D i=([],[]):=by rw [HD.out,if_neg (by omega)]
  rw [hd,decide_eq_false (show ¬ (0≤i∧i < (n:Int)) by omega)]
  clear hd
  go_enter Tryz.func20,Tryz.ntmps20
  go_wp2
  refine bodyPost_ret (results_cell_row_tmp rfl _ _ w.heap.size 49 #[.string ⟨#[]⟩,.string ⟨#[]⟩] (0,0) _ rfl (heap_alloc_new w _) Tryz.underlying49 rfl docCellsN) rfl ?_
  exact ⟨rfl,hb0⟩
 have d1:decide (i < 0)=false:=decide_eq_false q1
 obtain ⟨k,rfl⟩:∃ k:Nat,i=k:=⟨i.toNat,by omega⟩
 by_cases q2:n≤k
 ·have d2:decide ((n:Int)≤(k:Int))=true:=decide_eq_true (by omega)
  have hd:docAt D (k:Int)=([],[]):=by rw [HD.out,if_neg (by omega)]
  rw [hd,decide_eq_false (show ¬ (0≤(k:Int)∧(k:Int) < (n:Int)) by omega)]
  have q3:(n:Int)≤(k:Int):=by omega
  clear hd q1
  go_enter Tryz.func20,Tryz.ntmps20
  go_wp2
  refine bodyPost_ret (results_cell_row_tmp rfl _ _ w.heap.size 49 #[.string ⟨#[]⟩,.string ⟨#[]⟩] (0,0) _ rfl (heap_alloc_new w _) Tryz.underlying49 rfl docCellsN) rfl ?_
  exact ⟨rfl,hb0⟩
 have d2:decide ((n:Int)≤(k:Int))=false:=decide_eq_false (by omega)
 have hkn:k < n:=by omega
 obtain ⟨pa,p,rfl,hp,a0,a1,v1,v2⟩:=(HL.out.below hb0).at k hkn
 obtain ⟨pk,pt⟩:=p
 simp only at a0 a1
 have hd:docAt D (k:Int)=(pk,pt):=by rw [HD.out,if_pos (by omega),Int.toNat_natCast,List.getD_eq_getElem?_getD,hp];rfl
 rw [hd,decide_eq_true (show 0≤(k:Int)∧(k:Int) < (n:Int) by omega)]
 have p0:(0:Int)≤(k:Int):=by omega
 have p1:(k:Int) < (n:Int):=by omega
 have q3:¬ (n:Int)≤(k:Int):=by omega
 have hb1:Below w.heap.size w (w.alloc (.cells #[.string ⟨pk.toArray⟩,.string ⟨pt.toArray⟩] 49)):=(Below.refl _ w).alloc (Nat.le_refl _) _
 have HB1:=Lib.hid hb1
 clear hd q1 hp v1 v2 hb1
 go_enter Tryz.func20,Tryz.ntmps20
 go_wp2
 refine bodyPost_ret (results_cell_row_tmp rfl _ _ w.heap.size 49 #[.string ⟨pk.toArray⟩,.string ⟨pt.toArray⟩] (0,0) _ rfl (heap_alloc_new w _) Tryz.underlying49 rfl docCellsN) rfl ?_
 exact ⟨rfl,HB1.out⟩
end Go.Proofs.YthcjikpabpgpfaaGreat
