import Derived.Test.YthcjikpabpgpfaaGreatZp0
import Derived.Test.YthcjikpabpgpfaaGreatZp44
import Derived.Test.YthcjikpabpgpfaaGreatZp45
import Derived.Test.YthcjikpabpgpfaaGreatZp43
import Derived.Test.YthcjikpabpgpfaaGreatZp36
import Derived.Test.YthcjikpabpgpfaaGreatZp28
import Derived.Test.YthcjikpabpgpfaaGreatZp37
import Derived.Test.YthcjikpabpgpfaaGreatZp12
import Derived.Test.YthcjikpabpgpfaaGreatZp8
import Derived.Test.YthcjikpabpgpfaaGreatZp11
import Derived.Test.YthcjikpabpgpfaaGreatZp13
import Derived.Deep.QuietTactic
import Derived.BigQuiet
set_option linter.unusedSimpArgs false
set_option maxHeartbeats 16000000
set_option maxRecDepth 100000
namespace Go.Proofs.YthcjikpabpgpfaaGreat
open Go.RowKit Go.Maps Go.WideMaps Go.Shelf
theorem new_is (w:World) (A B:Option Addr) (n m ca cb:Nat) (V:Voc) (hV:VocSee w A B n m ca cb V) (hO:VOk V):
  Calls Tryz.prog 13 #[.agg #[.slice A n ca,.slice B m cb]] w fun e w'=>∃ b,e=.returned (.pointer (some ⟨b,0,none⟩))∧Below w.heap.size w w'∧Coder w' b V:=
 new_any w A B n m ca cb V hV hO
theorem of_is (w:World) (A:Option Addr) (n c:Nat) (l:List (Int×Int)) (hl:PairsIn w A n l) (hn:n≤1048576) (hc:n≤c) {V:Voc} (hv:ofV l=V):
  Calls Tryz.prog 11 #[.slice A n c] w fun e w'=>∃ A B n m ca cb,e=.returned (.agg #[.slice A n ca,.slice B m cb])∧VocSee w' A B n m ca cb V∧Below w.heap.size w w':=by
 have:=r6Of_any w A n c l hl hn hc
 rw [hv] at this
 exact this
theorem pairs_one (w:World) (a b:Int) (ha:fits64 a) (hb:fits64 b):PairsIn (w.alloc (.cells #[.int .i64 a,.int .i64 b] 73)) (some ⟨w.heap.size,0,none⟩) 1 [(a,b)] where
 len:=rfl
 fit:=by unfold maxLen;omega
 vals:=fun p hp=>by
  simp only [List.mem_cons,List.not_mem_nil,or_false] at hp
  subst hp
  exact ⟨ha,hb⟩
 nil:=fun e=>by cases e
 cells:=fun ad e i p hp=>by
  cases e
  have hn:=Blk.new w 73 #[.int .i64 a,.int .i64 b]
  rw [addr_add,addr_add,hn.cell,hn.cell]
  match i with
  | 0=>simp at hp;subst hp;exact ⟨rfl,rfl⟩
  | i+1=>simp at hp
end Go.Proofs.YthcjikpabpgpfaaGreat
namespace Go.Proofs.YthcjikpabpgpfaaGreat
open Go.RowKit Go.Maps Go.WideMaps
theorem docs_new (w:World) (k t:Nm) (hk:k.length≤maxLen) (ht:t.length≤maxLen):DocsIn (w.alloc (.cells #[.string ⟨k.toArray⟩,.string ⟨t.toArray⟩] 49)) (some ⟨w.heap.size,0,none⟩) 1 [(k,t)] where
 len:=rfl
 fit:=by unfold maxLen;omega
 vals:=fun p hp=>by
  rw [List.mem_singleton.1 hp]
  exact ⟨hk,ht⟩
 nil:=fun e=>by cases e
 cells:=fun ad e i p hp=>by
  cases e
  have hn:=Blk.new w 49 #[.string ⟨k.toArray⟩,.string ⟨t.toArray⟩]
  rw [addr_add,addr_add,hn.cell,hn.cell]
  match i with
  | 0=>simp at hp;subst hp;exact ⟨rfl,rfl⟩
  | i+1=>simp at hp
abbrev sh1:List (Int×Int):=[(97,98)]
abbrev shD:List (Nm×Nm):=[([107],[97,97,98])]
theorem shR:docsR shD:=by decide
theorem shR2:¬ docsR [(([]:Nm),([]:Nm))]:=by decide
theorem shT:mTerms (docsM (ofV sh1) shD)=[97,256]:=by decide +kernel
theorem shC1:postsT (segT (docsM (ofV sh1) shD)) 256=some [(0,[(1,1)])]:=by decide +kernel
theorem shC2:postsT (segT (docsM (ofV sh1) shD)) 98=none:=by decide +kernel
theorem segT_fst (L:List MDoc):(segT L).map Prod.fst=mTerms L:=by
 unfold segT
 rw [List.map_map]
 exact List.map_id'' (fun _=>rfl) _
theorem shTN:textN shD≤4000:=by decide
theorem shTN2:textN [(([]:Nm),([]:Nm))]≤4000:=by decide
theorem SegOut.yes {w w':World} {V:Voc} {l:List (Nm×Nm)} {e:Ending} (h:SegOut w V l e w') (hl:docsR l) (hn:(segB V l).length≤1099511627776) {k:Nat} (hk:(segB V l).length=k):TextIs w (segB V l) k 0 e w':=by
 unfold SegOut at h
 rw [if_pos hl] at h
 exact TxtOut.is h hk (by omega)
theorem SegOut.no {w w':World} {V:Voc} {l:List (Nm×Nm)} {e:Ending} (h:SegOut w V l e w') (hl:¬ docsR l):e=.returned (.tuple #[.slice none 0 0,.int .i64 1])∧Below w.heap.size w w':=by
 unfold SegOut at h
 rw [if_neg hl] at h
 exact h
theorem flat_sum {α:Type} (f:α→Nm) (g:α→Nat):∀ l:List α,(∀ x∈l,(f x).length≤g x)→(l.flatMap f).length≤(l.map g).sum
 | [],_=>by simp
 | a :: r,h=>by
  rw [List.flatMap_cons,List.length_append,List.map_cons,List.sum_cons]
  have h1:=flat_sum f g r fun x hx=>h x (List.mem_cons_of_mem _ hx)
  have h2:=h a (List.mem_cons_self ..)
  omega
theorem sum_lin (c d:Nat) (g:Int→Nat):∀ l:List Int,(l.map fun t=>c+d * g t).sum=c * l.length+d * (l.map g).sum
 | []=>by simp
 | a :: r=>by
  rw [List.map_cons,List.sum_cons,sum_lin c d g r,List.length_cons,List.map_cons,List.sum_cons,Nat.mul_add,Nat.mul_add]
  omega
theorem spots_many:∀ l:List Pst,(∀ x∈l,0 < x.2.length)→l.length≤spotsOf l
 | [],_=>by simp
 | a :: r,h=>by
  have h1:=spots_many r fun x hx=>h x (List.mem_cons_of_mem _ hx)
  have h2:=h a (List.mem_cons_self ..)
  unfold spotsOf at h1 ⊢
  rw [List.map_cons,List.sum_cons,List.length_cons]
  omega
theorem segB_le {V:Voc} (hV:VOk V) {l:List (Nm×Nm)} (hl:docsR l) (ht:textN l≤4000):(segB V l).length≤1000000:=by
 have hW:=segW_of hV hl
 have hT:=docsM_tot hV hl
 have hm:=terms_len (docsM V l)
 have h64:=hl.1
 unfold segB
 rw [segM_all hV hl,List.length_append,List.length_append]
 have h1:(headF l.length (mTerms (docsM V l)).length).length≤34:=by
  unfold headF
  have q1:=putL_len l.length (by omega)
  have q2:=putL_len (mTerms (docsM V l)).length (by omega)
  have q3:=putF_le (b:=putL l.length++putL (mTerms (docsM V l)).length) (by rw [List.length_append];omega)
  rw [List.length_append] at q3
  omega
 have h2:=flat_le docF 4200 l fun x hx=>docF_le (hl.2.1 x hx)
 have h3:=flat_sum (termF (docsM V l)) (fun t=>34+90 * spotsOf (mPosts (docsM V l) t)) (mTerms (docsM V l)) (fun t htm=>by
  obtain ⟨t0,t1⟩:=hW.tok t htm
  have q1:=putL_len t.toNat (by omega)
  have hv:=posts_valid hW.wf t
  have q2:=putP_fine hv
  have q4:=spots_many _ hv.some
  have q5:=posts_spots (docsM V l) t
  have q6:(termB (docsM V l) t).length≤20+90 * spotsOf (mPosts (docsM V l) t):=by
   unfold termB
   rw [List.length_append,(putE_is hW.wf t).1]
   omega
  have q7:=putF_le (b:=termB (docsM V l) t) (by omega)
  unfold termF
  omega)
 rw [sum_lin,terms_count] at h3
 omega
theorem sgHead_any {S:SegSt} {K:World→(Nat→Prop)→Nat→CSt→Prop} (hS:SegOk S K) (hK:CurW K) (w:World):Calls Tryz.prog 9 #[] w fun e w'=>e=.returned (.bool true)∧Below w.heap.size w w':=by
 have HSO:=Lib.hid hS
 have HCO:=Lib.hid hK
 have HIN:=Lib.hid (pairs_one w 97 98 ⟨by decide,by decide⟩ ⟨by decide,by decide⟩)
 obtain ⟨V,hV⟩:∃ V,V=ofV sh1:=⟨_,rfl⟩
 have hO:=ofV_ok sh1
 have hc1:=shC1
 have hc2:=shC2
 have hst:=shT
 rw [← hV] at hO hc1 hc2 hst
 have HO:=Lib.hid hO
 have HC1:=Lib.hid hc1
 have HC2:=Lib.hid hc2
 have HST:=Lib.hid hst
 have HV:=Lib.hid hV
 have HOB:=Lib.hid (open_build hO shR (Nat.le_trans shTN (by omega)))
 have HWF:=Lib.hid (segWF_of HOB.out)
 have HLE:=Lib.hid (segB_le hO shR shTN)
 clear hV hO hc1 hc2 hst hS hK
 go_enter Tryz.func9,Tryz.ntmps9
 go_wp2_with fail
 refine (of_is _ _ 1 1 sh1 HIN.out (by omega) (by omega) HV.out.symm).mono ?_
 rintro e w1 ⟨A,B,n,m,ca,cb,rfl,hsee,hb⟩
 have HB1:=Lib.hid (below_then ((Below.refl _ w).alloc (Nat.le_refl _) _) hb (by simp))
 have HSEE:=Lib.hid hsee
 clear hb hsee HIN
 go_wp2_with fail
 refine (new_is w1 A B n m ca cb V HSEE.out HO.out).mono ?_
 rintro e w2 ⟨b,rfl,hb,hC⟩
 have HB2:=Lib.hid (below_then HB1.out hb HB1.out.size)
 have HC:=Lib.hid hC
 have hd:=docs_new w2 [107] [97,97,98] (by unfold maxLen;decide) (by unfold maxLen;decide)
 obtain ⟨W3,hW3⟩:∃ z,z=w2.alloc (.cells #[.string ⟨([107]:Nm).toArray⟩,.string ⟨([97,97,98]:Nm).toArray⟩] 49):=⟨_,rfl⟩
 rw [← hW3] at hd
 have hb3:Below w2.heap.size w2 W3:=by rw [hW3];exact (Below.refl _ _).alloc (Nat.le_refl _) _
 have HB3:=Lib.hid (below_then HB2.out hb3 HB2.out.size)
 have HC3:=Lib.hid (HC.out.below hb3)
 have HBU:=Lib.hid (HSO.out.build HC3.out HO.out _ 1 1 shD hd (by omega) shTN)
 have HW3:=Lib.hid hW3
 clear hb hC hd hW3 hb3
 go_wp2_with fail
 rw [show w2.alloc (.cells #[.string ⟨#[107]⟩,.string ⟨#[97,97,98]⟩] 49)=W3 from HW3.out.symm]
 refine HBU.out.mono ?_
 intro e w4 hso
 obtain ⟨k,hk⟩:∃ k,(segB V shD).length=k:=⟨_,rfl⟩
 obtain ⟨A4,c4,rfl,hby,hc4,hb4⟩:=hso.yes shR (by have:=HLE.out;omega) hk
 have hk6:k≤1000000:=by rw [← hk];exact HLE.out
 have HB4:=Lib.hid (below_then HB3.out hb4 HB3.out.size)
 have HC4:=Lib.hid (HC3.out.below hb4)
 have hop:=HSO.out.open_ w4 A4 k c4 (segB V shD) hby hc4 hk6
 rw [HOB.out] at hop
 have HOP:=Lib.hid hop
 clear hso hby hb4 hop HBU hk
 go_wp2_with fail
 refine HOP.out.mono ?_
 rintro e w5 ⟨hb5,g,F,rfl,hs5,hF5⟩
 have HB5:=Lib.hid (below_then HB4.out hb5 HB4.out.size)
 have HC5:=Lib.hid (HC4.out.below hb5)
 have HS5:=Lib.hid hs5
 have hd:=docs_new w5 [] [] (by unfold maxLen;decide) (by unfold maxLen;decide)
 obtain ⟨W6,hW6⟩:∃ z,z=w5.alloc (.cells #[.string ⟨([]:Nm).toArray⟩,.string ⟨([]:Nm).toArray⟩] 49):=⟨_,rfl⟩
 rw [← hW6] at hd
 have hb6:Below w5.heap.size w5 W6:=by rw [hW6];exact (Below.refl _ _).alloc (Nat.le_refl _) _
 have HB6:=Lib.hid (below_then HB5.out hb6 HB5.out.size)
 have HS6:=Lib.hid (HSO.out.below hs5 hb6)
 have HBU:=Lib.hid (HSO.out.build (HC5.out.below hb6) HO.out _ 1 1 _ hd (by omega) shTN2)
 have HW6:=Lib.hid hW6
 clear hb5 hs5 hF5 hd hW6 hb6 HOP
 go_wp2_with fail
 rw [show w5.alloc (.cells #[.string ⟨#[]⟩,.string ⟨#[]⟩] 49)=W6 from HW6.out.symm]
 refine HBU.out.mono ?_
 intro e w7 hso
 obtain ⟨rfl,hb7⟩:=hso.no shR2
 have HB7:=Lib.hid (below_then HB6.out hb7 HB6.out.size)
 have HS7:=Lib.hid (HSO.out.below HS6.out hb7)
 have HDC:=Lib.hid (HSO.out.doc HS7.out HWF.out 0 (by unfold fits64;omega))
 have hce:=fun w p=>(coderNil w p).1
 have hse:=fun w p=>(segNil w p).1
 clear hso hb7 HBU
 go_wp2_with fail
 refine HDC.out.mono ?_
 rintro e w8 ⟨rfl,hb8⟩
 have HB8:=Lib.hid (below_then HB7.out hb8 HB7.out.size)
 have HS8:=Lib.hid (HSO.out.below HS7.out hb8)
 have hda:docAt shD 0=(([107]:Nm),([97,97,98]:Nm)):=rfl
 have hdb:decide ((0:Int)≤0∧(0:Int) < ((shD.length:Nat):Int))=true:=by decide
 rw [hda,hdb]
 obtain ⟨W9,hW9⟩:∃ z,z=w8.alloc (.cells #[.string ⟨([107]:Nm).toArray⟩,.string ⟨([97,97,98]:Nm).toArray⟩] 49):=⟨_,rfl⟩
 have hb9:Below w8.heap.size w8 W9:=by rw [hW9];exact (Below.refl _ _).alloc (Nat.le_refl _) _
 have HB9:=Lib.hid (below_then HB8.out hb9 HB8.out.size)
 have HS9:=Lib.hid (HSO.out.below HS8.out hb9)
 have hbl:Blk W9 w8.heap.size 49 #[.string ⟨([107]:Nm).toArray⟩,.string ⟨([97,97,98]:Nm).toArray⟩]:=by rw [hW9];exact Blk.new _ _ _
 have HBL:=Lib.hid hbl
 have htm:=HSO.out.terms HS9.out HWF.out
 rw [segT_fst,HST.out] at htm
 have HTM:=Lib.hid htm
 have HW0:Hid (CWF (cStart [(0,[(1,1)])])):=Lib.hid (CWF.start (by decide) (by decide))
 clear htm
 have HW9:=Lib.hid hW9
 obtain ⟨xb,hxb⟩:∃ xb,xb=w8.heap.size:=⟨_,rfl⟩
 have HXB:=Lib.hid hxb
 clear hb8 hda hdb hW9 hb9 hbl hxb HDC
 simp only
 go_wp2_with fail
 rw [show w8.alloc (.cells #[.string ⟨#[107]⟩,.string ⟨#[97,97,98]⟩] 49)=W9 from HW9.out.symm,← HXB.out]
 refine HTM.out.mono ?_
 rintro e w10 ⟨At,ct,rfl,hti,hct,hb10⟩
 have HB10:=Lib.hid (below_then HB9.out hb10 HB9.out.size)
 have HS10:=Lib.hid (HSO.out.below HS9.out hb10)
 have HBL10:=Lib.hid (HBL.out.below hb10 HBL.out.lt)
 have HTI:=Lib.hid (show IntsIn w10 At 2 [97,256] from hti)
 have hcu:=HSO.out.cursor HS10.out HWF.out 256 (by unfold fits64;omega)
 rw [HC1.out] at hcu
 have HCU:=Lib.hid hcu
 have hl2:([97,256]:List Int).length=2:=rfl
 rw [hl2]
 clear hti hct hb10 hcu hl2 HTM
 go_wp2_with fail
 refine HCU.out.mono ?_
 rintro e w11 ⟨hb11,cb,Fc,rfl,hk11,hFc⟩
 have HB11:=Lib.hid (below_then HB10.out hb11 HB10.out.size)
 have HS11:=Lib.hid (HSO.out.below HS10.out hb11)
 have hbl:=HBL10.out.below hb11 HBL10.out.lt
 rw [← HXB.out] at hbl
 have t1:=hbl.cell 1
 simp only [lz0,lz1,lz2] at t1
 obtain ⟨pt,y,rfl,hy,t2,-,-⟩:=(HTI.out.below hb11).at 1 (by omega)
 simp only [lz1,lz2,Option.some.injEq] at hy
 subst hy
 have t2':=at_one t2
 have hq1:((⟨#[97,97,98]⟩:ByteArray).toList==(⟨#[97,97,98]⟩:ByteArray).toList)=true:=by simp
 have hnp:=fun w p=>(cursNil w p).2
 have hep:=fun w p=>(cursNil w p).1
 have hsp:=HCO.out.spots hk11 HW0.out
 have HSP:=Lib.hid (show Calls Tryz.prog 27 #[.pointer (some ⟨cb,0,none⟩)] w11 (SpotsNew w11 [(1,1)]) from hsp)
 clear hk11 hFc hb11 hbl hsp HCU
 go_wp2_with fail
 refine HSP.out.mono ?_
 rintro e w12 ⟨As,cs,rfl,-,-,-,hb12⟩
 have HB12:=Lib.hid (below_then HB11.out hb12 HB11.out.size)
 have HS12:=Lib.hid (HSO.out.below HS11.out hb12)
 have hcu:=HSO.out.cursor HS12.out HWF.out 98 (by unfold fits64;omega)
 rw [HC2.out] at hcu
 have HCU:=Lib.hid hcu
 have hl1:([(1,1)]:List (Int×Int)).length=1:=rfl
 rw [hl1]
 clear hb12 hcu hl1 HSP t1 t2 t2'
 go_wp2_with fail
 refine HCU.out.mono ?_
 rintro e w13 ⟨hb13,rfl⟩
 have HB13:=Lib.hid (below_then HB12.out hb13 HB12.out.size)
 have HMN:=Lib.hid (HSO.out.many (HSO.out.below HS12.out hb13) HWF.out)
 clear hb13 HCU
 go_wp2_with fail
 refine HMN.out.mono ?_
 rintro e w14 ⟨rfl,hb14⟩
 have HB14:=Lib.hid (below_then HB13.out hb14 HB13.out.size)
 have hl1:((shD.length:Nat):Int)=1:=rfl
 rw [hl1]
 clear hb14 hl1 HMN
 go_wp2
 go_ret
 exact ⟨rfl,HB14.out⟩
end Go.Proofs.YthcjikpabpgpfaaGreat
