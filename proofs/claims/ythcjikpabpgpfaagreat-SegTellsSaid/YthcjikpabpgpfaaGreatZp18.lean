import Derived.Test.YthcjikpabpgpfaaGreatZp15
import Derived.Test.YthcjikpabpgpfaaGreatZp11
set_option linter.unusedSimpArgs false
set_option maxHeartbeats 16000000
set_option maxRecDepth 100000
namespace Go.Proofs.YthcjikpabpgpfaaGreat
open Go.RowKit Go.Maps Go.WideMaps
theorem Zfh (w:World) (F:Nat->Prop) (b:Nat) (V:Voc) (hG:Grow w F b V) (A:Option Addr) (n c:Nat) (x:Nm) (hx:BytesIn w A n x) {r:Bool} (hr:decide (0<=Zbb V.tok x)=r):
  Calls Tryz.prog 135 #[at0 b,.slice A n c] w λe w'=>e=.returned (.bool r)/\Below w.heap.size w w':=by
 have h:=Zn9 w F b V hG A n c x hx;rw[hr]at h;exact h
theorem Zps (w:World) (F:Nat->Prop) (b:Nat) (V:Voc) (hG:Grow w F b V) (x y:Int) (hx:Zaj x) (hy:Zaj y) {r:Bool} (hr:(decide (0<=x/\x<V.tok.length)&&(decide (0<=y/\y<V.tok.length)&&!(Zba V.mer x y)))=r):
  Calls Tryz.prog 137 #[at0 b,.agg #[.int .i64 x,.int .i64 y]] w λe w'=>e=.returned (.bool r)/\Below w.heap.size w w':=by
 have h:=Zup w F b V hG x y hx hy;rw[hr]at h;exact h
theorem Zus (w:World) (F:Nat->Prop) (b:Nat) (V:Voc) (hG:Grow w F b V) (A:Option Addr) (n c:Nat) (x:Nm) (hx:BytesIn w A n x):
  Calls Tryz.prog 88 #[at0 b,.slice A n c] w λe w'=>e=.returned (.bool (decide (0<n)&&(decide (n<=16)&&decide (Zbb V.tok x<0))))/\Below w.heap.size w w':=by
 have HG:=Zh hG;have HX:=Zh hx;clear hG hx;by_cases h0:0<n
 ·have z0:(0:Int)<(n:Int):=by omega
  by_cases h1:n<=16
  ·have z1:(n:Int)<=16:=by omega
   rw[Yb0 h0,Yb0 h1];cases hr:decide (0<=Zbb V.tok x)with
   | false=>
    have HR:=Zh hr;have hneg:decide (Zbb V.tok x<0)=true:=by simp at hr;simpa using hr
    rw[hneg];clear hr hneg;go_enter Tryz.func88,Tryz.ntmps88;go_wp2_with fail;refine(Zfh _ F b V HG.out A n c x HX.out HR.out).mono ?_;rintro e w1 ⟨rfl,hb⟩;have HB:=Zh hb;clear hb;go_wp2;go_ret;exact⟨rfl,HB.out⟩
   | true=>
    have HR:=Zh hr;have hneg:decide (Zbb V.tok x<0)=false:=by simp at hr;simpa using hr
    rw[hneg];clear hr hneg;go_enter Tryz.func88,Tryz.ntmps88;go_wp2_with fail;refine(Zfh _ F b V HG.out A n c x HX.out HR.out).mono ?_;rintro e w1 ⟨rfl,hb⟩;have HB:=Zh hb;clear hb;go_wp2;go_ret;exact⟨rfl,HB.out⟩
  ·have z1:¬ (n:Int)<=16:=by omega
   rw[Ybt h1];go_enter Tryz.func88,Tryz.ntmps88;go_wp2;go_ret;exact⟨by simp,Ybm _ _⟩
 ·have z0:¬ (0:Int)<(n:Int):=by omega
  rw[Ybt h0];go_enter Tryz.func88,Tryz.ntmps88;go_wp2;go_ret;exact⟨rfl,Ybm _ _⟩
theorem Zn8 (w:World) (F:Nat->Prop) (b:Nat) (V:Voc) (hG:Grow w F b V) (A:Option Addr) (n c:Nat) (x:Nm) (hx:BytesIn w A n x) {r:Bool} (hr:(decide (0<n)&&(decide (n<=16)&&decide (Zbb V.tok x<0)))=r):
  Calls Tryz.prog 88 #[at0 b,.slice A n c] w λe w'=>e=.returned (.bool r)/\Below w.heap.size w w':=by
 have h:=Zus w F b V hG A n c x hx;rw[hr]at h;exact h
theorem Zlt (w:World) (F:Nat->Prop) (b:Nat) (V:Voc) (hG:Grow w F b V):
  Calls Tryz.prog 90 #[at0 b] w λe w'=>e=.returned (.bool ((List.range 256).all λc=>decide (0<=Zbb V.tok [UInt8.ofNat c])))/\Below w.heap.size w w':=by
 have HG:=Zh hG;obtain⟨R,hR⟩:=Ze ((List.range 256).all λc=>decide (0<=Zbb V.tok [UInt8.ofNat c]));rw[<- hR];have HR:=Zh hR;clear hG hR;go_enter Tryz.func90,Tryz.ntmps90;go_wp2;go_loopw [4] (λi wr=>∃ j:Nat,j<=256/\i=.int .i64 j/\Below w.heap.size w wr/\∀ c,c<j->0<=Zbb V.tok [UInt8.ofNat c]) (λi _=>256-(intOf i).toNat);case atStart=>exact⟨0,by omega,rfl,Ybm _ _,λc h=>by omega⟩
 case round=>
  obtain⟨j,hj,rfl,hB,hok⟩:=hrel;have HB:=Zh hB;have HOK:=Zh hok;clear hB hok;rcases Yab j 256 with hlt|hge
  ·have hlt':(j:Int)<256:=by omega
   obtain⟨x,rfl⟩:∃ x:UInt8,j=x.toNat:=⟨UInt8.ofNat j,by rw[Yaa (by show _<256;omega)]⟩
   have hxx:UInt8.ofNat x.toNat=x:=by simp
   have HXX:=Zh hxx;have hin:=Zj2 wr [x] (0,0) (by unfold maxLen;simp);have hb1:=HB.out.alloc HB.out.size (.cells #[.int .u8 x.toNat] 5);have HB1:=Zh hb1;have HIN:=Zh hin;have HG1:=Zh (HG.out.kept hb1);clear hin hb1 hxx;go_wp2_with fail;cases hr:decide (0<=Zbb V.tok [x])with
   | false=>
    have HRR:=Zh hr;refine(Zfh _ F b V HG1.out (some ⟨wr.heap.size,0,none⟩) 1 1 [x] HIN.out HRR.out).mono ?_;rintro e w1 ⟨rfl,hb⟩;have HF:=Zh (Zaa HB1.out hb HB1.out.size);have hfin:R=false:=by
     rw[HR.out];exact Zel hlt (by rw[HXX.out];exact hr)
    have HFIN:=Zh hfin;clear hfin hb hr;go_wp2;go_ret;exact⟨by rw[HFIN.out];rfl,HF.out⟩
   | true=>
    have HRR:=Zh hr;refine(Zfh _ F b V HG1.out (some ⟨wr.heap.size,0,none⟩) 1 1 [x] HIN.out HRR.out).mono ?_;rintro e w1 ⟨rfl,hb⟩;have HF:=Zh (Zaa HB1.out hb HB1.out.size);clear hb hr;go_wp2;go_roundw;case rel=>
     refine⟨x.toNat+1,by omega,by go_num,HF.out,λc hc=>?_⟩;rcases Yab c x.toNat with h|h
     ·exact HOK.out c h
     ·obtain rfl:c=x.toNat:=by omega
      rw[HXX.out];exact of_decide_eq_true HRR.out
    case measure=>simp[intOf];omega
  ·obtain rfl:j=256:=by omega
   have hjz:¬ (((256:Nat):Int)<256):=by omega
   have hfin:R=true:=by
    rw[HR.out];exact Zce λc hc=>Yb0 (HOK.out c hc)
   have HFIN:=Zh hfin;clear hfin;go_wp2;go_ret;exact⟨by rw[HFIN.out];rfl,HB.out⟩
def Zd6 (V:Voc) (a b:Int):Nm:=V.tok.getD a.toNat []++V.tok.getD b.toNat []
def Zhh (V:Voc) (a b:Int):Bool:=decide (0<=a/\a<V.tok.length)&&(decide (0<=b/\b<V.tok.length)&&!(Zba V.mer a b))
def mayM (V:Voc) (m:Mg):Bool:=Zhh V m.a m.b&&(decide (0<=Zbb V.tok (Zd6 V m.a m.b))&&decide (Zbb V.tok (Zd6 V m.a m.b)=m.t))
def Qcy (V:Voc):Prop:=∀ x∈V.tok,1<=x.length/\x.length<=16
theorem Zmz {V:Voc} {a b:Int} (h:Zhh V a b=true):∃ (i j:Nat) (x y:Nm),a=i/\b=j/\V.tok[i]?=some x/\V.tok[j]?=some y/\Zd6 V a b=x++y/\Zba V.mer a b=false:=by
 unfold Zhh at h;simp only[Yal,decide_eq_true_eq,Bool.not_eq_true']at h;obtain⟨h1,h2,h3⟩:=h;have ha:V.tok[a.toNat]?=some (V.tok[a.toNat]'(by omega)):=Yax _;have hb:V.tok[b.toNat]?=some (V.tok[b.toNat]'(by omega)):=Yax _;exact⟨a.toNat,b.toNat,_,_,by omega,by omega,ha,hb,by unfold Zd6;rw[Yaw,Yaw,ha,hb];rfl,h3⟩
theorem Zn2 {P:Program} {md:Region.Mode} {ops:Array Oper} {Q:Exit->Act->World->Prop} {S S':World->Prop} (h:∀ w,S' w->S w):∀ (fuel:Nat) (listed:Array Bool) (a:Act) (w:World),wpAnyH P md ops Q S' fuel listed a w->wpAnyH P md ops Q S fuel listed a w
 | 0,_,_,_,k=>k
 | fuel+1,_,_,_,k=>⟨k.1,λi hi=>wpOp_mono (λa' w' h'=>⟨h w' h'.1,Zn2 h fuel _ a' w' h'.2⟩) (k.2 i hi)⟩
theorem Zol (w:World) (F:Nat->Prop) (b:Nat) (V:Voc) (hG:Grow w F b V) (hsh:Qcy V) (m:Mg) (hm:Zjn m):
  Calls Tryz.prog 91 #[at0 b,.agg #[.int .i64 m.a,.int .i64 m.b,.int .i64 m.t]] w λe w'=>e=.returned (.bool (mayM V m))/\Below w.heap.size w w':=by
 obtain⟨R,hR⟩:=Ze (mayM V m);rw[<- hR];unfold mayM at hR;have HG:=Zh hG;have HR:=Zh hR;have HSH:=Zh hsh;clear hG hR hsh;have b1:Below w.heap.size w (w.alloc (.cells #[.int .i64 m.a,.int .i64 m.b,.int .i64 m.t] 88)):=(Ybm _ w).alloc (Yar _) _;obtain⟨W1,hW1⟩:=Ze (w.alloc (.cells #[.int .i64 m.a,.int .i64 m.b,.int .i64 m.t] 88));have hpb:Blk W1 w.heap.size 88 #[.int .i64 m.a,.int .i64 m.b,.int .i64 m.t]:=by rw[hW1];exact Blk.new _ _ _
 rw[<- hW1]at b1;have m0:=hpb.cell 0;have m1:=hpb.cell 1;have m2:=hpb.cell 2;simp only[lz0,lz1,lz2]at m0 m1 m2;have HW:=Zh hW1;have HPB:=Zh hpb;have HB1:=Zh b1;clear hW1 hpb b1;unfold at0;go_enter Tryz.func91,Tryz.ntmps91;go_wp2_with fail;rw[<- HW.out];go_wp2_with fail;refine(Zgt _ m.a m.b m.t).mono ?_;rintro e w2 ⟨rfl,hb2⟩;have HB2:=Zh (Zaa HB1.out hb2 HB1.out.size);have HP2:=Zh (HPB.out.below hb2 HPB.out.lt);clear hb2 m0 m1 m2;have hb3:=HB2.out.alloc HB2.out.size (.cells #[.int .i64 m.a,.int .i64 m.b] 73);obtain⟨W3,hW3⟩:=Ze (w2.alloc (.cells #[.int .i64 m.a,.int .i64 m.b] 73));have hq:Blk W3 w2.heap.size 73 #[.int .i64 m.a,.int .i64 m.b]:=by rw[hW3];exact Blk.new _ _ _
 have HP3:=Zh (HP2.out.alloc (.cells #[.int .i64 m.a,.int .i64 m.b] 73));rw[<- hW3]at hb3 HP3;have p0:=hq.cell 0;have p1:=hq.cell 1;simp only[lz0,lz1,lz2]at p0 p1;have HB3:=Zh hb3;have HW3:=Zh hW3;have HQ:=Zh hq;have HG3:=Zh (HG.out.kept hb3);clear hb3 hW3 hq;go_wp2_with fail;try rw[<- HW3.out]
 cases hf:Zhh V m.a m.b with
 | false=>
  have HF:=Zh hf;refine(Zps W3 F b V HG3.out m.a m.b hm.1 hm.2.1 HF.out).mono ?_;rintro e w4 ⟨rfl,hb4⟩;have HB4:=Zh (Zaa HB3.out hb4 HB3.out.size);have hfin:R=false:=by rw[HR.out,HF.out];rfl
  have HFIN:=Zh hfin;clear hb4 hf hfin;go_wp2;go_ret;exact⟨by rw[HFIN.out];rfl,HB4.out⟩
 | true=>
  have HF:=Zh hf;refine(Zps W3 F b V HG3.out m.a m.b hm.1 hm.2.1 HF.out).mono ?_;rintro e w4 ⟨rfl,hb4⟩;have HB4:=Zh (Zaa HB3.out hb4 HB3.out.size);have HG4:=Zh (HG3.out.kept hb4);have HP4:=Zh (HP3.out.below hb4 HP3.out.lt);have HQ4:=Zh (HQ.out.below hb4 HQ.out.lt);obtain⟨i,j,x,y,hi,hj,hx,hy,hboth,-⟩:=Zmz hf;rw[hf,hboth,Bool.true_and]at HR;have q0:=HQ4.out.cell 0;have q1:=HQ4.out.cell 1;have q2:=HP4.out.cell 2;obtain⟨tv,mv,bt,bp,svs,DT,DP,h⟩:=HG4.out;have q3:=h.blk.cell 2;simp only[lz0,lz1,lz2]at q0 q1 q2 q3;have hxl:=HSH.out x (Ybz hx);have hyl:=HSH.out y (Ybz hy);have HX:=Zh hx;have HY:=Zh hy;have HT:=Zh h.tmap;have HIT:=Zh h.isT;have HXL:=Zh hxl;have HYL:=Zh hyl;obtain⟨k,hk⟩:=Ze m.t;rw[<- hk]at HR q2;have hkf:=hm.2.2;rw[<- hk]at hkf;clear hb4 hf hboth h hx hy hxl hyl p0 p1 hk;rw[hi]at q0;rw[hj]at q1;have HI:=Zh hi;have HJ:=Zh hj;clear hi hj;go_wp2_with fail;refine Yb8 (S:=λw'=>Below w4.heap.size w4 w'/\w'.cell? ⟨b,2,none⟩=some (.map (some bt))/\w'.cell? ⟨w2.heap.size,0,none⟩=some (.int .i64 (i:Int))/\w'.cell? ⟨w2.heap.size,1,none⟩=some (.int .i64 (j:Int))) (by kernel_rfl) ?_ (λhHeld=>?_)
  ·exact⟨(Ybm _ w4).drew,q3,q0,q1⟩
  refine tk 0 ?_;try simp only[Act.put,lz3,lz4,lz5]
  refine tk 1 ?_;try simp only[Act.put,lz3,lz4,lz5]
  refine tk 2 ?_;try simp only[Act.put,lz3,lz4,lz5]
  refine tk 3 ?_;try simp only[Act.put,lz3,lz4,lz5]
  refine tk 4 ?_;try simp only[Act.put,lz3,lz4,lz5]
  refine tk 5 ?_;try simp only[Act.put,lz3,lz4,lz5]
  refine rd1 6 ?_;intro K hK;go_simp;refine(Zvv _ F b V (HG4.out.kept (hHeld.1)) i j x y HX.out HY.out (by have:=HXL.out;omega) (by have:=HXL.out;omega) (by have:=HYL.out;omega)).mono ?_;rintro e w5 ⟨v5,rfl,hO,hB⟩;obtain⟨A5,c5,hv⟩:=Zac hO;subst hv;have hb5:Below w4.heap.size w4 w5:=Zaa (Ybm _ w4).drew hB (Yar _);have hlen:(x++y).length=x.length+y.length:=Yaq;have I5:=BytesIn.own hO (by have:=HXL.out;have:=HYL.out;unfold maxLen;omega);have s5:∀ w',Below w5.heap.size w5 w'->(convert 24 9 (.slice A5 (x.length+y.length) c5)).run Tryz.prog w'=.ok (.string ⟨(x++y).toArray⟩) w':=λ_ hb=>Zdx (I5.below hb) c5;have l5:∀ w',Below w5.heap.size w5 w'->(Instr.lookup 218 (.map (some bt)) (.string ⟨(x++y).toArray⟩) true).run Tryz.prog w'=.ok (.tuple #[.int .i64 (Zn5 V.tok (x++y)),.bool (decide (0<=Zbb V.tok (x++y)))]) w':=λw' hb=>Ztl (Zap HT.out ((Zaa hb5 hb hb5.size).block _ HT.out.lt)) HIT.out _ (by rw[hlen];have:=HXL.out;have:=HYL.out;unfold maxLen;omega);obtain⟨xy,hxy⟩:=Ze (x++y);rw[<- hxy]at s5 l5 HR;obtain⟨P,hP⟩:=Ze (decide (0<=Zbb V.tok xy));obtain⟨Q,hQ⟩:=Ze (Zn5 V.tok xy);rw[<- hP,<- hQ]at l5;have hS5:(λw'=>Below w4.heap.size w4 w'/\w'.cell? ⟨b,2,none⟩=some (.map (some bt))/\w'.cell? ⟨w2.heap.size,0,none⟩=some (.int .i64 (i:Int))/\w'.cell? ⟨w2.heap.size,1,none⟩=some (.int .i64 (j:Int))) w5:=⟨hb5,Zag hb5 q3,Zag hb5 q0,Zag hb5 q1⟩
  have HS5:=Zh hS5;have r2:=Zag hb5 q2;have HB5:=Zh (Zaa HB4.out hb5 HB4.out.size);have HPP:=Zh hP;have HQQ:=Zh hQ;clear hb5 hB hO I5 hlen hxy hP hQ q2 hS5;go_wp2_with fail;refine hK.out _ _ HS5.out (λ_=>?_);clear hK K;refine Zn2 (S':=λw'=>Below w5.heap.size w5 w'/\(λw'=>Below w4.heap.size w4 w'/\w'.cell? ⟨b,2,none⟩=some (.map (some bt))/\w'.cell? ⟨w2.heap.size,0,none⟩=some (.int .i64 (i:Int))/\w'.cell? ⟨w2.heap.size,1,none⟩=some (.int .i64 (j:Int))) w') (λw h=>h.2) _ _ _ _ ?_;have hHeld2:(λw'=>Below w5.heap.size w5 w'/\(λw'=>Below w4.heap.size w4 w'/\w'.cell? ⟨b,2,none⟩=some (.map (some bt))/\w'.cell? ⟨w2.heap.size,0,none⟩=some (.int .i64 (i:Int))/\w'.cell? ⟨w2.heap.size,1,none⟩=some (.int .i64 (j:Int))) w') _:=⟨Ybm _ _,HS5.out⟩
  try simp only[Act.put,lz3,lz4,lz5]
  refine tk 7 ?_;try simp only[Act.put,lz3,lz4,lz5]
  refine tk 8 ?_;try simp only[Act.put,lz3,lz4,lz5]
  refine tk 9 ?_;try simp only[Act.put,lz3,lz4,lz5]
  refine tk 10 ?_;try simp only[Act.put,lz3,lz4,lz5]
  refine tk 11 ?_;try simp only[Act.put,lz3,lz4,lz5]
  refine tk 12 ?_;try simp only[Act.put,lz3,lz4,lz5]
  refine tk 13 ?_;try simp only[Act.put,lz3,lz4,lz5]
  refine Yb9 (by kernel_rfl) ?_ _;clear hHeld hHeld2 s5 l5;have hat:Q=if P=true then Zbb V.tok xy else 0:=by
   rw[HQQ.out,HPP.out];unfold Zn5;simp
  have HAT:=Zh hat;clear hat;cases hP:P with
  | false=>
   have hfin:R=false:=by rw[HR.out,<- HPP.out,hP];rfl
   have HFIN:=Zh hfin;subst hP;clear hfin;go_wp2;go_ret;exact⟨by rw[HFIN.out];rfl,HB5.out⟩
  | true=>
   subst hP;by_cases hqk:Q=k
   ·have d1:(Q==k)=true:=by simpa using hqk
    have hfin:R=true:=by
     rw[HR.out,<- HPP.out,<- hqk,HAT.out];simp
    have HFIN:=Zh hfin;clear hfin hqk;go_wp2;go_ret;exact⟨by rw[HFIN.out];rfl,HB5.out⟩
   ·have d1:(Q==k)=false:=by simpa using hqk
    have hfin:R=false:=by
     rw[HR.out,<- HPP.out,Bool.true_and];rw[HAT.out,Yag rfl]at hqk;exact Ybt hqk
    have HFIN:=Zh hfin;clear hfin hqk;go_wp2;go_ret;exact⟨by rw[HFIN.out];rfl,HB5.out⟩
def Zdr (V:Voc) (a b:Int):Int:=
 if Zhh V a b=false then 53
 else if 16<(Zd6 V a b).length then 52
 else if 512<=V.mer.length\/(Zbb V.tok (Zd6 V a b)<0/\512<=V.tok.length) then 2
 else 0
def Zf1 (V:Voc) (a b:Int):Voc:=
 if Zbb V.tok (Zd6 V a b)<0 then ⟨V.tok++[Zd6 V a b],V.mer++[⟨a,b,V.tok.length⟩]⟩
 else ⟨V.tok,V.mer++[⟨a,b,Zbb V.tok (Zd6 V a b)⟩]⟩
theorem Zyn {L:List Nm} (h:L.length<=1048576) (s:Nm):Zaj (Zbb L s):=by
 rcases Zc1 L s with⟨h1,_⟩|⟨i,h1,h2,_⟩
 ·rw[h1];exact⟨by omega,by omega⟩
 ·have:=(Ybb.1 h2).1
  rw[h1];exact⟨by omega,by omega⟩
end Go.Proofs.YthcjikpabpgpfaaGreat
