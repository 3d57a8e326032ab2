import Derived.Test.YthcjikpabpgpfaaGreatZp17
set_option linter.unusedSimpArgs false
set_option maxHeartbeats 16000000
set_option maxRecDepth 100000
namespace Go.Proofs.YthcjikpabpgpfaaGreat
open Go.RowKit Go.Maps Go.WideMaps
theorem Zw0 {s:CSt} (hV:ValidP s.l) (hw:CWF s):Zlb s (cDoc s+1)=Zit s:=by
 have q4:=hw.at_;by_cases h:s.at_<s.l.length
 ·have hf:IsFirst s.l (cDoc s+1) s.at_ (s.at_+1):=by
   unfold cDoc;rw[Yag h];refine⟨by omega,by omega,λi h1 h2=>?_,λh1=>?_⟩
   ·obtain rfl:i=s.at_:=by omega
    omega
   ·have h3:=hV.up (s.at_+1) h1
    rw[Zfb]at h3;omega
  unfold Zlb Zit;rw[show Zhz s.l (cDoc s+1) (s.l.length-s.at_) s.at_=s.at_+1 from hf.eq q4,Yag h]
 ·unfold Zlb Zit
  rw[Yaf h,show s.l.length-s.at_=0 by omega];rfl
theorem Qek {w:World} {F:Nat->Prop} {b:Nat} {s:CSt} (h:K0 w F b s) (hw:CWF s):Calls Tryz.prog 67 #[.pointer (some ⟨b,0,none⟩)] w λe w'=>e=.returned (.bool (cIn (Zit s)))/\∃ F',K0 w' F' b (Zit s)/\Kept F w w'/\∀ i,F' i->F i\/w.heap.size<=i:=by
 have HD:=Zh (Qcv h);have hs:=Qd0 h hw (cDoc s+1);rw[Zw0 h.1 hw]at hs;have HS:=Zh hs;have hd:-1<=cDoc s/\cDoc s<=4294967296:=by
  unfold cDoc;split
  ·rename_i h1
   have:=h.1.docs _ (Zay h1)
   omega
  ·omega
 obtain⟨D,hD⟩:=Ze (cDoc s);rw[<- hD]at HD HS hd;have hw1:IntKind.i64.wrap (D+1)=D+1:=Ybo _ (by omega);clear h hw hs hD;go_enter Tryz.func67,Tryz.ntmps67;go_wp2_with fail;refine HD.out.mono ?_;rintro e w1 ⟨rfl,rfl⟩;go_wp2_with fail;refine HS.out.mono ?_;rintro e w2 ⟨rfl,ho⟩;have HO:=Zh ho;clear ho;go_wp2;go_ret;exact⟨rfl,HO.out⟩
end Go.Proofs.YthcjikpabpgpfaaGreat
