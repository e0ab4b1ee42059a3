/-
 The sanity check of layer 14's laws. Condition: none.
-/
import Derived.Test.YtlkgmnjceghpiaaGreatPoWn
import Derived.Test.YtlkgmnjceghpiaaGreatInWay
import Derived.Deep.CutBlock
namespace Go.Proofs.YtlkgmnjceghpiaaGreat
open Go.RowKit Go.Deep Plain
set_option linter.unusedSectionVars false
set_option linter.unusedVariables false
open _root_.Go.Proofs.Tryz
open Go.Value (int)
set_option maxHeartbeats 8000000
set_option maxRecDepth 100000
section


instance c100:Cf:=⟨100,100,200,1000,by omega,by omega,by omega,by omega,by omega,by omega,by omega,by omega⟩
theorem memA(w:World):Calls prog 8 #[.agg #[int .i64 1,int .i64 2,int .i64 100,int .i64 100,int .i64 200,int .i64 4,int .u64 1000]] w λ e w'=>∃(b g:Nat) (l:List Cel) (fb fd:Int),e=.returned (.tuple #[.agg #[int .i64 1,int .i64 2,int .i64 100,int .i64 100,int .i64 200,int .i64 4,int .u64 1000,int .i64 10,int .i64 fb,int .i64 fd],.pointer (some ⟨b,0,none⟩)])/\Mem w' b g l 0/\Start 4 l/\(cellAt l 0=(((1:Nat):Int),(⟨#[]⟩:ByteArray),(0:Int))/\cellAt l 4=(((1:Nat):Int),(⟨#[]⟩:ByteArray),(0:Int)))/\Reach3 10 fb fd/\w.heap.size<=b/\w.heap.size<=g/\Kept (λ_=>False) w w':=kitMem3 4 (by omega) (by omega) w
theorem putA(nid:Nat)(hn1:1<=nid)(hn2:nid<=100)(lv:Nat)(A:Option Addr)(c:Nat)(hi:ByteArray)(la:Bool)(rt:Nat)(xs:List Sl)(n:Nat)(hn:xs.length=n)(hw:la=true->hi=⟨#[]⟩)(hlen:n<=4)(hlv:lv<9223372036854775808)(b g:Nat)(l:List Cel)(k:Nat)(w:World)(hm:Mem w b g l k)(hR:Rs w A c xs)(hA:∀ a,A=some a->¬ Own b g a.block) :
  Calls prog 32 #[.agg #[int .i64 1,int .i64 2,int .i64 100,int .i64 100,int .i64 200,int .i64 4,int .u64 1000],.pointer (some ⟨b,0,none⟩),int .u64 nid,.agg #[int .i64 lv,.slice A n c,.string hi,.bool la,int .u64 rt]] w λ e w'=>e=.returned (.tuple #[])/\Mem w' b g (app l (pst (nad 4 nid) (⟨lv,hi,la,rt,xs⟩:Pg))) k/\Kept (Own b g) w w' :=
 kput_to 4 nid (by omega) (by omega) hn1 hn2 lv A c hi la rt xs n hn hw hlen hlv b g l k w hm hR hA
theorem newA{fb fd:Int}{l lE:List Cel}{d:Nat}{ok:Bool}(w:World)(pl:Pln 4 fb fd .st false 1 ⟨#[98]⟩ 2 l d lE ok)(b g:Nat) :
  Calls prog 14 #[.agg #[int .i64 1,int .i64 2,int .i64 100,int .i64 100,int .i64 200,int .i64 4,int .u64 1000,int .i64 10,int .i64 fb,int .i64 fd],int .i64 1,.string ⟨#[98]⟩,int .u64 2] w λ e w'=>∃ p,e=.returned (.pointer (some ⟨p,0,none⟩))/\(∃ Z:Nat->Prop,PA Z w' 4 fb fd b g p l d lE ok/\∀ i,Z i->w.heap.size<=i/\i<w'.heap.size)/\Kept (λ_=>False) w w':=pa_new w pl b g
theorem stepA{Z:Nat->Prop}{w:World}{fb fd:Int}{b g p d:Nat}{l lE:List Cel}{ok:Bool}(hd:Reach3 10 fb fd)(I:PA Z w 4 fb fd b g p l (d+1) lE ok)(k:Nat)(hm:Mem w b g l k)(hb:¬ Z b)(hg:¬ Z g)(hk:k<9223372036854775808)(hzl:∀ i,Z i->i<w.heap.size) :
  Calls prog 16 #[.pointer (some ⟨p,0,none⟩),.pointer (some ⟨b,0,none⟩)] w λ e w'=>e=.returned (.bool (d==0))/\∃ l',Mem w' b g l' (k+1)/\PA (Zm Z w w') w' 4 fb fd b g p l' d lE ok/\Kept (λ j=>Z j\/j=b\/j=g) w w':=pa_step (by omega) (by omega) hd I k hm hb hg hk hzl
theorem awk_plan{l:List Cel}{fb fd:Int}(hS:Start 4 l)(h0:cellAt l 0=(((1:Nat):Int),(⟨#[]⟩:ByteArray),(0:Int)))(hc4:cellAt l 4=(((1:Nat):Int),(⟨#[]⟩:ByteArray),(0:Int)))(hd:Reach3 10 fb fd) :
  ∃ d lE,Pln 4 fb fd .st false 1 ⟨#[98]⟩ 2 (putAt (app (app l (pst (nad 4 1) (⟨0,⟨#[98]⟩,false,2,[(⟨#[97]⟩,1)]⟩:Pg))) (pst (nad 4 2) (⟨0,⟨#[]⟩,true,0,[(⟨#[98]⟩,2)]⟩:Pg))) 4 (2,⟨#[]⟩,0)) d lE true/\0<d/\d<=60/\cellAt lE 0=(3,(⟨#[]⟩:ByteArray),0):=by
 have hlo:=hS.lo;have hN:Cf.N=100:=rfl;have a1:∀ r:Nat,r<7->nad 4 1 r=11+(r:Int):=λ r hr=>by rw[nad_eq (by omega) (by omega) (by omega),nla_eq (by omega) (by omega)];omega
 have a2:∀ r:Nat,r<7->nad 4 2 r=19+(r:Int):=λ r hr=>by rw[nad_eq (by omega) (by omega) (by omega),nla_eq (by omega) (by omega)];omega
 have b1:nla 4 1=10:=by rw[nla_eq (by omega) (by omega)];omega
 have b2:nla 4 2=18:=by rw[nla_eq (by omega) (by omega)];omega
 have A1:Ads 4 (nla 4 1) (nad 4 1) l.length:=ads_of (by omega) (by omega) (by omega) (by omega) hS.lo;have A2:Ads 4 (nla 4 2) (nad 4 2) l.length:=ads_of (by omega) (by omega) (by omega) (by omega) hS.lo;obtain⟨l3,hl3⟩:∃ l3,putAt (app (app l (pst (nad 4 1) (⟨0,⟨#[98]⟩,false,2,[(⟨#[97]⟩,1)]⟩:Pg))) (pst (nad 4 2) (⟨0,⟨#[]⟩,true,0,[(⟨#[98]⟩,2)]⟩:Pg))) 4 (2,⟨#[]⟩,0)=l3:=⟨_,rfl⟩;rw[hl3];have hlen:l3.length=l.length:=by rw[←hl3,putAt_length,app_length,app_length]
 have hfar:∀ i:Int,i≠4->(∀ r:Nat,r<4->i≠11+(r:Int)/\i≠19+(r:Int))->cellAt l3 i=cellAt l i:=λ i h4 hi=>by
  rw[←hl3,cellAt_other (Ne.symm h4),pst_farR (λ r hr=>?_),pst_farR (λ r hr=>?_)]
  ·rw[a1 r (by have:r<4:=hr;omega)];have:=hi r hr;omega
  ·rw[a2 r (by have:r<4:=hr;omega)];have:=hi r hr;omega
 have hp1:Holds (nad 4 1) l3 (⟨0,⟨#[98]⟩,false,2,[(⟨#[97]⟩,1)]⟩:Pg):=λ r hr=>by
  have hr':r<4:=hr;have e:=a1 r (by omega);rw[←hl3,cellAt_other (by omega),pst_farR (λ q hq=>by have hq':q<4:=hq;rw[a2 q (by omega)];omega)];exact pst_holdsR A1 rfl (by show 1<=4;omega) r hr
 have hp2:Holds (nad 4 2) l3 (⟨0,⟨#[]⟩,true,0,[(⟨#[98]⟩,2)]⟩:Pg):=λ r hr=>by
  have hr':r<4:=hr;have e:=a2 r (by omega);rw[←hl3,cellAt_other (by omega)];exact pst_holdsR A2 (by rw[app_length]) (by show 1<=4;omega) r hr
 have hf1:Fits (⟨0,⟨#[98]⟩,false,2,[(⟨#[97]⟩,1)]⟩:Pg):=⟨by show 0<_;omega,by show 2<_;omega,λ x hx=>by rw[List.mem_singleton.1 hx];show 1<_;omega,by show 1<_;omega⟩;have hf2:Fits (⟨0,⟨#[]⟩,true,0,[(⟨#[98]⟩,2)]⟩:Pg):=⟨by show 0<_;omega,by show 0<_;omega,λ x hx=>by rw[List.mem_singleton.1 hx];show 2<_;omega,by show 1<_;omega⟩;have hnats:Nats l3:=by
  rw[←hl3];refine((hS.nats.app (λ s hs=>?_)).app (λ s hs=>?_)).put 4 ⟨2,0,_,rfl,by omega,by omega⟩
  ·obtain⟨r,hr,rfl⟩:=pst_addr hs;exact hf1.nat r
  ·obtain⟨r,hr,rfl⟩:=pst_addr hs;exact hf2.nat r
 have hz:∀ i:Int,i≠0->i≠4->(∀ r:Nat,r<4->i≠11+(r:Int)/\i≠19+(r:Int))->cellAt l3 i=cel0:=λ i h0' h4 hi=>by
  rw[hfar i h4 hi];exact hS.zero i h0' h4 (by rw[a1 1 (by omega)];have:=hi 1 (by omega);omega)
 have hla:∀ t,1<=t->t<=100->cellAt l3 (nla 4 t)=cel0:=λ t h1 h2=>by
  have h3:=nla_eq (F:=4) (nid:=t) h1 h2;exact hz _ (by omega) (by omega) (λ r hr=>by omega)
 have hlat:∀ t,1<=t->t<=Cf.N->∃ wd:Nat,wd%4=0/\cellAt l3 (nla 4 t)=((wd:Int),(⟨#[]⟩:ByteArray),(0:Int)):=λ t h1 h2=>⟨0,rfl,hla t h1 h2⟩;have hnd1:Nd 4 l3 1 (⟨0,⟨#[98]⟩,false,2,[(⟨#[97]⟩,1)]⟩:Pg):=⟨by omega,hp1,⟨0,by rw[hla 1 (by omega) (by omega)];rfl,by omega⟩,λ e=>(by cases e),by show 1<=4;omega,by show Asc [_];simp[Asc]⟩;have hnd2:Nd 4 l3 2 (⟨0,⟨#[]⟩,true,0,[(⟨#[98]⟩,2)]⟩:Pg):=⟨by omega,hp2,⟨0,by rw[hla 2 (by omega) (by omega)];rfl,by omega⟩,λ_=>rfl,by show 1<=4;omega,by show Asc [_];simp[Asc]⟩;have h:TS 4 l.length 2 0 1 (λ_ i=>i+1) (λ_=>2) (λ_ i=>if i=0 then ⟨#[]⟩ else ⟨#[98]⟩) (λ_ i=>if i=0 then (⟨0,⟨#[98]⟩,false,2,[(⟨#[97]⟩,1)]⟩:Pg) else (⟨0,⟨#[]⟩,true,0,[(⟨#[98]⟩,2)]⟩:Pg)) l3:=by
  refine⟨⟨by omega,by omega,λ L hL=>?_,λ L hL=>by omega,by show smG _ 0+2<=2;decide,by omega,?_,?_⟩,hlen,hS.lo,hnats,hlat,⟨λ i hi=>hz i (by omega) (by omega) (λ r hr=>by omega),?_⟩,λ L i hL hi=>?_,λ L i hL hi x hx=>?_⟩
  ·refine⟨by omega,by omega,λ i hi=>by omega,λ i j hi hj e=>by omega,λ i hi=>?_,λ i hi=>?_,rfl,λ i hi=>?_,λ i hi=>?_,λ i hi=>?_⟩
   ·rcases (by omega:i=0\/i=1) with rfl|rfl
    ·exact hnd1
    ·exact hnd2
   ·obtain rfl:L=0:=by omega
    rcases (by omega:i=0\/i=1) with rfl|rfl<;>rfl
   ·obtain rfl:i=0:=by omega
    exact⟨rfl,rfl,rfl⟩
   ·obtain rfl:i=0:=by omega
    show kl ⟨#[]⟩ ⟨#[98]⟩=true;simp[kl,Lib.toList_data,ltB]
   ·obtain rfl:i=1:=by omega
    exact⟨rfl,rfl⟩
  ·show cellAt l3 0=(((0+1:Nat):Int),_,_)
   rw[hfar 0 (by omega) (λ r hr=>by omega)];exact h0
  ·rw[←hl3];exact cellAt_same (by rw[app_length,app_length];omega) _
  ·exact hz 5 (by omega) (by omega) (λ r hr=>by omega)
  ·rcases (by omega:i=0\/i=1) with rfl|rfl
   ·exact hf1
   ·exact hf2
  ·rcases (by omega:i=0\/i=1) with rfl|rfl
   ·have hx':x∈[((⟨#[97]⟩:ByteArray),1)]:=hx
    rw[List.mem_singleton.1 hx'];show (false||ltB (⟨#[97]⟩:ByteArray).toList (⟨#[98]⟩:ByteArray).toList)=true;simp[Lib.toList_data,ltB]
   ·rfl
 obtain⟨d,lE,hpl,h1,h2,h3⟩:=h.first (by omega) (by omega) hd (by omega) (j0:=1) (by omega) (by omega)
 exact⟨d,lE,hpl,h1,h2,h3⟩
theorem awake14_any(w:World) :
  Calls prog 9 #[] w λ e w'=>e=.returned (.bool true)/\Kept (λ_=>False) w w':=by
 go_enter func9,ntmps9;go_wp2_with fail;refine(kitConfig_any 1 0 4 (by decide) _).mono ?_;rintro e w1 ⟨rfl,hK1⟩;have HK:=Hd hK1;have HK0:=Hd hK1.size;clear hK1;go_upto_region 2 with fail
 have hal:=(Kept.refl (λ_=>False) w1).alloc (.cells #[int .i64 1,int .i64 2,int .i64 100,int .i64 100,int .i64 200,int .i64 4,int .u64 1000] 25);have H1:=Hd (Blk.new w1 [int .i64 1,int .i64 2,int .i64 100,int .i64 100,int .i64 200,int .i64 4,int .u64 1000] 25);replace HK:=Hd (HK.o.trans hal kk2);clear hal;generalize hr1:w1.heap.size=r1 at *;generalize w1.alloc (.cells #[int .i64 1,int .i64 2,int .i64 100,int .i64 100,int .i64 200,int .i64 4,int .u64 1000] 25)=W1 at *;have HR1:=Hd (show w.heap.size<=r1/\r1<W1.heap.size from⟨HK0.o,H1.o.lt⟩);clear hr1;obtain⟨x0,x1,x2,x3,x4,x5,x6⟩:=(H1.o).c7;go_wp2_with fail;refine(memA _).mono ?_;rintro e w2 ⟨b,g,l,fb,fd,rfl,hM2,hS2,hr2,hd,hb2,hg2,hK2⟩;have HM:=Hd hM2;have HS:=Hd hS2;have HRT:=Hd hr2;have HD:=Hd hd;have HBG:=Hd (show r1<b/\r1<g/\w.heap.size<=b/\w.heap.size<=g/\b<w2.heap.size/\g<w2.heap.size by have h1:=HR1.o;have h2:=hM2.obj.lt;have h3:=hM2.row.lt;omega);replace HK:=Hd (HK.o.trans hK2 kk2);replace H1:=Hd (hK2.blk H1.o id);clear hM2 hS2 hr2 hd hb2 hg2 hK2 x0 x1 x2 x3 x4 x5 x6;go_upto_region 3 with fail
 have hal:=(Kept.refl (λ_=>False) w2).alloc (.cells #[int .i64 1,int .i64 2,int .i64 100,int .i64 100,int .i64 200,int .i64 4,int .u64 1000,int .i64 10,int .i64 fb,int .i64 fd] 28);have H2:=Hd (Blk.new w2 [int .i64 1,int .i64 2,int .i64 100,int .i64 100,int .i64 200,int .i64 4,int .u64 1000,int .i64 10,int .i64 fb,int .i64 fd] 28);replace HK:=Hd (HK.o.trans hal kk2);replace H1:=Hd (hal.blk H1.o id);replace HM:=Hd (HM.o.kept hal id id);clear hal;generalize hr2:w2.heap.size=r2 at *;generalize w2.alloc (.cells #[int .i64 1,int .i64 2,int .i64 100,int .i64 100,int .i64 200,int .i64 4,int .u64 1000,int .i64 10,int .i64 fb,int .i64 fd] 28)=W2 at *;have HR2:=Hd (show b<r2/\g<r2/\r2<W2.heap.size from⟨HBG.o.2.2.2.2.1,HBG.o.2.2.2.2.2,H2.o.lt⟩);clear hr2;obtain⟨x0,x1,x2,x3,x4,x5,x6⟩:=(H1.o).c7;go_wp2_with fail;have hal:=(Kept.refl (λ_=>False) W2).alloc (.cells #[.string ⟨#[97]⟩,int .u64 1] 70);have HRW:=Hd (show Rs (W2.alloc (.cells #[.string ⟨#[97]⟩,int .u64 1] 70)) (some ⟨W2.heap.size,0,none⟩) 1 [(⟨#[97]⟩,1)] from Rs.one W2 _ _);replace HK:=Hd (HK.o.trans hal kk2);replace H1:=Hd (hal.blk H1.o id);replace H2:=Hd (hal.blk H2.o id);replace HM:=Hd (HM.o.kept hal id id);have HGS:=Hd (show r2<W2.heap.size from HR2.o.2.2);clear hal;generalize W2.heap.size=gs1 at *;generalize W2.alloc (.cells #[.string ⟨#[97]⟩,int .u64 1] 70)=W1x at *;refine(putA 1 (by omega) (by omega) 0 (some ⟨gs1,0,none⟩) 1 ⟨#[98]⟩ false 2 [(⟨#[97]⟩,1)] 1 rfl (λ e=>by cases e) (by omega) (by omega) b g l 0 _ HM.o HRW.o (λ a ha h=>by cases ha;have h1:=HR2.o;have h2:=HGS.o;have h3:gs1=b\/gs1=g:=h;omega)).mono ?_;rintro e V1 ⟨rfl,hM4,hK4⟩;replace H1:=Hd (hK4.blk H1.o (λ h=>by have h1:=HBG.o;rcases h with h|h<;>omega));replace H2:=Hd (hK4.blk H2.o (λ h=>by have h1:=HR2.o;rcases h with h|h<;>omega));have HGT:=Hd (show r2<V1.heap.size from H2.o.lt);replace HK:=Hd (HK.o.trans hK4 (λ j hj h=>by have h1:=HBG.o;rcases h with h|h<;>omega));replace HM:=Hd hM4;clear hM4 hK4 x0 x1 x2 x3 x4 x5 x6 HRW HGS;go_upto_region 6 with fail
 obtain⟨x0,x1,x2,x3,x4,x5,x6⟩:=(H1.o).c7;go_wp2_with fail;have hal:=(Kept.refl (λ_=>False) V1).alloc (.cells #[.string ⟨#[98]⟩,int .u64 2] 70);have HRW:=Hd (show Rs (V1.alloc (.cells #[.string ⟨#[98]⟩,int .u64 2] 70)) (some ⟨V1.heap.size,0,none⟩) 1 [(⟨#[98]⟩,2)] from Rs.one V1 _ _);replace HK:=Hd (HK.o.trans hal kk2);replace H1:=Hd (hal.blk H1.o id);replace H2:=Hd (hal.blk H2.o id);replace HM:=Hd (HM.o.kept hal id id);have HGS:=Hd (show r2<V1.heap.size from HGT.o);clear hal;generalize V1.heap.size=gs2 at *;generalize V1.alloc (.cells #[.string ⟨#[98]⟩,int .u64 2] 70)=W2x at *;refine(putA 2 (by omega) (by omega) 0 (some ⟨gs2,0,none⟩) 1 ⟨#[]⟩ true 0 [(⟨#[98]⟩,2)] 1 rfl (λ_=>rfl) (by omega) (by omega) b g (app l (pst (nad 4 1) (⟨0,⟨#[98]⟩,false,2,[(⟨#[97]⟩,1)]⟩:Pg))) 0 _ HM.o HRW.o (λ a ha h=>by cases ha;have h1:=HR2.o;have h2:=HGS.o;have h3:gs2=b\/gs2=g:=h;omega)).mono ?_;rintro e V2 ⟨rfl,hM4,hK4⟩;replace H1:=Hd (hK4.blk H1.o (λ h=>by have h1:=HBG.o;rcases h with h|h<;>omega));replace H2:=Hd (hK4.blk H2.o (λ h=>by have h1:=HR2.o;rcases h with h|h<;>omega));have HGT:=Hd (show r2<V2.heap.size from H2.o.lt);replace HK:=Hd (HK.o.trans hK4 (λ j hj h=>by have h1:=HBG.o;rcases h with h|h<;>omega));replace HM:=Hd hM4;clear hM4 hK4 x0 x1 x2 x3 x4 x5 x6 HRW HGS;go_wp2_with fail;refine(poke_any b g _ 0 4 2 0 ⟨#[]⟩ _ HM.o).mono ?_;rintro e V3 ⟨rfl,hM6,hK6⟩;replace H1:=Hd (hK6.blk H1.o (λ h=>by have h1:=HBG.o;rcases h with h|h<;>omega));replace H2:=Hd (hK6.blk H2.o (λ h=>by have h1:=HR2.o;rcases h with h|h<;>omega));replace HK:=Hd (HK.o.trans hK6 (λ j hj h=>by have h1:=HBG.o;rcases h with h|h<;>omega));replace HM:=Hd hM6;clear hM6 hK6;obtain⟨d,lE,hpl,hd0,hd60,hE0⟩:=awk_plan HS.o HRT.o.1 HRT.o.2 HD.o;generalize putAt (app (app l (pst (nad 4 1) (⟨0,⟨#[98]⟩,false,2,[(⟨#[97]⟩,1)]⟩:Pg))) (pst (nad 4 2) (⟨0,⟨#[]⟩,true,0,[(⟨#[98]⟩,2)]⟩:Pg))) 4 (2,⟨#[]⟩,0)=l3 at *;have HPL:=Hd hpl;have HE0:=Hd hE0;clear hpl hE0;obtain⟨y0,y1,y2,y3,y4,y5,y6,y7,y8,y9⟩:=(H2.o).c10;go_wp2_with fail;refine(newA V3 HPL.o b g).mono ?_;rintro e V4 ⟨p,rfl,⟨Z,hPA,hZ⟩,hK7⟩;have HPA:=Hd hPA;have HB3:=Hd (show b<V3.heap.size/\g<V3.heap.size/\w.heap.size<=V3.heap.size from⟨HM.o.obj.lt,HM.o.row.lt,HK.o.size⟩);have HZ:=Hd (show ∀ j,Z j->V3.heap.size<=j/\j<V4.heap.size from hZ);replace HM:=Hd (HM.o.kept hK7 id id);have HKS:=Hd (show Kept (λ j=>V3.heap.size<=j\/j=b\/j=g) V3 V4 from hK7.mono (λ_ h=>h.elim));clear hPA hZ hK7 y0 y1 y2 y3 y4 y5 y6 y7 y8 y9 H1 H2;go_wp2_with fail;go_loopw [5] (λ kv wr=>∃(k d:Nat) (Z:Nat->Prop) (l9:List Cel),kv=int .i64 k/\0<d/\k+d<=70/\Mem wr b g l9 k/\PA Z wr 4 fb fd b g p l9 d lE true/\(∀ j,Z j->V3.heap.size<=j/\j<wr.heap.size)/\Kept (λ j=>V3.heap.size<=j\/j=b\/j=g) V3 wr) (λ kv _=>300-(intOf kv).toNat)
 case atStart=>exact⟨0,d,Z,l3,rfl,hd0,by omega,HM.o,HPA.o,HZ.o,HKS.o⟩
 case round =>
  rename World=>X1;obtain⟨k,d,Z,l9,rfl,hd0,hkd,hM,hP,hZ,hKV⟩:=hrel;have HM1:=Hd hM;have HP1:=Hd hP;have HZ1:=Hd hZ;have HKV:=Hd hKV;have HKD:=Hd hkd;obtain⟨d1,rfl⟩:∃ d1,d=d1+1:=⟨d-1,by omega⟩;clear hM hP hZ hKV hd0;have hk2:(k:Int)<200:=by omega
  obtain⟨k1,hk1⟩:∃ k1,k+1=k1:=⟨_,rfl⟩;have HKN:=Hd hk1;have hkw:IntKind.i64.wrap ((k:Int)+1)=(k1:Int):=by have:=HKD.o;rw[IntKind.wrap_i64];omega
  clear hk1 hkd;go_wp2_with fail;refine(stepA HD.o HP1.o k HM1.o (λ h=>by have h1:=HZ1.o b h;have h2:=HB3.o;omega) (λ h=>by have h1:=HZ1.o g h;have h2:=HB3.o;omega) (by have:=HKD.o;omega) (λ i hi=>(HZ1.o i hi).2)).mono ?_;rintro e X2 ⟨rfl,l',hM,hP,hK⟩;have hsz:=HKV.o.size;have HM2:=Hd hM;have HP2:=Hd hP;have HZ2:=Hd (show ∀ j,Zm Z X1 X2 j->V3.heap.size<=j/\j<X2.heap.size from λ j hj=>by
   have h1:=hK.size;rcases hj with hj|hj
   ·have:=HZ1.o j hj;omega
   ·omega)
  have HK2:=Hd (HKV.o.trans hK (λ j hj h=>by
   rcases h with h|h|h
   ·exact .inl (HZ1.o j h).1
   ·exact .inr (.inl h)
   ·exact .inr (.inr h)))
  clear hM hP hK hsz
  by_cases hd1:d1=0
  ·subst hd1
   obtain⟨hlE,hPo⟩:=pa_end HP2.o;have HPO:=Hd hPo;have HM3:=Hd (show Mem X2 b g lE (k+1) from by rw[←hlE];exact HM2.o);clear hPo hlE;go_wp2_with fail;refine HPO.o.mono ?_;rintro e X3 ⟨rfl,rfl⟩;go_wp2_with fail;refine(peek_any b g _ _ 0 3 0 ⟨#[]⟩ _ HM3.o HE0.o).mono ?_;rintro e X4 ⟨rfl,hK8⟩;have hf0:=field0 3 0 ⟨#[]⟩;have HK9:=Hd (HK2.o.trans hK8 (λ_ _ h=>h.elim));clear hK8;go_wp2;go_ret;exact⟨rfl,HK.o.trans HK9.o (λ j hj h=>by have h1:=HBG.o;have h3:=HB3.o;rcases h with h|h|h<;>omega)⟩
  ·have e1:(d1==0)=false:=by simp[hd1]
   rw[e1];have HDN:=Hd hd1;clear hd1 e1;go_wp2;go_roundw
   case rel=>exact⟨k1,d1,_,_,rfl,by have h2:=HDN.o;omega,by have h1:=HKD.o;have h2:=HKN.o;omega,by rw[←HKN.o];exact HM2.o,HP2.o,HZ2.o,HK2.o⟩
   case measure=>have h1:=HKD.o;have h2:=HKN.o;simp[intOf];omega

end
end Go.Proofs.YtlkgmnjceghpiaaGreat
