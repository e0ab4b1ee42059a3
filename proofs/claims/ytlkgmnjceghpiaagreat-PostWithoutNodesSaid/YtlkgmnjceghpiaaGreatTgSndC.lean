/-
 What a View's sound says of a node of such a tree. Condition: a fanout of four to six.
-/
import Derived.Test.YtlkgmnjceghpiaaGreatTgSndA
import Derived.Test.YtlkgmnjceghpiaaGreatLkSndA
namespace Go.Proofs.YtlkgmnjceghpiaaGreat
open Go.RowKit Go.Deep Plain
set_option linter.unusedSectionVars false
set_option linter.unusedVariables false
open _root_.Go.Proofs.Tryz
open Go.Value (int)
set_option maxHeartbeats 8000000
set_option maxRecDepth 100000
section
variable [Cf]

theorem good_ofG{F H:Nat}{l:List Cel}{kk:Nat}{nd:Nat->Nat->Nat}{mm:Nat->Nat}{lo:Nat->Nat->ByteArray}{pg:Nat->Nat->Pg}(T:TrG F l H kk nd mm lo pg){ks:List ByteArray}{r:Nat->Nat}{off:Nat->Nat}(hlv:LeavesG ks r (mm 0) (lo 0) (pg 0) off)(hrf:RefsG r ks.length)(hhi:∀ L',L'<H->∀ i,i<mm L'->∀ x∈(pg L' i).xs,cov (pg L' i) x.1=true){L i:Nat}(hL:L<H)(hi:i<mm L) :
  Good (L:Int) (pg L i).xs.length (pg L i).xs (pg L i).hi (pg L i).la (pg L i).rt (F:Int):=by
 have V:=T.lev L hL;have hnd:=V.nd i hi;have hlen:=hnd.len;refine⟨⟨by omega,by omega,?_⟩,ascI_of hnd.asc,λ q x hx=>?_,λ hla=>⟨hnd.wf hla,?_⟩,λ hla=>⟨?_,λ x hx=>?_⟩⟩
 ·rcases Nat.eq_zero_or_pos L with e|e
  ·exact .inl (by omega)
  ·obtain⟨L',rfl⟩:∃ L',L=L'+1:=⟨L-1,by omega⟩
   obtain⟨⟨r,h0⟩, -⟩:=T.up L' hL i hi;exact .inr (List.getElem?_eq_some_iff.1 h0).1
 ·rcases Nat.eq_zero_or_pos L with e|e
  ·subst e
   have h1:=hlv.slot i hi q x hx;have h2:=(hrf.1 (off i+q) (List.getElem?_eq_some_iff.1 h1.1).1).1;omega
  ·obtain⟨L',rfl⟩:∃ L',L=L'+1:=⟨L-1,by omega⟩
   obtain⟨-,hm⟩:=T.up L' hL i hi;obtain⟨j,hj,rfl⟩:=hm x (List.mem_of_getElem? hx);have:=((T.lev L' (by omega)).num j hj).1;show nd L' j≠0;omega
 ·by_cases e:i+1<mm L
  ·have:=(V.next i e).1;rw[hla] at this;cases this
  ·exact(V.last i (by omega)).2
 ·by_cases e:i+1<mm L
  ·rw[(V.next i e).2.1];have:=(V.num (i+1) e).1;omega
  ·have:=(V.last i (by omega)).1;rw[hla] at this;cases this
 ·have:=hhi L hL i hi x hx
  unfold cov at this;rw[hla,Bool.false_or] at this;exact this
theorem slot_lowG{F H:Nat}{l:List Cel}{kk:Nat}{nd:Nat->Nat->Nat}{mm:Nat->Nat}{lo:Nat->Nat->ByteArray}{pg:Nat->Nat->Pg}(T:TrG F l H kk nd mm lo pg){ks:List ByteArray}{r:Nat->Nat}{off:Nat->Nat}(hlv:LeavesG ks r (mm 0) (lo 0) (pg 0) off){L i q:Nat}{x:Sl}(hL:L<H)(hi:i<mm L)(hx:(pg L i).xs[q]? = some x):kl x.1 (lo L i)=false:=by
 rcases Nat.eq_zero_or_pos L with e|e
 ·subst e;exact hlv.low i hi x (List.mem_of_getElem? hx)
 ·obtain⟨L',rfl⟩:∃ L',L=L'+1:=⟨L-1,by omega⟩
  obtain⟨⟨r,h0⟩, -⟩:=T.up L' hL i hi
  by_cases hq:q=0
  ·subst hq;rw[h0] at hx;cases hx;exact kl_self _
  ·have:=asc_get ((T.lev _ hL).nd i hi).asc (i:=0) (j:=q) (by omega) h0 hx
   exact kl_asymm this
theorem vsound_lowG(F:Nat)(h4:4<=F)(h6:F<=6)(g n:Nat)(l:List Cel)(hl:l.length=n)(H:Nat)(kk:Nat)(nd:Nat->Nat->Nat)(mm:Nat->Nat)(lo:Nat->Nat->ByteArray)(pg:Nat->Nat->Pg)(T:TrG F l H kk nd mm lo pg)(h0:0<H)(ks:List ByteArray)(r:Nat->Nat)(off:Nat->Nat)(hlv:LeavesG ks r (mm 0) (lo 0) (pg 0) off)(hrf:RefsG r ks.length)(hz:∀ L',L'<H->∀ i,i<mm L'->∃ wd:Nat,wd%4=0/\cellAt l (nla F (nd L' i))=((wd:Int),(⟨#[]⟩:ByteArray),(0:Int)))(hhi:∀ L',L'<H->∀ i,i<mm L'->∀ x∈(pg L' i).xs,cov (pg L' i) x.1=true)(i nid:Nat)(hi:i<mm 0)(hnid:nid=nd 0 i)(w:World)(hv:Blk w g 59 (flat3 l)) :
  Calls prog 52 #[.agg #[int .i64 1,int .i64 2,int .i64 Cf.N,int .i64 Cf.C,int .i64 Cf.R,int .i64 F,int .u64 Cf.K,.slice (some ⟨g,0,none⟩) n n],int .u64 nid,int .i64 0,.string (lo 0 i),.slice none 0 0,.slice none 0 0] w λ e w'=>e=.returned (.bool true)/\Kept (λ_=>False) w w':=by
 have hCN2:=Cf.n2;have hCC2:=Cf.c2;have hL:0<H:=h0;have HNID:=Hd hnid;have V9:=T.lev 0 hL;have hnd:=V9.nd i hi;have hgood:=good_ofG T hlv hrf hhi hL hi;have hlen:=hnd.len;obtain⟨wd,hwd4,hwdc⟩:=hz _ hL i hi;have hwdt:(wd:Int).tmod 4=0:=by rw[Int.tmod_eq_emod_of_nonneg (by omega)];omega
 have HLT:=Hd (show cellAt l (nla F nid)=((wd:Int),(⟨#[]⟩:ByteArray),(0:Int)) from by rw[hnid];exact hwdc);clear hwd4 hwdc;have HHD:=Hd (show cellAt l (nodeAt Cf.N (F:Int) 10 (nid:Int) ((1:Nat):Int))=(((pg 0 i).xs.length:Int),(⟨#[]⟩:ByteArray),0) from by
  have h:=hnd.holds 0 (by omega);rw[←hnid] at h;have e:pc (pg 0 i) 0=(((pg 0 i).xs.length:Int),(⟨#[]⟩:ByteArray),((pg 0 i).lv:Int)):=rfl;rw[e,V9.lv i hi] at h;exact h)
 have HZ:=Hd hz;have HHI:=Hd hhi;have HLV:=Hd hlv;have HNX:=Hd (λ h=>V9.next i h);have HLA:=Hd (λ h=>V9.last i h);obtain⟨P,hP⟩:∃ P,pg 0 i=P:=⟨_,rfl⟩;rw[hP] at hgood hlen HHD;obtain⟨la3,hla3⟩:∃ x,P.la=x:=⟨_,rfl⟩;obtain⟨hi3,hhi3⟩:∃ x,P.hi=x:=⟨_,rfl⟩;obtain⟨n3,hn3⟩:∃ x,P.xs.length=x:=⟨_,rfl⟩;obtain⟨rt3,hrt3⟩:∃ x,P.rt=x:=⟨_,rfl⟩;rw[hla3,hhi3,hn3,hrt3] at hgood;rw[hn3] at hlen HHD;have HPP:=Hd hP;have HN3:=Hd hn3;have HG:=Hd hgood;have HPG:=Hd (show ∀ W',Blk W' g 59 (flat3 l)->Calls prog 38 #[.agg #[int .i64 1,int .i64 2,int .i64 Cf.N,int .i64 Cf.C,int .i64 Cf.R,int .i64 F,int .u64 Cf.K,.slice (some ⟨g,0,none⟩) n n],int .u64 nid] W' λ e w'=>∃(A:Option Addr) (c:Nat),e=.returned (.agg #[int .i64 0,.slice A n3 c,.string hi3,.bool la3,int .u64 rt3])/\Rs w' A c P.xs/\(∀ a,A=some a->W'.heap.size<=a.block)/\Kept (λ_=>False) W' w' from λ W' hW=>by
  refine(tpage_anyG F h4 h6 g n l hl H kk nd mm lo pg T 0 i nid hL hi HNID.o 0 rfl W' hW).mono ?_;rintro e w' ⟨A,c,rfl,hr,ha,hk⟩;rw[hP] at hr ⊢;rw[hhi3,hla3,hn3,hrt3];exact⟨A,c,rfl,hr,ha,hk⟩)
 have HRT:=Hd (show la3=false->i+1<mm 0/\rt3=nd 0 (i+1) from λ h=>by
  by_cases e:i+1<mm 0
  ·have:=(HNX.o e).2.1;rw[hP,hrt3] at this;exact⟨e,by omega⟩
  ·have:=(HLA.o (by omega)).1;rw[hP,hla3,h] at this;cases this)
 have HNI:=Hd hnid;clear V9 hnd hgood hz hhi hlv hP hla3 hhi3 hn3 hrt3 hnid;have HV0:=Hd hv;clear hv;go_enter func52,ntmps52;go_wp2_with fail;have hal:=(Kept.refl (λ_=>False) w).alloc (.cells #[int .i64 1,int .i64 2,int .i64 Cf.N,int .i64 Cf.C,int .i64 Cf.R,int .i64 F,int .u64 Cf.K,.slice (some ⟨g,0,none⟩) n n] 36);have HB:=Hd (Blk.new w [int .i64 1,int .i64 2,int .i64 Cf.N,int .i64 Cf.C,int .i64 Cf.R,int .i64 F,int .u64 Cf.K,.slice (some ⟨g,0,none⟩) n n] 36);have HV:=Hd (hal.blk HV0.o id);have HK:=Hd hal;clear hal;generalize w.alloc (.cells #[int .i64 1,int .i64 2,int .i64 Cf.N,int .i64 Cf.C,int .i64 Cf.R,int .i64 F,int .u64 Cf.K,.slice (some ⟨g,0,none⟩) n n] 36)=W at *;generalize hr0:w.heap.size=r0 at *;have HR0:=Hd hr0;clear hr0;obtain⟨x0,x1,x2,x3,x4,x5,x6,x7⟩:=(HB.o).c8;refine(HPG.o _ HV.o).mono ?_;rintro e V1 ⟨A3,c3,rfl,hR3,hA3,hK3⟩;replace HB:=Hd (hK3.blk HB.o id);replace HV:=Hd (hK3.blk HV.o id);replace HK:=Hd (HK.o.trans hK3 kk2);have HR3:=Hd hR3;clear hR3 hA3 hK3 x0 x1 x2 x3 x4 x5 x6 x7;go_upto_region 2 with fail
 have hal:=(Kept.refl (λ_=>False) V1).alloc (.cells #[int .i64 0,.slice A3 n3 c3,.string hi3,.bool la3,int .u64 rt3] 64);have HSL:=Hd (Blk.new V1 [int .i64 0,.slice A3 n3 c3,.string hi3,.bool la3,int .u64 rt3] 64);replace HB:=Hd (hal.blk HB.o id);replace HV:=Hd (hal.blk HV.o id);replace HK:=Hd (HK.o.trans hal kk2);replace HR3:=Hd (HR3.o.keptF hal kk2);clear hal;generalize V1.heap.size=rq at HSL ⊢;generalize V1.alloc (.cells #[int .i64 0,.slice A3 n3 c3,.string hi3,.bool la3,int .u64 rt3] 64)=V2 at *;have HCHK:=Hd (show ∀ W,Kept (λ_=>False) V2 W->Calls prog 105 #[.agg #[int .i64 0,.slice A3 n3 c3,.string hi3,.bool la3,int .u64 rt3],int .i64 F,.bool false] W λ e w'=>e=.returned (.bool true)/\Kept (λ_=>False) W w' from λ W hW =>
  (refCheck_any 0 A3 c3 hi3 la3 rt3 P.xs (F:Int) W n3 HN3.o (by omega) (HR3.o.keptF hW kk2) true ⟨λ_=>HG.o,λ_=>rfl⟩).mono (λ e w' ⟨he,hb⟩=>⟨he,bkept hb⟩))
 have f0:=field0 (n3:Int) 0 ⟨#[]⟩;have wF:IntKind.u64.wrap (F:Int)=(F:Int):=by rw[IntKind.wrap_u64];omega
 have hFn:¬ (F:Int)<(n3:Int):=by omega
 refine qregion (λ w'=>Kept (λ_=>False) V2 w') (by kernel_rfl) (by kernel_rfl) (Kept.refl _ _).drew ?_;refine tkP 20 ?_ (by intro wq hSw;have y0:=(hSw.blk HB.o id).c8;have y54:=(hSw.blk HSL.o id).c5;exact qq1);refine tkP 21 ?_;refine qcall (o:=⟨some 22,_,_,_,_,_⟩) (v:=int .u64 wd) (by rfl) (λ wq hSw=>?_) (λ wq hSw=>Calls.mono (vlatch_any F h4 h6 g n l hl nid (nla F nid) rfl (wd:Int) 0 ⟨#[]⟩ _ (hSw.blk HV.o id) HLT.o) ?_) ?_
 ·(go_simp;try with_reducible rfl)
 ·rintro e w9 ⟨rfl,hk⟩;exact⟨rfl,hSw.trans hk kk2⟩
 try simp only[aP,aA,aZ,aS]
 refine tkR 23 (int .u64 0) ?_;refine tkR 24 (.bool false) ?_;refine tkR 25 (.bool false) ?_;refine tkP 26 ?_;refine tkP 27 ?_ (by intro wq hSw;have y0:=(hSw.blk HB.o id).c8;have y54:=(hSw.blk HSL.o id).c5;exact qq1);refine tkP 28 ?_;refine tkR 29 (.bool false) ?_;refine tkR 30 (.bool false) ?_;refine tkR 31 (.bool false) ?_;refine tkP 32 ?_ (by intro wq hSw;have y0:=(hSw.blk HB.o id).c8;have y54:=(hSw.blk HSL.o id).c5;exact qq1);refine tkP 33 ?_;refine qcall (o:=⟨some 34,_,_,_,_,_⟩) (v:=.agg #[int .u64 n3,.string ⟨#[]⟩,int .u64 0]) (by rfl) (λ wq hSw=>?_) (λ wq hSw=>Calls.mono (vpart_any F h4 h6 g n l hl nid 1 (by omega) _ rfl (n3:Int) 0 ⟨#[]⟩ _ (hSw.blk HV.o id) HHD.o) ?_) ?_
 ·(go_simp;try with_reducible rfl)
 ·rintro e w9 ⟨rfl,hk⟩;exact⟨rfl,hSw.trans hk kk2⟩
 try simp only[aP,aA,aZ,aS]
 refine tkP 35 ?_;refine tkP 36 ?_;refine tkP 37 ?_;refine tkP 38 ?_ (by intro wq hSw;have y0:=(hSw.blk HB.o id).c8;have y54:=(hSw.blk HSL.o id).c5;exact qq1);refine tkR 39 (int .u64 F) ?_;refine tkR 40 (.bool false) ?_;refine tkR 41 (.bool false) ?_;refine tkR 42 (.bool false) ?_;refine tkP 43 ?_ (by intro wq hSw;have y0:=(hSw.blk HB.o id).c8;have y54:=(hSw.blk HSL.o id).c5;exact qq1);refine tkP 44 ?_;refine tkP 45 ?_;refine tkP 46 ?_ (by intro wq hSw;have y0:=(hSw.blk HB.o id).c8;have y54:=(hSw.blk HSL.o id).c5;exact qq1);refine qcall (o:=⟨some 47,_,_,_,_,_⟩) (v:=.bool true) (by rfl) (λ wq hSw=>?_) (λ wq hSw=>Calls.mono (HCHK.o _ hSw) ?_) ?_
 ·(go_simp;try with_reducible rfl)
 ·rintro e w9 ⟨rfl,hk⟩;exact⟨rfl,hSw.trans hk kk2⟩
 try simp only[aP,aA,aZ,aS]
 refine tkR 48 (.bool false) ?_;refine tkR 49 (.bool false) ?_;refine wpQuiet_nil ?_;intro wz hH;replace HB:=Hd (hH.blk HB.o id);replace HV:=Hd (hH.blk HV.o id);replace HSL:=Hd (hH.blk HSL.o id);replace HK:=Hd (HK.o.trans hH kk2);replace HR3:=Hd (HR3.o.keptF hH kk2);clear hH f0 wF hFn HCHK HLT HHD HPG;rename World=>V3;go_wp2_with fail;go_loopw [14] (λ iv wr=>∃ s:Nat,s<=n3/\iv=int .i64 s/\Kept (λ_=>False) V3 wr) (λ iv _=>n3-(intOf iv).toNat)
 case atStart=>exact⟨0,Nat.zero_le _,rfl,Kept.refl _ _⟩
 case round =>
  rename World=>V4;obtain⟨s,hs,rfl,hK4⟩:=hrel;have HK4:=Hd hK4;have HB4:=Hd (hK4.blk HB.o id);have HV4:=Hd (hK4.blk HV.o id);have HS4:=Hd (hK4.blk HSL.o id);have HR4:=Hd (HR3.o.keptF hK4 kk2);clear hK4;obtain⟨s0,s1,s2,s3,s4⟩:=(HS4.o).c5
  by_cases hsn:s<n3
  ·have hsnI:(s:Int)<(n3:Int):=by omega
   obtain⟨x,hx⟩:∃ x,P.xs[s]? = some x:=⟨_,List.getElem?_eq_getElem (by have:=HN3.o;omega)⟩;obtain⟨g3,o3,rfl,hg3,hc3⟩:=HR4.o.at (by have:=HN3.o;omega);obtain⟨y0,y1⟩:=hc3 s x hx;have HY0:=Hd y0;have HY1:=Hd y1;have hlo:=slot_lowG T HLV.o hL hi (by rw[HPP.o];exact hx);have hless:Op.bytesLess x.1.toList (lo 0 i).toList=false:=by rw[bytesLess_ltB];exact hlo
   clear hc3 hlo;go_upto_region 7 with fail
   go_cut [81] from 57 to 81 (λ v wx=>v=.bool false/\wx=V4)
   case first =>
    go_wp2;go_meet;exact⟨rfl,rfl⟩
   case rest =>
    obtain⟨rfl,rfl⟩:=hcut;rename World=>V4;go_wp2_with fail;go_loopw [15,16] (λ bv kv wr=>bv=.bool true/\kv=int .i64 0/\wr=V4) (λ_ _ _=>0)
    case atStart=>exact⟨rfl,rfl,rfl⟩
    case round =>
     obtain⟨rfl,rfl,rfl⟩:=hrel;go_wp2;go_roundw
     case rel=>exact⟨s+1,by omega,by go_num,HK4.o⟩
     case measure=>simp[intOf];omega
  ·have hsnI:¬ (s:Int)<(n3:Int):=by omega
   clear hs;cases la3 with
   | true =>
    go_wp2;go_ret;refine⟨rfl,?_⟩;have:=HK.o.trans HK4.o kk2;exact this
   | false =>
    obtain⟨hin,hrt⟩:=HRT.o rfl;have HRTE:=Hd hrt;clear hrt;obtain⟨x0,x1,x2,x3,x4,x5,x6,x7⟩:=(HB4.o).c8;go_wp2_with fail;refine(tnode_anyG F h4 h6 g n l hl H kk nd mm lo pg T 0 (i+1) rt3 hL hin HRTE.o _ HV4.o).mono ?_;rintro e w9 ⟨rfl,hK9⟩;have HK9:=Hd (HK.o.trans (HK4.o.trans hK9 kk2) kk2);clear hK9;go_wp2;go_ret;refine⟨rfl,?_⟩;have:=HK9.o;exact this

theorem vsound_zeroG(F:Nat)(h4:4<=F)(h6:F<=6)(g n:Nat)(l:List Cel)(hl:l.length=n)(H:Nat)(kk:Nat)(nd:Nat->Nat->Nat)(mm:Nat->Nat)(lo:Nat->Nat->ByteArray)(pg:Nat->Nat->Pg)(T:TrG F l H kk nd mm lo pg)(lv:Nat)(h0:lv=0)(hlv:lv<H)(ks:List ByteArray)(r:Nat->Nat)(off:Nat->Nat)(hle:LeavesG ks r (mm 0) (lo 0) (pg 0) off)(hrf:RefsG r ks.length)(hz:∀ L',L'<H->∀ i,i<mm L'->∃ wd:Nat,wd%4=0/\cellAt l (nla F (nd L' i))=((wd:Int),(⟨#[]⟩:ByteArray),(0:Int)))(hhi:∀ L',L'<H->∀ i,i<mm L'->∀ x∈(pg L' i).xs,cov (pg L' i) x.1=true)(i nid:Nat)(hi:i<mm lv)(hnid:nid=nd lv i)(w:World)(hv:Blk w g 59 (flat3 l)) :
  Calls prog 52 #[.agg #[int .i64 1,int .i64 2,int .i64 Cf.N,int .i64 Cf.C,int .i64 Cf.R,int .i64 F,int .u64 Cf.K,.slice (some ⟨g,0,none⟩) n n],int .u64 nid,int .i64 lv,.string (lo lv i),.slice none 0 0,.slice none 0 0] w λ e w'=>e=.returned (.bool true)/\Kept (λ_=>False) w w':=by
 have hCN2:=Cf.n2;have hCC2:=Cf.c2;subst h0;exact vsound_lowG F h4 h6 g n l hl H kk nd mm lo pg T hlv ks r off hle hrf hz hhi i nid hi hnid w hv
theorem vsound_upG(F:Nat)(h4:4<=F)(h6:F<=6)(g n:Nat)(l:List Cel)(hl:l.length=n)(H:Nat)(kk:Nat)(nd:Nat->Nat->Nat)(mm:Nat->Nat)(lo:Nat->Nat->ByteArray)(pg:Nat->Nat->Pg)(T:TrG F l H kk nd mm lo pg)(ks:List ByteArray)(r:Nat->Nat)(off:Nat->Nat)(hlv:LeavesG ks r (mm 0) (lo 0) (pg 0) off)(hrf:RefsG r ks.length)(hz:∀ L',L'<H->∀ i,i<mm L'->∃ wd:Nat,wd%4=0/\cellAt l (nla F (nd L' i))=((wd:Int),(⟨#[]⟩:ByteArray),(0:Int)))(hhi:∀ L',L'<H->∀ i,i<mm L'->∀ x∈(pg L' i).xs,cov (pg L' i) x.1=true)(L1 L i nid:Nat)(hLe:L=L1+1)(hL:L<H)(hi:i<mm L)(hnid:nid=nd L i)(mB:Nat)(hmB:mm L1=mB)(gB oB cB gW oW cW:Nat)(w:World)(hv:Blk w g 59 (flat3 l))(hgB:gB<w.heap.size)(hbc:∀ k,k<mB->w.cell? ⟨gB,oB+k,none⟩=some (int .u64 ((nd L1 k:Nat):Int)))(hgW:gW<w.heap.size)(hwc:∀ k,k<mB->w.cell? ⟨gW,oW+k,none⟩=some (.string (lo L1 k))) :
  Calls prog 52 #[.agg #[int .i64 1,int .i64 2,int .i64 Cf.N,int .i64 Cf.C,int .i64 Cf.R,int .i64 F,int .u64 Cf.K,.slice (some ⟨g,0,none⟩) n n],int .u64 nid,int .i64 L,.string (lo L i),.slice (some ⟨gB,oB,none⟩) mB cB,.slice (some ⟨gW,oW,none⟩) mB cW] w λ e w'=>e=.returned (.bool true)/\Kept (λ_=>False) w w':=by
 have hCN2:=Cf.n2;have hCC2:=Cf.c2;have HLE:=Hd hLe;have HBC:=Hd hbc;have HWC:=Hd hwc;have HMB:=Hd hmB;have HGB:=Hd hgB;have HGW:=Hd hgW;have hL100:L<=Cf.N:=by have:=T.H100;omega
 clear hLe hbc hwc hmB hgB hgW;have HNID:=Hd hnid;have V9:=T.lev L hL;have hnd:=V9.nd i hi;have hgood:=good_ofG T hlv hrf hhi hL hi;have hlen:=hnd.len;obtain⟨wd,hwd4,hwdc⟩:=hz _ hL i hi;have hwdt:(wd:Int).tmod 4=0:=by rw[Int.tmod_eq_emod_of_nonneg (by omega)];omega
 have HLT:=Hd (show cellAt l (nla F nid)=((wd:Int),(⟨#[]⟩:ByteArray),(0:Int)) from by rw[hnid];exact hwdc);clear hwd4 hwdc;have HHD:=Hd (show cellAt l (nodeAt Cf.N (F:Int) 10 (nid:Int) ((1:Nat):Int))=(((pg L i).xs.length:Int),(⟨#[]⟩:ByteArray),(L:Int)) from by
  have h:=hnd.holds 0 (by omega);rw[←hnid] at h;have e:pc (pg L i) 0=(((pg L i).xs.length:Int),(⟨#[]⟩:ByteArray),((pg L i).lv:Int)):=rfl;rw[e,V9.lv i hi] at h;exact h)
 have HZ:=Hd hz;have HHI:=Hd hhi;have HLV:=Hd hlv;have HNX:=Hd (λ h=>V9.next i h);have HLA:=Hd (λ h=>V9.last i h);obtain⟨P,hP⟩:∃ P,pg L i=P:=⟨_,rfl⟩;rw[hP] at hgood hlen HHD;obtain⟨la3,hla3⟩:∃ x,P.la=x:=⟨_,rfl⟩;obtain⟨hi3,hhi3⟩:∃ x,P.hi=x:=⟨_,rfl⟩;obtain⟨n3,hn3⟩:∃ x,P.xs.length=x:=⟨_,rfl⟩;obtain⟨rt3,hrt3⟩:∃ x,P.rt=x:=⟨_,rfl⟩;rw[hla3,hhi3,hn3,hrt3] at hgood;rw[hn3] at hlen HHD;have HPP:=Hd hP;have HN3:=Hd hn3;have HG:=Hd hgood;have HPG:=Hd (show ∀ W',Blk W' g 59 (flat3 l)->Calls prog 38 #[.agg #[int .i64 1,int .i64 2,int .i64 Cf.N,int .i64 Cf.C,int .i64 Cf.R,int .i64 F,int .u64 Cf.K,.slice (some ⟨g,0,none⟩) n n],int .u64 nid] W' λ e w'=>∃(A:Option Addr) (c:Nat),e=.returned (.agg #[int .i64 L,.slice A n3 c,.string hi3,.bool la3,int .u64 rt3])/\Rs w' A c P.xs/\(∀ a,A=some a->W'.heap.size<=a.block)/\Kept (λ_=>False) W' w' from λ W' hW=>by
  refine(tpage_anyG F h4 h6 g n l hl H kk nd mm lo pg T L i nid hL hi HNID.o L rfl W' hW).mono ?_;rintro e w' ⟨A,c,rfl,hr,ha,hk⟩;rw[hP] at hr ⊢;rw[hhi3,hla3,hn3,hrt3];exact⟨A,c,rfl,hr,ha,hk⟩)
 have HRT:=Hd (show la3=false->i+1<mm L/\rt3=nd L (i+1) from λ h=>by
  by_cases e:i+1<mm L
  ·have:=(HNX.o e).2.1;rw[hP,hrt3] at this;exact⟨e,by omega⟩
  ·have:=(HLA.o (by omega)).1;rw[hP,hla3,h] at this;cases this)
 have HNI:=Hd hnid;clear V9 hnd hgood hz hhi hlv hP hla3 hhi3 hn3 hrt3 hnid;have HV0:=Hd hv;clear hv;go_enter func52,ntmps52;go_wp2_with fail;have hal:=(Kept.refl (λ_=>False) w).alloc (.cells #[int .i64 1,int .i64 2,int .i64 Cf.N,int .i64 Cf.C,int .i64 Cf.R,int .i64 F,int .u64 Cf.K,.slice (some ⟨g,0,none⟩) n n] 36);have HB:=Hd (Blk.new w [int .i64 1,int .i64 2,int .i64 Cf.N,int .i64 Cf.C,int .i64 Cf.R,int .i64 F,int .u64 Cf.K,.slice (some ⟨g,0,none⟩) n n] 36);have HV:=Hd (hal.blk HV0.o id);have HK:=Hd hal;clear hal;generalize w.alloc (.cells #[int .i64 1,int .i64 2,int .i64 Cf.N,int .i64 Cf.C,int .i64 Cf.R,int .i64 F,int .u64 Cf.K,.slice (some ⟨g,0,none⟩) n n] 36)=W at *;generalize hr0:w.heap.size=r0 at *;have HR0:=Hd hr0;clear hr0;obtain⟨x0,x1,x2,x3,x4,x5,x6,x7⟩:=(HB.o).c8;refine(HPG.o _ HV.o).mono ?_;rintro e V1 ⟨A3,c3,rfl,hR3,hA3,hK3⟩;replace HB:=Hd (hK3.blk HB.o id);replace HV:=Hd (hK3.blk HV.o id);replace HK:=Hd (HK.o.trans hK3 kk2);have HR3:=Hd hR3;clear hR3 hA3 hK3 x0 x1 x2 x3 x4 x5 x6 x7;go_upto_region 2 with fail
 have hal:=(Kept.refl (λ_=>False) V1).alloc (.cells #[int .i64 L,.slice A3 n3 c3,.string hi3,.bool la3,int .u64 rt3] 64);have HSL:=Hd (Blk.new V1 [int .i64 L,.slice A3 n3 c3,.string hi3,.bool la3,int .u64 rt3] 64);replace HB:=Hd (hal.blk HB.o id);replace HV:=Hd (hal.blk HV.o id);replace HK:=Hd (HK.o.trans hal kk2);replace HR3:=Hd (HR3.o.keptF hal kk2);clear hal;generalize V1.heap.size=rq at HSL ⊢;generalize V1.alloc (.cells #[int .i64 L,.slice A3 n3 c3,.string hi3,.bool la3,int .u64 rt3] 64)=V2 at *;have HCHK:=Hd (show ∀ W,Kept (λ_=>False) V2 W->Calls prog 105 #[.agg #[int .i64 L,.slice A3 n3 c3,.string hi3,.bool la3,int .u64 rt3],int .i64 F,.bool false] W λ e w'=>e=.returned (.bool true)/\Kept (λ_=>False) W w' from λ W hW =>
  (refCheck_any (L:Int) A3 c3 hi3 la3 rt3 P.xs (F:Int) W n3 HN3.o (by omega) (HR3.o.keptF hW kk2) true ⟨λ_=>HG.o,λ_=>rfl⟩).mono (λ e w' ⟨he,hb⟩=>⟨he,bkept hb⟩))
 have f0:=field0 (n3:Int) (L:Int) ⟨#[]⟩;have wF:IntKind.u64.wrap (F:Int)=(F:Int):=by rw[IntKind.wrap_u64];omega
 have hFn:¬ (F:Int)<(n3:Int):=by omega
 refine qregion (λ w'=>Kept (λ_=>False) V2 w') (by kernel_rfl) (by kernel_rfl) (Kept.refl _ _).drew ?_;refine tkP 20 ?_ (by intro wq hSw;have y0:=(hSw.blk HB.o id).c8;have y54:=(hSw.blk HSL.o id).c5;exact qq1);refine tkP 21 ?_;refine qcall (o:=⟨some 22,_,_,_,_,_⟩) (v:=int .u64 wd) (by rfl) (λ wq hSw=>?_) (λ wq hSw=>Calls.mono (vlatch_any F h4 h6 g n l hl nid (nla F nid) rfl (wd:Int) 0 ⟨#[]⟩ _ (hSw.blk HV.o id) HLT.o) ?_) ?_
 ·(go_simp;try with_reducible rfl)
 ·rintro e w9 ⟨rfl,hk⟩;exact⟨rfl,hSw.trans hk kk2⟩
 try simp only[aP,aA,aZ,aS]
 refine tkR 23 (int .u64 0) ?_;refine tkR 24 (.bool false) ?_;refine tkR 25 (.bool false) ?_;refine tkP 26 ?_;refine tkP 27 ?_ (by intro wq hSw;have y0:=(hSw.blk HB.o id).c8;have y54:=(hSw.blk HSL.o id).c5;exact qq1);refine tkP 28 ?_;refine tkR 29 (.bool false) ?_;refine tkR 30 (.bool false) ?_;refine tkR 31 (.bool false) ?_;refine tkP 32 ?_ (by intro wq hSw;have y0:=(hSw.blk HB.o id).c8;have y54:=(hSw.blk HSL.o id).c5;exact qq1);refine tkP 33 ?_;refine qcall (o:=⟨some 34,_,_,_,_,_⟩) (v:=.agg #[int .u64 n3,.string ⟨#[]⟩,int .u64 L]) (by rfl) (λ wq hSw=>?_) (λ wq hSw=>Calls.mono (vpart_any F h4 h6 g n l hl nid 1 (by omega) _ rfl (n3:Int) (L:Int) ⟨#[]⟩ _ (hSw.blk HV.o id) HHD.o) ?_) ?_
 ·(go_simp;try with_reducible rfl)
 ·rintro e w9 ⟨rfl,hk⟩;exact⟨rfl,hSw.trans hk kk2⟩
 try simp only[aP,aA,aZ,aS]
 refine tkP 35 ?_;refine tkP 36 ?_;refine tkP 37 ?_;refine tkP 38 ?_ (by intro wq hSw;have y0:=(hSw.blk HB.o id).c8;have y54:=(hSw.blk HSL.o id).c5;exact qq1);refine tkR 39 (int .u64 F) ?_;refine tkR 40 (.bool false) ?_;refine tkR 41 (.bool false) ?_;refine tkR 42 (.bool false) ?_;refine tkP 43 ?_ (by intro wq hSw;have y0:=(hSw.blk HB.o id).c8;have y54:=(hSw.blk HSL.o id).c5;exact qq1);refine tkP 44 ?_;refine tkP 45 ?_;refine tkP 46 ?_ (by intro wq hSw;have y0:=(hSw.blk HB.o id).c8;have y54:=(hSw.blk HSL.o id).c5;exact qq1);refine qcall (o:=⟨some 47,_,_,_,_,_⟩) (v:=.bool true) (by rfl) (λ wq hSw=>?_) (λ wq hSw=>Calls.mono (HCHK.o _ hSw) ?_) ?_
 ·(go_simp;try with_reducible rfl)
 ·rintro e w9 ⟨rfl,hk⟩;exact⟨rfl,hSw.trans hk kk2⟩
 try simp only[aP,aA,aZ,aS]
 refine tkR 48 (.bool false) ?_;refine tkR 49 (.bool false) ?_;refine wpQuiet_nil ?_;intro wz hH;replace HB:=Hd (hH.blk HB.o id);replace HV:=Hd (hH.blk HV.o id);replace HSL:=Hd (hH.blk HSL.o id);replace HK:=Hd (HK.o.trans hH kk2);replace HR3:=Hd (HR3.o.keptF hH kk2);clear hH f0 wF hFn HCHK HLT HHD HPG;rename World=>V3;go_wp2_with fail;go_loopw [14] (λ iv wr=>∃ s:Nat,s<=n3/\iv=int .i64 s/\Kept (λ_=>False) V3 wr) (λ iv _=>n3-(intOf iv).toNat)
 case atStart=>exact⟨0,Nat.zero_le _,rfl,Kept.refl _ _⟩
 case round =>
  rename World=>V4;obtain⟨s,hs,rfl,hK4⟩:=hrel;have HK4:=Hd hK4;have HB4:=Hd (hK4.blk HB.o id);have HV4:=Hd (hK4.blk HV.o id);have HS4:=Hd (hK4.blk HSL.o id);have HR4:=Hd (HR3.o.keptF hK4 kk2);clear hK4;obtain⟨s0,s1,s2,s3,s4⟩:=(HS4.o).c5
  by_cases hsn:s<n3
  ·have hsnI:(s:Int)<(n3:Int):=by omega
   obtain⟨x,hx⟩:∃ x,P.xs[s]? = some x:=⟨_,List.getElem?_eq_getElem (by have:=HN3.o;omega)⟩;obtain⟨g3,o3,rfl,hg3,hc3⟩:=HR4.o.at (by have:=HN3.o;omega);obtain⟨y0,y1⟩:=hc3 s x hx;have HY0:=Hd y0;have HY1:=Hd y1;have hlo:=slot_lowG T HLV.o hL hi (by rw[HPP.o];exact hx);have hless:Op.bytesLess x.1.toList (lo L i).toList=false:=by rw[bytesLess_ltB];exact hlo
   have hup:=T.up L1 (by have:=HLE.o;omega) i (by rw[←HLE.o];exact hi);rw[←HLE.o,HPP.o] at hup;obtain⟨⟨r0,h00⟩,hmem⟩:=hup;obtain⟨j0,hj0,hxe⟩:=hmem x (List.mem_of_getElem? hx);have hz00:=hc3 0 _ h00;have z0:=hz00.1;simp only[Nat.zero_mul,Nat.add_zero] at z0;have HJ0:=Hd hj0;have HXE:=Hd hxe;have hs0key:s=0->x.1=lo L i:=λ e=>by subst e;rw[h00] at hx;cases hx;rfl
   have HS0K:=Hd hs0key;have hLp:(0:Int)<(L:Int):=by have:=HLE.o;omega
   have hn0:(0:Int)<(n3:Int):=by omega
   clear hc3 hlo hmem hz00 hxe hj0 h00 hs0key;go_upto_region 7 with fail
   go_cut [81] from 57 to 81 (λ v wx=>v=.bool false/\wx=V4)
   case first =>
    by_cases he:s=0
    ·have e1:((s:Int)==0)=true:=by simp[he]
     clear he;go_wp2;go_meet;exact⟨rfl,rfl⟩
    ·have e1:((s:Int)==0)=false:=by simp[he]
     go_wp2;go_meet;exact⟨rfl,rfl⟩
   case rest =>
    obtain⟨rfl,rfl⟩:=hcut;rename World=>V4;have hmB1000:mB<=1000:=by have:=HMB.o;have:=(T.lev L1 (by have:=HLE.o;omega)).top;omega
    have hLz:((L:Int)==0)=false:=by simp;omega
    clear z0 y0 y1 hless;go_wp2_with fail;go_loopw [15,16] (λ bv kv wr=>∃ k:Nat,k<=mB/\kv=int .i64 k/\bv=.bool (decide (j0<k))/\Kept (λ_=>False) V4 wr) (λ_ kv _=>mB-(intOf kv).toNat)
    case atStart=>exact⟨0,Nat.zero_le _,rfl,rfl,Kept.refl _ _⟩
    case round =>
     rename World=>V5;obtain⟨k,hk,rfl,rfl,hK5⟩:=hrel;have HK5:=Hd hK5;have HS5:=Hd (hK5.blk HS4.o id);have hg5:g3<V5.heap.size:=Nat.lt_of_lt_of_le hg3 hK5.size
     by_cases hkm:k<mB
     ·have hkmI:(k:Int)<(mB:Int):=by omega
      have HKW:=Hd (HK.o.trans (HK4.o.trans hK5 kk2) kk2);obtain⟨nk,hnk⟩:∃ nk,nd L1 k=nk:=⟨_,rfl⟩;obtain⟨lk,hlk⟩:∃ lk,lo L1 k=lk:=⟨_,rfl⟩;have hbk:=HBC.o k hkm;rw[hnk] at hbk;have hwk:=HWC.o k hkm;rw[hlk] at hwk;have hgBw:gB<w.heap.size:=by have:=HR0.o;have:=HGB.o;omega
      have hgWw:gW<w.heap.size:=by have:=HR0.o;have:=HGW.o;omega
      have HBk:=Hd ((HKW.o.cell (p:=⟨gB,oB+k,none⟩) hgBw id).trans hbk);have HWk:=Hd ((HKW.o.cell (p:=⟨gW,oW+k,none⟩) hgWw id).trans hwk);replace HY0:=Hd ((hK5.cell (p:=⟨g3,o3+s*2,none⟩) hg3 id).trans HY0.o);replace HY1:=Hd ((hK5.cell (p:=⟨g3,o3+s*2+1,none⟩) hg3 id).trans HY1.o);have hgB5:gB<V5.heap.size:=Nat.lt_of_lt_of_le hgBw HKW.o.size;clear hgBw;have hgW5:gW<V5.heap.size:=Nat.lt_of_lt_of_le hgWw HKW.o.size;clear hgWw;have HNK:=Hd hnk;have HLK:=Hd hlk;clear hK5 hbk hwk hnk hlk;rcases Nat.lt_trichotomy j0 k with h|h|h
      ·have d0:decide (j0<k)=true:=decide_eq_true h
       rw[d0];have HJK:=Hd h;clear d0 h;go_upto_region 13 with fail
       refine qregion (λ w'=>Kept (λ_=>False) V5 w') (by kernel_rfl) (by kernel_rfl) (Kept.refl _ _).drew ?_;refine tkR 90 (.bool true) ?_;refine tkR 91 (.bool true) ?_;go_big_quiet_skip
       try simp only[aP,aA,aZ,aS]
       go_big_quiet_skip
       try simp only[aP,aA,aZ,aS]
       go_big_quiet_skip
       try simp only[aP,aA,aZ,aS]
       go_big_quiet_skip
       try simp only[aP,aA,aZ,aS]
       go_big_quiet_skip
       try simp only[aP,aA,aZ,aS]
       go_big_quiet_skip
       try simp only[aP,aA,aZ,aS]
       go_big_quiet_skip
       try simp only[aP,aA,aZ,aS]
       go_big_quiet_skip
       try simp only[aP,aA,aZ,aS]
       go_big_quiet_skip
       try simp only[aP,aA,aZ,aS]
       go_big_quiet_skip
       try simp only[aP,aA,aZ,aS]
       go_big_quiet_skip
       try simp only[aP,aA,aZ,aS]
       go_big_quiet_skip
       try simp only[aP,aA,aZ,aS]
       go_big_quiet_skip
       try simp only[aP,aA,aZ,aS]
       go_big_quiet_skip
       try simp only[aP,aA,aZ,aS]
       go_big_quiet_skip
       try simp only[aP,aA,aZ,aS]
       go_big_quiet_skip
       try simp only[aP,aA,aZ,aS]
       go_big_quiet_skip
       try simp only[aP,aA,aZ,aS]
       go_big_quiet_skip
       try simp only[aP,aA,aZ,aS]
       go_big_quiet_skip
       try simp only[aP,aA,aZ,aS]
       go_big_quiet_skip
       try simp only[aP,aA,aZ,aS]
       go_big_quiet_skip
       try simp only[aP,aA,aZ,aS]
       go_big_quiet_skip
       try simp only[aP,aA,aZ,aS]
       go_big_quiet_skip
       try simp only[aP,aA,aZ,aS]
       go_big_quiet_skip
       try simp only[aP,aA,aZ,aS]
       refine tkR 116 (.bool true) ?_;refine tkP 15 ?_;refine wpQuiet_nil ?_;intro wz hH;replace HK5:=Hd (HK5.o.trans hH kk2);clear hH;go_wp2;go_roundw
       case rel=>exact⟨k+1,by omega,by go_num,by rw[decide_eq_true (show j0<k+1 by have:=HJK.o;omega)],HK5.o⟩
       case measure=>simp[intOf];omega
      ·have d0:decide (j0<k)=false:=decide_eq_false (by omega)
       rw[d0];have hxr:(x.2:Int)=(nk:Int):=by rw[HXE.o];show ((nd L1 j0:Nat):Int)=_;rw[h,HNK.o]
       have hxk:x.1=lk:=by rw[HXE.o];show lo L1 j0=lk;rw[h];exact HLK.o
       rw[hxr] at HY1;rw[hxk] at HY0;have HJK:=Hd h;clear d0 h hxr hxk;go_upto_region 13 with fail
       refine qregion (λ w'=>Kept (λ_=>False) V5 w') (by kernel_rfl) (by kernel_rfl) (Kept.refl _ _).drew ?_;refine tkR 90 (.bool false) ?_;refine tkR 91 (.bool false) ?_;refine tkP 92 ?_;refine tkP 93 ?_;refine tkP 94 ?_;refine tkP 95 ?_ (by intro wq hSw;have y0:=(hSw.blk HS5.o id).c5;have y0:=(hSw.cell (p:=⟨g3,o3+s*2,none⟩) hg5 id).trans HY0.o;have y1:=(hSw.cell (p:=⟨g3,o3+s*2+1,none⟩) hg5 id).trans HY1.o;have bb:=(hSw.cell (p:=⟨gB,oB+k,none⟩) hgB5 id).trans HBk.o;have ll:=(hSw.cell (p:=⟨gW,oW+k,none⟩) hgW5 id).trans HWk.o;exact qq1);refine tkP 96 ?_;refine tkP 97 ?_ (by intro wq hSw;have y0:=(hSw.blk HS5.o id).c5;have y0:=(hSw.cell (p:=⟨g3,o3+s*2,none⟩) hg5 id).trans HY0.o;have y1:=(hSw.cell (p:=⟨g3,o3+s*2+1,none⟩) hg5 id).trans HY1.o;have bb:=(hSw.cell (p:=⟨gB,oB+k,none⟩) hgB5 id).trans HBk.o;have ll:=(hSw.cell (p:=⟨gW,oW+k,none⟩) hgW5 id).trans HWk.o;exact qq1);refine tkP 98 ?_;refine tkP 99 ?_;refine tkP 100 ?_;refine tkP 101 ?_ (by intro wq hSw;have y0:=(hSw.blk HS5.o id).c5;have y0:=(hSw.cell (p:=⟨g3,o3+s*2,none⟩) hg5 id).trans HY0.o;have y1:=(hSw.cell (p:=⟨g3,o3+s*2+1,none⟩) hg5 id).trans HY1.o;have bb:=(hSw.cell (p:=⟨gB,oB+k,none⟩) hgB5 id).trans HBk.o;have ll:=(hSw.cell (p:=⟨gW,oW+k,none⟩) hgW5 id).trans HWk.o;exact qq1);refine tkR 102 (.bool true) ?_;refine tkR 103 (.bool true) ?_;refine tkP 104 ?_;refine tkP 105 ?_;refine tkP 106 ?_;refine tkP 107 ?_ (by intro wq hSw;have y0:=(hSw.blk HS5.o id).c5;have y0:=(hSw.cell (p:=⟨g3,o3+s*2,none⟩) hg5 id).trans HY0.o;have y1:=(hSw.cell (p:=⟨g3,o3+s*2+1,none⟩) hg5 id).trans HY1.o;have bb:=(hSw.cell (p:=⟨gB,oB+k,none⟩) hgB5 id).trans HBk.o;have ll:=(hSw.cell (p:=⟨gW,oW+k,none⟩) hgW5 id).trans HWk.o;exact qq1);refine tkP 108 ?_;refine tkP 109 ?_ (by intro wq hSw;have y0:=(hSw.blk HS5.o id).c5;have y0:=(hSw.cell (p:=⟨g3,o3+s*2,none⟩) hg5 id).trans HY0.o;have y1:=(hSw.cell (p:=⟨g3,o3+s*2+1,none⟩) hg5 id).trans HY1.o;have bb:=(hSw.cell (p:=⟨gB,oB+k,none⟩) hgB5 id).trans HBk.o;have ll:=(hSw.cell (p:=⟨gW,oW+k,none⟩) hgW5 id).trans HWk.o;exact qq1);refine tkP 110 ?_;refine tkP 111 ?_;refine tkP 112 ?_;refine tkP 113 ?_ (by intro wq hSw;have y0:=(hSw.blk HS5.o id).c5;have y0:=(hSw.cell (p:=⟨g3,o3+s*2,none⟩) hg5 id).trans HY0.o;have y1:=(hSw.cell (p:=⟨g3,o3+s*2+1,none⟩) hg5 id).trans HY1.o;have bb:=(hSw.cell (p:=⟨gB,oB+k,none⟩) hgB5 id).trans HBk.o;have ll:=(hSw.cell (p:=⟨gW,oW+k,none⟩) hgW5 id).trans HWk.o;exact qq1);refine tkR 114 (.bool true) ?_;refine tkR 115 (.bool true) ?_;refine tkR 116 (.bool true) ?_;refine tkP 15 ?_;refine wpQuiet_nil ?_;intro wz hH;replace HK5:=Hd (HK5.o.trans hH kk2);clear hH;go_wp2;go_roundw
       case rel=>exact⟨k+1,by omega,by go_num,by rw[decide_eq_true (show j0<k+1 by have:=HJK.o;omega)],HK5.o⟩
       case measure=>simp[intOf];omega
      ·have d0:decide (j0<k)=false:=decide_eq_false (by omega)
       rw[d0];have hne:((nk:Int)==(x.2:Int))=false:=beq_false_of_ne (by rw[HXE.o];show (nk:Int)≠((nd L1 j0:Nat):Int);intro e;have h2:nk=nd L1 j0:=(by omega);rw[←HNK.o] at h2;have h3:=(T.lev L1 (by have:=HLE.o;omega)).inj k j0 (by have:=HMB.o;omega) HJ0.o h2;omega);have HJK:=Hd h;clear d0 h;go_upto_region 13 with fail
       refine qregion (λ w'=>Kept (λ_=>False) V5 w') (by kernel_rfl) (by kernel_rfl) (Kept.refl _ _).drew ?_;refine tkR 90 (.bool false) ?_;refine tkR 91 (.bool false) ?_;refine tkP 92 ?_;refine tkP 93 ?_;refine tkP 94 ?_;refine tkP 95 ?_ (by intro wq hSw;have y0:=(hSw.blk HS5.o id).c5;have y0:=(hSw.cell (p:=⟨g3,o3+s*2,none⟩) hg5 id).trans HY0.o;have y1:=(hSw.cell (p:=⟨g3,o3+s*2+1,none⟩) hg5 id).trans HY1.o;have bb:=(hSw.cell (p:=⟨gB,oB+k,none⟩) hgB5 id).trans HBk.o;have ll:=(hSw.cell (p:=⟨gW,oW+k,none⟩) hgW5 id).trans HWk.o;exact qq1);refine tkP 96 ?_;refine tkP 97 ?_ (by intro wq hSw;have y0:=(hSw.blk HS5.o id).c5;have y0:=(hSw.cell (p:=⟨g3,o3+s*2,none⟩) hg5 id).trans HY0.o;have y1:=(hSw.cell (p:=⟨g3,o3+s*2+1,none⟩) hg5 id).trans HY1.o;have bb:=(hSw.cell (p:=⟨gB,oB+k,none⟩) hgB5 id).trans HBk.o;have ll:=(hSw.cell (p:=⟨gW,oW+k,none⟩) hgW5 id).trans HWk.o;exact qq1);refine tkP 98 ?_;refine tkP 99 ?_;refine tkP 100 ?_;refine tkP 101 ?_ (by intro wq hSw;have y0:=(hSw.blk HS5.o id).c5;have y0:=(hSw.cell (p:=⟨g3,o3+s*2,none⟩) hg5 id).trans HY0.o;have y1:=(hSw.cell (p:=⟨g3,o3+s*2+1,none⟩) hg5 id).trans HY1.o;have bb:=(hSw.cell (p:=⟨gB,oB+k,none⟩) hgB5 id).trans HBk.o;have ll:=(hSw.cell (p:=⟨gW,oW+k,none⟩) hgW5 id).trans HWk.o;exact qq1);refine tkR 102 (.bool false) ?_;refine tkR 103 (.bool false) ?_;go_big_quiet_skip
       try simp only[aP,aA,aZ,aS]
       go_big_quiet_skip
       try simp only[aP,aA,aZ,aS]
       go_big_quiet_skip
       try simp only[aP,aA,aZ,aS]
       go_big_quiet_skip
       try simp only[aP,aA,aZ,aS]
       go_big_quiet_skip
       try simp only[aP,aA,aZ,aS]
       go_big_quiet_skip
       try simp only[aP,aA,aZ,aS]
       go_big_quiet_skip
       try simp only[aP,aA,aZ,aS]
       go_big_quiet_skip
       try simp only[aP,aA,aZ,aS]
       go_big_quiet_skip
       try simp only[aP,aA,aZ,aS]
       go_big_quiet_skip
       try simp only[aP,aA,aZ,aS]
       go_big_quiet_skip
       try simp only[aP,aA,aZ,aS]
       refine tkR 115 (.bool false) ?_;refine tkR 116 (.bool false) ?_;refine tkP 15 ?_;refine wpQuiet_nil ?_;intro wz hH;replace HK5:=Hd (HK5.o.trans hH kk2);clear hH;go_wp2;go_roundw
       case rel=>exact⟨k+1,by omega,by go_num,by rw[decide_eq_false (show ¬ j0<k+1 by have:=HJK.o;omega)],HK5.o⟩
       case measure=>simp[intOf];omega
     ·have hkmI:¬ (k:Int)<(mB:Int):=by omega
      have d0:decide (j0<k)=true:=decide_eq_true (by have:=HJ0.o;have:=HMB.o;omega);rw[d0];replace HK4:=Hd (HK4.o.trans HK5.o kk2);clear d0 hK5;go_wp2;go_roundw
      case rel=>exact⟨s+1,by omega,by go_num,HK4.o⟩
      case measure=>simp[intOf];omega
  ·have hsnI:¬ (s:Int)<(n3:Int):=by omega
   clear hs;cases la3 with
   | true =>
    go_wp2;go_ret;refine⟨rfl,?_⟩;have:=HK.o.trans HK4.o kk2;exact this
   | false =>
    obtain⟨hin,hrt⟩:=HRT.o rfl;have HRTE:=Hd hrt;clear hrt;obtain⟨x0,x1,x2,x3,x4,x5,x6,x7⟩:=(HB4.o).c8;go_wp2_with fail;refine(tnode_anyG F h4 h6 g n l hl H kk nd mm lo pg T L (i+1) rt3 hL hin HRTE.o _ HV4.o).mono ?_;rintro e w9 ⟨rfl,hK9⟩;have HK9:=Hd (HK.o.trans (HK4.o.trans hK9 kk2) kk2);clear hK9;go_wp2;go_ret;refine⟨rfl,?_⟩;have:=HK9.o;exact this

end
end Go.Proofs.YtlkgmnjceghpiaaGreat
