/-
 A View's chains of such a tree: no versions. Condition: a fanout of four to six.
-/
import Derived.Test.YtlkgmnjceghpiaaGreatTgSndA
import Derived.Test.YtlkgmnjceghpiaaGreatLkSndA
namespace Go.Proofs.YtlkgmnjceghpiaaGreat
open Go.RowKit Go.Deep Plain
set_option linter.unusedSectionVars false
set_option linter.unusedVariables false
open _root_.Go.Proofs.Tryz
open Go.Value (int)
set_option maxHeartbeats 8000000
set_option maxRecDepth 100000
section
variable [Cf]

theorem vchains_anyG(F:Nat)(h4:4<=F)(h6:F<=6)(g n:Nat)(l:List Cel)(hl:l.length=n)(H:Nat)(kk:Nat)(nd:Nat->Nat->Nat)(mm:Nat->Nat)(lo:Nat->Nat->ByteArray)(pg:Nat->Nat->Pg)(T:TrG F l H kk nd mm lo pg)(h0:0<H)(ks:List ByteArray)(r:Nat->Nat)(off:Nat->Nat)(hlv:LeavesG ks r (mm 0) (lo 0) (pg 0) off)(hk40:ks.length<=Cf.C)(hr:Rest F ks.length l)(hrf:RefsG r ks.length)(w:World)(hv:Blk w g 59 (flat3 l)) :
  Calls prog 50 #[.agg #[int .i64 1,int .i64 2,int .i64 Cf.N,int .i64 Cf.C,int .i64 Cf.R,int .i64 F,int .u64 Cf.K,.slice (some ⟨g,0,none⟩) n n]] w λ e w'=>e=.returned (.bool true)/\Kept (λ_=>False) w w':=by
 have hCN2:=Cf.n2;have hCC2:=Cf.c2;have HRE0:=Hd hr;have HRB0:=Hd hrf;clear hr hrf;have HV0:=Hd hv;clear hv;go_enter func50,ntmps50;go_wp2_with fail;have hal:=(Kept.refl (λ_=>False) w).alloc (.cells #[int .i64 1,int .i64 2,int .i64 Cf.N,int .i64 Cf.C,int .i64 Cf.R,int .i64 F,int .u64 Cf.K,.slice (some ⟨g,0,none⟩) n n] 36);have HB:=Hd (Blk.new w [int .i64 1,int .i64 2,int .i64 Cf.N,int .i64 Cf.C,int .i64 Cf.R,int .i64 F,int .u64 Cf.K,.slice (some ⟨g,0,none⟩) n n] 36);have HV:=Hd (hal.blk HV0.o id);have HK:=Hd hal;clear hal;generalize w.alloc (.cells #[int .i64 1,int .i64 2,int .i64 Cf.N,int .i64 Cf.C,int .i64 Cf.R,int .i64 F,int .u64 Cf.K,.slice (some ⟨g,0,none⟩) n n] 36)=W at *;generalize hr0:w.heap.size=r0 at *;have HR0:=Hd hr0;clear hr0;obtain⟨x0,x1,x2,x3,x4,x5,x6,x7⟩:=(HB.o).c8;refine(vrefs_anyG F h4 h6 g n l hl H kk nd mm lo pg T h0 ks r off hlv hk40 _ HV.o).mono ?_;rintro e Z ⟨AR,cR,rfl,hWr,hK9⟩;obtain⟨nk,hnk⟩:∃ nk,ks.length=nk:=⟨_,rfl⟩;rw[hnk] at hWr hk40;rw[hnk];have HRE:=Hd (show Rest F nk l from by rw[←hnk];exact HRE0.o);have HRB:=Hd (show RefsG r nk from by rw[←hnk];exact HRB0.o);have HC5:=Hd (show cellAt l 5=((nk:Int),(⟨#[]⟩:ByteArray),(0:Int)) from HRE.o.2);have HBz:=Hd (hK9.blk HB.o id);have HVz:=Hd (hK9.blk HV.o id);have HKz:=Hd (HK.o.trans hK9 kk2);have HWR:=Hd hWr;clear hWr hK9 HB HV HK hnk HRE0 HRB0 x0 x1 x2 x3 x4 x5 x6 x7;go_wp2_with fail;go_loopw [4] (λ iv wr=>∃ i:Nat,i<=nk/\iv=int .i64 i/\Kept (λ_=>False) Z wr) (λ iv _=>nk-(intOf iv).toNat)
 case atStart=>exact⟨0,Nat.zero_le _,rfl,Kept.refl _ _⟩
 case round =>
  rename World=>V3;obtain⟨i,hi,rfl,hKr⟩:=hrel;have HKr:=Hd hKr;have HBr:=Hd (hKr.blk HBz.o id);have HVr:=Hd (hKr.blk HVz.o id);clear hKr
  by_cases hin:i<nk
  ·have hinI:(i:Int)<(nk:Int):=by omega
   obtain⟨gR,oR,rfl,hgR, -,hcR⟩:=HWR.o (by rw[rfsG_len];omega);obtain⟨i1,hi1⟩:∃ i1,r i=i1:=⟨_,rfl⟩;have hi1b:1<=i1/\i1<=nk:=by rw[←hi1];exact HRB.o.1 i hin
   have hci:=hcR i i1 (by rw[←hi1];exact rfsG_at hin);have HCR:=Hd hcR;have HC0:=Hd ((HKr.o.cell (p:=⟨gR,oR+i,none⟩) hgR id).trans hci);have hgRr:gR<V3.heap.size:=Nat.lt_of_lt_of_le hgR HKr.o.size;obtain⟨a,ha⟩:∃ a,chainAt Cf.C (firstChain 1 2 Cf.N (F:Int)) (i1:Int)=a:=⟨_,rfl⟩;have ha0:¬ a<0:=by rw[←ha];unfold chainAt firstChain firstNode;rw[if_pos (by omega)];have:=(limF (F:=F) h4 h6).nf;omega
   have HCH:=Hd (show ∀ W,Calls prog 101 #[.agg #[int .i64 1,int .i64 2,int .i64 Cf.N,int .i64 Cf.C,int .i64 Cf.R,int .i64 F,int .u64 Cf.K],int .u64 i1] W λ e w'=>e=.returned (int .i64 a)/\Kept (λ_=>False) W w' from λ W=>by
    have h:=refChain_any 1 2 Cf.N Cf.C Cf.R (F:Int) Cf.K (i1:Int) (limF h4 h6) (by omega) W;rw[ha] at h;exact h)
   have f5:=field0 (nk:Int) 0 ⟨#[]⟩;have hik:¬ (nk:Int)<(i1:Int):=by omega
   clear hcR hci ha;go_upto_region 5 with fail
   refine qregion (λ w'=>Kept (λ_=>False) V3 w') (by kernel_rfl) (by kernel_rfl) (Kept.refl _ _).drew ?_;refine tkP 16 ?_;refine tkP 17 ?_ (by intro wq hSw;have y0:=(hSw.blk HBr.o id).c8;have c0:=(hSw.cell (p:=⟨gR,oR+i,none⟩) hgRr id).trans HC0.o;exact qq1);refine tkP 18 ?_;refine tkP 19 ?_;refine tkP 20 ?_;refine tkP 21 ?_ (by intro wq hSw;have y0:=(hSw.blk HBr.o id).c8;have c0:=(hSw.cell (p:=⟨gR,oR+i,none⟩) hgRr id).trans HC0.o;exact qq1);refine qcall (o:=⟨some 22,_,_,_,_,_⟩) (v:=int .i64 a) (by rfl) (λ wq hSw=>?_) (λ wq hSw=>Calls.mono (HCH.o _) ?_) ?_
   ·(go_simp;try with_reducible rfl)
   ·rintro e w9 ⟨rfl,hk⟩;exact⟨rfl,hSw.trans hk kk2⟩
   try simp only[aP,aA,aZ,aS]
   refine tkR 23 (.bool false) ?_;refine tkR 24 (.bool false) ?_;refine tkP 25 ?_;refine tkP 26 ?_;refine tkP 27 ?_;refine tkP 28 ?_ (by intro wq hSw;have y0:=(hSw.blk HBr.o id).c8;have c0:=(hSw.cell (p:=⟨gR,oR+i,none⟩) hgRr id).trans HC0.o;exact qq1);refine tkP 29 ?_ (by intro wq hSw;have y0:=(hSw.blk HBr.o id).c8;have c0:=(hSw.cell (p:=⟨gR,oR+i,none⟩) hgRr id).trans HC0.o;exact qq1);refine qcall (o:=⟨some 30,_,_,_,_,_⟩) (v:=.agg #[int .u64 nk,.string ⟨#[]⟩,int .u64 0]) (by rfl) (λ wq hSw=>?_) (λ wq hSw=>Calls.mono (vat_any F h4 h6 g n l hl 5 (nk:Int) 0 ⟨#[]⟩ _ (hSw.blk HVr.o id) HC5.o) ?_) ?_
   ·(go_simp;try with_reducible rfl)
   ·rintro e w9 ⟨rfl,hk⟩;exact⟨rfl,hSw.trans hk kk2⟩
   try simp only[aP,aA,aZ,aS]
   refine tkP 31 ?_;refine tkR 32 (.bool false) ?_;refine tkR 33 (.bool false) ?_;refine wpQuiet_nil ?_;intro wz hH;have HK3:=Hd (HKr.o.trans hH kk2);clear hH HBr HVr HC0 f5 HCH;rename World=>V4;go_wp2_with fail;go_loopw [5] (λ jv wr=>∃ j:Nat,j<=i/\jv=int .i64 j/\Kept (λ_=>False) V4 wr) (λ jv _=>i-(intOf jv).toNat)
   case atStart=>exact⟨0,Nat.zero_le _,rfl,Kept.refl _ _⟩
   case round =>
    rename World=>V5;obtain⟨j,hj,rfl,hK5⟩:=hrel;have HK5:=Hd hK5;have HK6:=Hd (HK3.o.trans hK5 kk2);have HB5:=Hd (HK6.o.blk HBz.o id);have HV5:=Hd (HK6.o.blk HVz.o id);have hgR5:gR<V5.heap.size:=Nat.lt_of_lt_of_le hgR HK6.o.size;have HD1:=Hd ((HK6.o.cell (p:=⟨gR,oR+i,none⟩) hgR id).trans (HCR.o i i1 (by rw[←hi1];exact rfsG_at hin)));clear hK5
    by_cases hji:j<i
    ·have hjiI:(j:Int)<(i:Int):=by omega
     have hjn:(j:Int)<(nk:Int):=by omega
     obtain⟨j1,hj1⟩:∃ j1,r j=j1:=⟨_,rfl⟩;have HD0:=Hd ((HK6.o.cell (p:=⟨gR,oR+j,none⟩) hgR id).trans (HCR.o j j1 (by rw[←hj1];exact rfsG_at (by omega))));have hne:((j1:Int)==(i1:Int))=false:=beq_false_of_ne (λ e=>by have e2:j1=i1:=(by omega);have:=HRB.o.2 j i (by omega) hin (by rw[hj1,hi1];exact e2);omega);have HJ1:=Hd hj1;clear hj1;go_upto_region 10 with fail
     refine qregion (λ w'=>Kept (λ_=>False) V5 w') (by kernel_rfl) (by kernel_rfl) (Kept.refl _ _).drew ?_;refine tkP 39 ?_;refine tkP 40 ?_;refine tkP 41 ?_;refine tkP 42 ?_ (by intro wq hSw;have c0:=(hSw.cell (p:=⟨gR,oR+j,none⟩) hgR5 id).trans HD0.o;have c1:=(hSw.cell (p:=⟨gR,oR+i,none⟩) hgR5 id).trans HD1.o;exact qq1);refine tkP 43 ?_;refine tkP 44 ?_;refine tkP 45 ?_;refine tkP 46 ?_ (by intro wq hSw;have c0:=(hSw.cell (p:=⟨gR,oR+j,none⟩) hgR5 id).trans HD0.o;have c1:=(hSw.cell (p:=⟨gR,oR+i,none⟩) hgR5 id).trans HD1.o;exact qq1);refine tkR 47 (.bool false) ?_;refine wpQuiet_nil ?_;intro wz hH;replace HK5:=Hd (HK5.o.trans hH kk2);clear hH;go_wp2;go_roundw
     case rel=>exact⟨j+1,by omega,by go_num,HK5.o⟩
     case measure=>simp[intOf];omega
    ·have hjiI:¬ (j:Int)<(i:Int):=by omega
     go_upto_region 12 with fail
     refine qregion (λ w'=>Kept (λ_=>False) V5 w') (by kernel_rfl) (by kernel_rfl) (Kept.refl _ _).drew ?_;refine tkP 48 ?_ (by intro wq hSw;have y0:=(hSw.blk HB5.o id).c8;have c1:=(hSw.cell (p:=⟨gR,oR+i,none⟩) hgR5 id).trans HD1.o;exact qq1);refine tkP 49 ?_;refine tkP 50 ?_;refine tkP 51 ?_;refine tkP 52 ?_ (by intro wq hSw;have y0:=(hSw.blk HB5.o id).c8;have c1:=(hSw.cell (p:=⟨gR,oR+i,none⟩) hgR5 id).trans HD1.o;exact qq1);refine qcall (o:=⟨some 53,_,_,_,_,_⟩) (v:=.slice none 0 0) (by rfl) (λ wq hSw=>?_) (λ wq hSw=>Calls.mono (vchain_zero F h4 h6 g n l hl nk i1 HRE.o (by omega) (by omega) _ (hSw.blk HV5.o id)) ?_) ?_
     ·(go_simp;try with_reducible rfl)
     ·rintro e w9 ⟨rfl,hk⟩;exact⟨rfl,hSw.trans hk kk2⟩
     try simp only[aP,aA,aZ,aS]
     refine tkP 6 ?_;refine wpQuiet_nil ?_;intro wz hH;have HK7:=Hd (HK6.o.trans hH kk2);clear hH;rename World=>V6;go_wp2_with fail;refine(refCheck9_nil _).mono ?_;rintro e w9 ⟨rfl,rfl⟩;go_wp2_with fail;go_loopw [7] (λ kv wr=>kv=int .i64 0/\wr=V6) (λ_ _=>0)
     case atStart=>exact⟨rfl,rfl⟩
     case round =>
      obtain⟨rfl,rfl⟩:=hrel;go_wp2;go_roundw
      case rel=>exact⟨i+1,by omega,by go_num,HK7.o⟩
      case measure=>simp[intOf];omega
  ·have hinI:¬ (i:Int)<(nk:Int):=by omega
   go_wp2;go_ret;refine⟨rfl,?_⟩;have:=HKz.o.trans HKr.o kk2;exact this

end
end Go.Proofs.YtlkgmnjceghpiaaGreat
