/-
 A View's Sound of such a tree. Condition: a fanout of four to six.
-/
import Derived.Test.YtlkgmnjceghpiaaGreatTgSndB
import Derived.Test.YtlkgmnjceghpiaaGreatTgSndC
import Derived.Test.YtlkgmnjceghpiaaGreatLkSndD
namespace Go.Proofs.YtlkgmnjceghpiaaGreat
open Go.RowKit Go.Deep Plain
set_option linter.unusedSectionVars false
set_option linter.unusedVariables false
open _root_.Go.Proofs.Tryz
open Go.Value (int)
set_option maxHeartbeats 8000000
set_option maxRecDepth 100000
section
variable [Cf]

theorem vsound_allG(F:Nat)(h4:4<=F)(h6:F<=6)(g n:Nat)(l:List Cel)(hl:l.length=n)(H:Nat)(kk:Nat)(nd:Nat->Nat->Nat)(mm:Nat->Nat)(lo:Nat->Nat->ByteArray)(pg:Nat->Nat->Pg)(T:TrG F l H kk nd mm lo pg)(ks:List ByteArray)(r:Nat->Nat)(off:Nat->Nat)(hlv:LeavesG ks r (mm 0) (lo 0) (pg 0) off)(hrf:RefsG r ks.length)(hz:∀ L',L'<H->∀ i,i<mm L'->∃ wd:Nat,wd%4=0/\cellAt l (nla F (nd L' i))=((wd:Int),(⟨#[]⟩:ByteArray),(0:Int)))(hhi:∀ L',L'<H->∀ i,i<mm L'->∀ x∈(pg L' i).xs,cov (pg L' i) x.1=true)(hr:Rest F ks.length l)(hk40:ks.length<=Cf.C)(w:World)(hv:Blk w g 59 (flat3 l)) :
  Calls prog 18 #[.agg #[int .i64 1,int .i64 2,int .i64 Cf.N,int .i64 Cf.C,int .i64 Cf.R,int .i64 F,int .u64 Cf.K,.slice (some ⟨g,0,none⟩) n n]] w λ e w'=>e=.returned (.bool true)/\Kept (λ_=>False) w w':=by
 have HZ:=Hd hz;have HHI:=Hd hhi;have HLV:=Hd hlv;have HRE:=Hd hr;have HRF:=Hd hrf;have hH1:=T.H1;have hH100:=T.H100;have hCN2:=Cf.n2;have hCC2:=Cf.c2;have h0:0<H:=by omega
 obtain⟨top,htop⟩:∃ top,nd (H-1) 0=top:=⟨_,rfl⟩;have HRT:=Hd (show cellAt l 0=((top:Int),(⟨#[]⟩:ByteArray),(0:Int)) from by rw[←htop];exact T.root);have HTOT:=Hd (show cellAt l 4=((kk:Int),(⟨#[]⟩:ByteArray),(0:Int)) from T.tot);have htk:top<=kk/\kk<=Cf.N:=by rw[←htop];have:=T.all (L:=H-1) (i:=0) (by omega) (by have:=T.one;omega);omega
 have htb:1<=top/\top<=Cf.N:=by rw[←htop];have:=T.all (L:=H-1) (i:=0) (by omega) (by have:=T.one;omega);omega
 have HTOP:=Hd htop;clear hz hhi hlv hr hrf htop;obtain⟨i0,hi0,hz0,hz1,hz2⟩:=info_parts infoStr;have HI0:=Hd hi0;have HI1:=Hd hz0;have HI2:=Hd hz1;have HI3:=Hd hz2;clear hi0 hz0 hz1 hz2;have HV0:=Hd hv;clear hv;go_enter func18,ntmps18;go_upto_region 1 with fail
 have hal:=(Kept.refl (λ_=>False) w).alloc (.cells #[int .i64 1,int .i64 2,int .i64 Cf.N,int .i64 Cf.C,int .i64 Cf.R,int .i64 F,int .u64 Cf.K,.slice (some ⟨g,0,none⟩) n n] 36);have HB:=Hd (Blk.new w [int .i64 1,int .i64 2,int .i64 Cf.N,int .i64 Cf.C,int .i64 Cf.R,int .i64 F,int .u64 Cf.K,.slice (some ⟨g,0,none⟩) n n] 36);have HV:=Hd (hal.blk HV0.o id);have HK:=Hd hal;clear hal;generalize w.alloc (.cells #[int .i64 1,int .i64 2,int .i64 Cf.N,int .i64 Cf.C,int .i64 Cf.R,int .i64 F,int .u64 Cf.K,.slice (some ⟨g,0,none⟩) n n] 36)=W at *;generalize hr0:w.heap.size=r0 at *;have HR0:=Hd hr0;clear hr0;have f0:=field0 (top:Int) 0 ⟨#[]⟩;refine qregion (λ w'=>Kept (λ_=>False) W w') (by kernel_rfl) (by kernel_rfl) (Kept.refl _ _).drew ?_;refine tkP 10 ?_ (by intro wq hSw;have y0:=(hSw.blk HB.o id).c8;exact qq1);refine tkP 11 ?_ (by intro wq hSw;have y0:=(hSw.blk HB.o id).c8;exact qq1);refine qcall (o:=⟨some 12,_,_,_,_,_⟩) (v:=.agg #[int .u64 top,.string ⟨#[]⟩,int .u64 0]) (by rfl) (λ wq hSw=>?_) (λ wq hSw=>Calls.mono (vat_any F h4 h6 g n l hl 0 (top:Int) 0 ⟨#[]⟩ _ (hSw.blk HV.o id) HRT.o) ?_) ?_
 ·(go_simp;try with_reducible rfl)
 ·rintro e w9 ⟨rfl,hk⟩;exact⟨rfl,hSw.trans hk kk2⟩
 try simp only[aP,aA,aZ,aS]
 refine tkP 13 ?_;refine qcall (o:=⟨some 14,_,_,_,_,_⟩) (v:=.bool true) (by rfl) (λ wq hSw=>?_) (λ wq hSw=>Calls.mono (vnode_in F h4 h6 g n l hl top kk 0 ⟨#[]⟩ (by omega) (by omega) htk.1 _ (hSw.blk HV.o id) HTOT.o) ?_) ?_
 ·(go_simp;try with_reducible rfl)
 ·rintro e w9 ⟨rfl,hk⟩;exact⟨rfl,hSw.trans hk kk2⟩
 try simp only[aP,aA,aZ,aS]
 refine tkR 15 (.bool false) ?_;refine tkR 16 (.bool false) ?_;refine tkP 17 ?_ (by intro wq hSw;have y0:=(hSw.blk HB.o id).c8;exact qq1);refine qcall (o:=⟨some 18,_,_,_,_,_⟩) (v:=.bool true) (by rfl) (λ wq hSw=>?_) (λ wq hSw=>Calls.mono (vcounters_any F h4 h6 g n l hl kk ks.length HTOT.o htk.2 HRE.o hk40 _ (hSw.blk HV.o id)) ?_) ?_
 ·(go_simp;try with_reducible rfl)
 ·rintro e w9 ⟨rfl,hk⟩;exact⟨rfl,hSw.trans hk kk2⟩
 try simp only[aP,aA,aZ,aS]
 refine tkR 19 (.bool false) ?_;refine tkR 20 (.bool false) ?_;refine tkR 21 (.bool false) ?_;refine tkP 22 ?_ (by intro wq hSw;have y0:=(hSw.blk HB.o id).c8;exact qq1);refine qcall (o:=⟨some 23,_,_,_,_,_⟩) (v:=.bool true) (by rfl) (λ wq hSw=>?_) (λ wq hSw=>Calls.mono (vchains_anyG F h4 h6 g n l hl H kk nd mm lo pg T h0 ks r off HLV.o hk40 HRE.o HRF.o _ (hSw.blk HV.o id)) ?_) ?_
 ·(go_simp;try with_reducible rfl)
 ·rintro e w9 ⟨rfl,hk⟩;exact⟨rfl,hSw.trans hk kk2⟩
 try simp only[aP,aA,aZ,aS]
 refine tkR 24 (.bool false) ?_;refine tkR 25 (.bool false) ?_;refine wpQuiet_nil ?_;intro wz hH;have HB1:=Hd (hH.blk HB.o id);have HV1:=Hd (hH.blk HV.o id);have HK:=Hd (HK.o.trans hH kk2);clear hH HB HV f0;rename World=>V1;go_wp2_with fail;go_loopw [3,4,5] (λ bv wv lvv wr=>∃ lv:Nat,lv<=H/\lvv=int .i64 lv/\((lv=0/\bv=.slice none 0 0/\wv=.slice none 0 0/\Kept (λ_=>False) V1 wr)\/∃(L1 mB gB oB cB gW oW cW:Nat),lv=L1+1/\mm L1=mB/\bv=.slice (some ⟨gB,oB,none⟩) mB cB/\wv=.slice (some ⟨gW,oW,none⟩) mB cW/\gB<wr.heap.size/\(∀ k,k<mB->wr.cell? ⟨gB,oB+k,none⟩=some (int .u64 ((nd L1 k:Nat):Int)))/\gW<wr.heap.size/\(∀ k,k<mB->wr.cell? ⟨gW,oW+k,none⟩=some (.string (lo L1 k)))/\Kept (λ_=>False) V1 wr)) (λ_ _ lvv _=>H-(intOf lvv).toNat)
 case atStart=>exact⟨0,Nat.zero_le _,rfl,.inl ⟨rfl,rfl,rfl,Kept.refl _ _⟩⟩
 case round =>
  rename World=>V2;obtain⟨lv,hlvH,rfl,hrel⟩:=hrel;have hH:((pg (H-1) 0).lv:Int)+1=(H:Int):=by have:=(T.lev (H-1) (by omega)).lv 0 (by have:=T.one;omega);omega
  have hnd0:=(T.lev (H-1) (by omega)).nd 0 (by have:=T.one;omega);have HND:=Hd (show Nd F l top (pg (H-1) 0) from by rw[←HTOP.o];exact hnd0);have hKV:Kept (λ_=>False) V1 V2:=by
   rcases hrel with⟨-, -, -,h⟩|⟨_,_,_,_,_,_,_,_, -, -, -, -, -, -, -, -,h⟩
   ·exact h
   ·exact h
  have HREL:=Hd hrel;have hbox:=hKV.blk HB1.o id;obtain⟨x0,x1,x2,x3,x4,x5,x6,x7⟩:=hbox.c8;have HBr:=Hd hbox;have HVr:=Hd (hKV.blk HV1.o id);have HHG:=Hd (show Calls prog 51 #[.agg #[int .i64 1,int .i64 2,int .i64 Cf.N,int .i64 Cf.C,int .i64 Cf.R,int .i64 F,int .u64 Cf.K,.slice (some ⟨g,0,none⟩) n n]] V2 λ e w'=>e=.returned (int .i64 H)/\Kept (λ_=>False) V2 w' from by
   have:=height_any F h4 h6 g n l hl top 0 ⟨#[]⟩ htb.1 htb.2 (pg (H-1) 0) HND.o.holds HND.o.wf HND.o.len (by omega) V2 HVr.o HRT.o;rw[hH] at this;exact this)
  have HKV:=Hd hKV;clear hrel hbox hKV hnd0 hH
  by_cases hlv:lv<H
  ·have hlvI:(lv:Int)<(H:Int):=by omega
   have hmp:=(T.lev lv hlv).pos;have hmt:=(T.lev lv hlv).top;go_wp2_with fail;refine HHG.o.mono ?_;rintro e w2 ⟨rfl,hK2⟩;have HK1:=Hd hK2;replace HBr:=Hd (hK2.blk HBr.o id);replace HVr:=Hd (hK2.blk HVr.o id);clear hK2 x0 x1 x2 x3 x4 x5 x6 x7 HHG;obtain⟨x0,x1,x2,x3,x4,x5,x6,x7⟩:=(HBr.o).c8;go_wp2_with fail;refine(vlevel_inG F h4 h6 g n l hl H kk nd mm lo pg T lv hlv _ HVr.o).mono ?_;rintro e V3 ⟨AL,cL,rfl,hAL,hK9⟩;obtain⟨gL,oL,rfl,hgL, -,hcL⟩:=hAL (by omega);replace HBr:=Hd (hK9.blk HBr.o id);replace HVr:=Hd (hK9.blk HVr.o id);have HK2:=Hd (HK1.o.trans hK9 kk2);clear hK9 hAL HK1 x0 x1 x2 x3 x4 x5 x6 x7;replace HK:=Hd (HK.o.trans HKV.o kk2);rcases HREL.o with⟨hl0,rfl,rfl, -⟩|⟨L1,mB,gB,oB,cB,gW,oW,cW,hle,hmB,rfl,rfl,hgB,hbc,hgW,hwc, -⟩
   ·clear HREL
    have HL0:=Hd hl0;clear hl0;have HIL:=Hd (show mm lv-1<mm lv by omega);obtain⟨m1,hm1⟩:∃ m1,mm lv-1=m1:=⟨_,rfl⟩;obtain⟨nid0,hnid0⟩:∃ nid0,nd lv (mm lv-1)=nid0:=⟨_,rfl⟩;obtain⟨hi3,hhi3⟩:∃ x,(pg lv (mm lv-1)).hi=x:=⟨_,rfl⟩;have hla0:(pg lv (mm lv-1)).la=true:=((T.lev lv hlv).last (mm lv-1) (by omega)).1;obtain⟨la3,hla3⟩:∃ x,(pg lv (mm lv-1)).la=x:=⟨_,rfl⟩;have hl3:la3=true:=by rw[←hla3];exact hla0
    have HHI3:=Hd hhi3;have HLA3:=Hd hla3;have HNI:=Hd hnid0;have HPAGE:=Hd (show ∀ W',Kept (λ_=>False) V3 W'->Calls prog 38 #[.agg #[int .i64 1,int .i64 2,int .i64 Cf.N,int .i64 Cf.C,int .i64 Cf.R,int .i64 F,int .u64 Cf.K,.slice (some ⟨g,0,none⟩) n n],int .u64 nid0] W' λ e w'=>∃(A:Option Addr) (c n3 rt3:Nat),e=.returned (.agg #[int .i64 lv,.slice A n3 c,.string hi3,.bool la3,int .u64 rt3])/\Kept (λ_=>False) W' w' from λ W' hW=>by
     refine(tpage_anyG F h4 h6 g n l hl H kk nd mm lo pg T lv (mm lv-1) nid0 hlv HIL.o HNI.o.symm lv rfl W' (hW.blk HVr.o id)).mono ?_;rintro e w' ⟨A,c,rfl, -, -,hk⟩;rw[HHI3.o,HLA3.o];exact⟨A,c,_,_,rfl,hk⟩)
    obtain⟨m,hm⟩:∃ m,mm lv=m:=⟨_,rfl⟩;rw[hm] at hcL hmp hmt;rw[hm];have HMM:=Hd hm;have HCLA:=Hd (show ∀ i,i<m->V3.cell? ⟨gL,oL+i,none⟩=some (int .u64 ((nd lv i:Nat):Int)) from λ i hi=>hcL i _ (idsG_at hi));have hcl1:=HCLA.o m1 (by rw[←hm1,hm];omega);have hnid1:nd lv m1=nid0:=by rw[←hm1];exact hnid0
    rw[hnid1] at hcl1;have HCL:=Hd hcl1;have hgLr:gL<V3.heap.size:=hgL;have hm1I:(m1:Int)=(m:Int)-1:=by rw[←hm1,hm];omega
    have hm1a:IntKind.i64.wrap ((m:Int)-1)=(m1:Int):=by rw[IntKind.wrap_i64];omega
    have hm1b:(m1:Int)<(m:Int):=by omega
    have hm0:((m:Int)==0)=false:=by simp;omega
    subst hl3;have HM1:=Hd hm1I;clear hcL hcl1 hnid0 hnid1 hhi3 hla0 hla3 hm hm1 hm1I;go_upto_region 9 with fail
    refine wp_region_held_drew (S:=(λ w'=>Kept (λ_=>False) V3 w')) (by kernel_rfl) ?_ (λ hH=>?_)
    ·exact(Kept.refl _ _).drew
    have HW:=Hd ((Kept.refl (λ_=>False) V3).drew);generalize V3.drew=G at *;refine tkI 0 35 hH ?_;refine tkI 1 36 hH ?_;refine tkJ 2 37 (.bool false) rfl hH ?_;refine tkJ 3 38 (.bool false) rfl hH ?_;refine tkI 4 39 hH ?_ (hv:=by intro wq hSw;have y0:=(hSw.blk HBr.o id).c8;have hc9:=(hSw.cell (p:=⟨gL,oL+m1,none⟩) hgLr id).trans HCL.o;exact qq1);refine tkI 5 40 hH ?_;refine tkI 6 41 hH ?_;refine tkI 7 42 hH ?_;refine tkJ 8 43 (int .i64 m1) rfl hH ?_;refine tkI 9 44 hH ?_;refine tkI 10 45 hH ?_ (hv:=by intro wq hSw;have y0:=(hSw.blk HBr.o id).c8;have hc9:=(hSw.cell (p:=⟨gL,oL+m1,none⟩) hgLr id).trans HCL.o;exact qq1);refine rdH 11 (some 46) rfl λ KK hK=>?_;go_simp;go_at_call 38;refine(HPAGE.o _ HW.o).mono ?_;rintro e G ⟨A3,c3,n3,rt3,rfl,hK3⟩;replace HW:=Hd (HW.o.trans hK3 kk2);have hpf:=pfield3 (lv:Int) A3 n3 c3 hi3 true (rt3:Int);clear hK3;refine hkO hK HW.o λ h2=>?_;replace hH:=h2;clear hK KK h2
    refine tkJ 12 47 (.bool true) rfl hH ?_;refine tkJ 13 48 (.bool false) rfl hH ?_;refine tkJ 14 49 (.bool false) rfl hH ?_;refine dnH ?_;clear hH;replace HBr:=Hd (HW.o.blk HBr.o id);replace HVr:=Hd (HW.o.blk HVr.o id);have HKa:=Hd (HK2.o.trans HW.o kk2);have HKl:=Hd HW.o;clear HW HPAGE HCL hm1a hm1b hm0 HK2;rename World=>V4;go_wp2_with fail;go_loopw [7,8,9] (λ ov lv8 iv wr=>∃(i:Nat) (lw:ByteArray),i<=m/\iv=int .i64 i/\lv8=.string lw/\(i<m->lw=lo lv i)/\slLen ov=i/\wr.ownsRow V4.heap.size 9 1 ov i (strv (lows0 (lo lv) i))/\Below V4.heap.size V4 wr) (λ_ _ iv _=>m-(intOf iv).toNat)
    case atStart=>exact⟨0,⟨#[]⟩,Nat.zero_le _,rfl,rfl,λ_=>(T.lev lv hlv).low0.symm,rfl,World.ownsRow_nil _ _ _ _,Below.refl _ _⟩
    case round =>
     rename World=>V5;obtain⟨i,lw,hi1,rfl,rfl,hlw,hsl,hO,hBl⟩:=hrel;have HO:=Hd hO;have HBl:=Hd hBl;have hz5:=hBl.size;obtain⟨A0,c0,rfl⟩:=strs_slice hO;have hK45:=Below.kept hBl (S:=λ_=>False) (λ i hi h=>by omega);have HB5:=Hd (hK45.blk HBr.o id);have HV5:=Hd (hK45.blk HVr.o id);have HK5w:=Hd (HKa.o.trans hK45 kk2);have hgL4:gL<V4.heap.size:=Nat.lt_of_lt_of_le hgL HKl.o.size;clear hO hBl hsl
     by_cases him1:i<m
     ·have him:i<mm lv:=by rw[HMM.o];exact him1
      have himI:(i:Int)<(m:Int):=by omega
      obtain⟨nid,hnid⟩:∃ nid,nd lv i=nid:=⟨_,rfl⟩;have hlwe:=hlw him1;have hcl:=HCLA.o i him1;rw[hnid] at hcl;have HCLb:=Hd ((HKl.o.cell (p:=⟨gL,oL+i,none⟩) hgL id).trans hcl);have HCL5:=Hd ((hK45.cell (p:=⟨gL,oL+i,none⟩) hgL4 id).trans HCLb.o);have hgL5:gL<V5.heap.size:=by omega
      have HNI:=Hd hnid;subst hlwe;obtain⟨lw,hlwq⟩:∃ lw,lo lv i=lw:=⟨_,rfl⟩;have HLWQ:=Hd hlwq;clear hK45 hcl hnid hlw hlwq;go_upto_region 16 with fail
      refine qregion (λ w'=>Kept (λ_=>False) V5 w') (by kernel_rfl) (by kernel_rfl) (Kept.refl _ _).drew ?_;refine tkP 56 ?_ (by intro wq hSw;have y0:=(hSw.blk HB5.o id).c8;have hc9:=(hSw.cell (p:=⟨gL,oL+i,none⟩) hgL5 id).trans HCL5.o;exact qq1);refine tkP 57 ?_;refine tkP 58 ?_;refine tkP 59 ?_;refine tkP 60 ?_ (by intro wq hSw;have y0:=(hSw.blk HB5.o id).c8;have hc9:=(hSw.cell (p:=⟨gL,oL+i,none⟩) hgL5 id).trans HCL5.o;exact qq1);refine tkP 61 ?_;refine tkP 62 ?_;refine tkP 63 ?_;refine tkP 64 ?_;refine qcall (o:=⟨some 65,_,_,_,_,_⟩) (v:=.bool true) (by rfl) (λ wq hSw=>?_) (λ wq hSw=>Calls.mono (vsound_zeroG F h4 h6 g n l hl H kk nd mm lo pg T lv HL0.o hlv ks r off HLV.o HRF.o HZ.o HHI.o i nid him HNI.o.symm _ (hSw.blk HV5.o id)) ?_) ?_
      ·(go_simp;try with_reducible rfl)
      ·rintro e w9 ⟨rfl,hk⟩;exact⟨rfl,hSw.trans hk kk2⟩
      try simp only[aP,aA,aZ,aS]
      refine tkR 66 (.bool false) ?_;refine wpQuiet_nil ?_;intro wz hH;have hB56:=(hH.below (Nat.le_refl _) (λ_ h=>h.elim)).mono hz5;replace HBl:=Hd (HBl.o.trans hB56);replace HO:=Hd (own_kept HO.o hH kk2);have HB6:=Hd (hH.blk HB5.o id);have HV6:=Hd (hH.blk HV5.o id);have hz6:V4.heap.size<=wz.heap.size:=Nat.le_trans hz5 hH.size;clear hH hB56 HB5 HV5 HCL5 HK5w;have hown:=HO.o;go_wp2_with (at_builtin;go_must (refine wpList_append_own _ rfl (.tmp 67) (.tmp 69) 22 rfl V4.heap.size 9 i0 _ 1 16 Tryz.underlying22 HI0.o HI1.o HI2.o HI3.o rfl (by decide) _ _ _ rfl (hown.alloc _) ⟨wz.heap.size,0,none⟩ 1 1 [.string (lo lv i)] rfl rfl ?a1 ?b1 ?c1 ?d1 ?e1 ?_))
      try case a1 =>
       intro q' u hu
       match q',hu with
       | 0,hu=>simp at hu;subst hu;simp[Addr.add]
       | q'+1,hu=>simp at hu
      case b1=>first|exact rfl|(intro u hu;simp at hu;subst hu;rfl)
      case c1=>unfold maxLen;omega
      case d1=>omega
      case e1=>first|omega|(simp;omega)
      intro v1 V7 hown1 hgr1 _;have hal:=(Below.refl wz.heap.size wz).alloc (Nat.le_refl _) (.cells #[.string (lo lv i)] 9);have hBe:=Below.grown (hal.mono hz6) hgr1 (by rw[nblk_alloc];omega) λ q hq=>(hown.lt q hq).1;have HBl7:=Hd (HBl.o.trans hBe);have hO1:V7.ownsRow V4.heap.size 9 1 v1 (i+1) (strv (lows0 (lo lv) (i+1))):=by
       rw[lows0_step];exact hown1
      have hz7:=HBl7.o.size;have hK47:=Below.kept HBl7.o (S:=λ_=>False) (λ i hi h=>by omega);have HB7:=Hd (hK47.blk HBr.o id);have HVr7:=Hd (hK47.blk HVr.o id);have HCL7:=Hd ((hK47.cell (p:=⟨gL,oL+i,none⟩) hgL4 id).trans HCLb.o);have hgL7:gL<V7.heap.size:=by omega
      have HO7:=Hd hO1;obtain⟨A7,c7,rfl⟩:=strs_slice hO1;have HSL7:=Hd (show slLen (.slice A7 (i+1) c7)=i+1 from rfl);obtain⟨hi4,hhi4⟩:∃ x,(pg lv i).hi=x:=⟨_,rfl⟩;have HHI4:=Hd hhi4;have HNX7:=Hd (show i+1<m->hi4=lo lv (i+1) from λ h=>by rw[←hhi4];exact((T.lev lv hlv).next i (by rw[HMM.o];exact h)).2.2);have HPAGE7:=Hd (show ∀ W',Kept (λ_=>False) V7 W'->Calls prog 38 #[.agg #[int .i64 1,int .i64 2,int .i64 Cf.N,int .i64 Cf.C,int .i64 Cf.R,int .i64 F,int .u64 Cf.K,.slice (some ⟨g,0,none⟩) n n],int .u64 nid] W' λ e w'=>∃(A:Option Addr) (c n3:Nat) (la4:Bool) (rt3:Nat),e=.returned (.agg #[int .i64 lv,.slice A n3 c,.string hi4,.bool la4,int .u64 rt3])/\Kept (λ_=>False) W' w' from λ W' hW=>by
       refine(tpage_anyG F h4 h6 g n l hl H kk nd mm lo pg T lv i nid hlv him HNI.o.symm lv rfl W' (hW.blk HVr7.o id)).mono ?_;rintro e w' ⟨A,c,rfl, -, -,hk⟩;rw[HHI4.o];exact⟨A,c,_,_,_,rfl,hk⟩)
      clear hown1 hgr1 hal hBe hO1 hown hz6 hK47 hhi4;go_upto_region 19 with fail
      refine wp_region_held_drew (S:=(λ w'=>Kept (λ_=>False) V7 w')) (by kernel_rfl) ?_ (λ hH=>?_)
      ·exact(Kept.refl _ _).drew
      have HW:=Hd ((Kept.refl (λ_=>False) V7).drew);generalize V7.drew=G at *;refine tkI 0 71 hH ?_ (hv:=by intro wq hSw;have y0:=(hSw.blk HB7.o id).c8;have hc9:=(hSw.cell (p:=⟨gL,oL+i,none⟩) hgL7 id).trans HCL7.o;exact qq1);refine tkI 1 72 hH ?_;refine tkI 2 73 hH ?_;refine tkI 3 74 hH ?_;refine tkI 4 75 hH ?_ (hv:=by intro wq hSw;have y0:=(hSw.blk HB7.o id).c8;have hc9:=(hSw.cell (p:=⟨gL,oL+i,none⟩) hgL7 id).trans HCL7.o;exact qq1);refine rdH 5 (some 76) rfl λ KK hK=>?_;go_simp;go_at_call 38;refine(HPAGE7.o _ HW.o).mono ?_;rintro e G ⟨A3,c3,n3,la4,rt3,rfl,hK3⟩;replace HW:=Hd (HW.o.trans hK3 kk2);have hpf:=pfield2 (lv:Int) A3 n3 c3 hi4 la4 (rt3:Int);clear hK3;refine hkO hK HW.o λ h2=>?_;replace hH:=h2;clear hK KK h2
      refine tkJ 6 77 (.string hi4) rfl hH ?_;refine tkI 7 8 hH ?_;refine dnH ?_;clear hH;have hHW:=HW.o;have hBz7:=(hHW.below (Nat.le_refl _) (λ_ h=>h.elim)).mono hz7;replace HBl7:=Hd (HBl7.o.trans hBz7);replace HO7:=Hd (own_kept HO7.o hHW kk2);clear hHW hBz7 hz7 HW;go_wp2;go_roundw
      case rel=>exact⟨i+1,hi4,by omega,by go_num,rfl,HNX7.o,HSL7.o,HO7.o,HBl7.o⟩
      case measure=>simp[intOf];omega
     ·have himI:¬ (i:Int)<(m:Int):=by omega
      have hie:i=m:=by omega
      have HIE:=Hd hie;have HK6:=Hd (HKV.o.trans HK5w.o kk2);clear hK45 hlw hie;go_wp2;go_roundw
      case rel =>
       refine⟨lv+1,by omega,by go_num,.inr ⟨lv,m,gL,oL,cL,?_⟩⟩;have hO9:=HO.o;rw[HIE.o] at hO9 ⊢;rcases hO9.2 with⟨_,hm9⟩|⟨g9,cap9,cur9,he9,hb9,hg9,_,_,_,ht9⟩
       ·omega
       cases he9;refine⟨g9,0,_,rfl,HMM.o,rfl,rfl,by omega,λ k hk=>?_,(Array.getElem?_eq_some_iff.1 hg9).1,λ k hk=>?_,HK6.o⟩
       ·exact((Below.kept HBl.o (S:=λ_=>False) (λ i hi h=>by omega)).cell (p:=⟨gL,oL+k,none⟩) hgL4 id).trans ((HKl.o.cell (p:=⟨gL,oL+k,none⟩) hgL id).trans (HCLA.o k hk))
       ·have:=World.ownsRow.cells hO9 (g:=g9) rfl k (.string (lo lv k)) (lows0_at (lo lv) hk)
        rw[Addr.add_lit] at this;exact this
      case measure=>simp[intOf];omega
   ·clear HREL
    have HLE:=Hd hle;subst hmB;have HBC:=Hd hbc;have HWC:=Hd hwc;clear hle hbc hwc;have HIL:=Hd (show mm lv-1<mm lv by omega);obtain⟨m1,hm1⟩:∃ m1,mm lv-1=m1:=⟨_,rfl⟩;obtain⟨nid0,hnid0⟩:∃ nid0,nd lv (mm lv-1)=nid0:=⟨_,rfl⟩;obtain⟨hi3,hhi3⟩:∃ x,(pg lv (mm lv-1)).hi=x:=⟨_,rfl⟩;have hla0:(pg lv (mm lv-1)).la=true:=((T.lev lv hlv).last (mm lv-1) (by omega)).1;obtain⟨la3,hla3⟩:∃ x,(pg lv (mm lv-1)).la=x:=⟨_,rfl⟩;have hl3:la3=true:=by rw[←hla3];exact hla0
    have HHI3:=Hd hhi3;have HLA3:=Hd hla3;have HNI:=Hd hnid0;have HPAGE:=Hd (show ∀ W',Kept (λ_=>False) V3 W'->Calls prog 38 #[.agg #[int .i64 1,int .i64 2,int .i64 Cf.N,int .i64 Cf.C,int .i64 Cf.R,int .i64 F,int .u64 Cf.K,.slice (some ⟨g,0,none⟩) n n],int .u64 nid0] W' λ e w'=>∃(A:Option Addr) (c n3 rt3:Nat),e=.returned (.agg #[int .i64 lv,.slice A n3 c,.string hi3,.bool la3,int .u64 rt3])/\Kept (λ_=>False) W' w' from λ W' hW=>by
     refine(tpage_anyG F h4 h6 g n l hl H kk nd mm lo pg T lv (mm lv-1) nid0 hlv HIL.o HNI.o.symm lv rfl W' (hW.blk HVr.o id)).mono ?_;rintro e w' ⟨A,c,rfl, -, -,hk⟩;rw[HHI3.o,HLA3.o];exact⟨A,c,_,_,rfl,hk⟩)
    obtain⟨m,hm⟩:∃ m,mm lv=m:=⟨_,rfl⟩;rw[hm] at hcL hmp hmt;rw[hm];have HMM:=Hd hm;have HCLA:=Hd (show ∀ i,i<m->V3.cell? ⟨gL,oL+i,none⟩=some (int .u64 ((nd lv i:Nat):Int)) from λ i hi=>hcL i _ (idsG_at hi));have hcl1:=HCLA.o m1 (by rw[←hm1,hm];omega);have hnid1:nd lv m1=nid0:=by rw[←hm1];exact hnid0
    rw[hnid1] at hcl1;have HCL:=Hd hcl1;have hgLr:gL<V3.heap.size:=hgL;have hm1I:(m1:Int)=(m:Int)-1:=by rw[←hm1,hm];omega
    have hm1a:IntKind.i64.wrap ((m:Int)-1)=(m1:Int):=by rw[IntKind.wrap_i64];omega
    have hm1b:(m1:Int)<(m:Int):=by omega
    have hm0:((m:Int)==0)=false:=by simp;omega
    subst hl3;have HM1:=Hd hm1I;clear hcL hcl1 hnid0 hnid1 hhi3 hla0 hla3 hm hm1 hm1I;go_upto_region 9 with fail
    refine wp_region_held_drew (S:=(λ w'=>Kept (λ_=>False) V3 w')) (by kernel_rfl) ?_ (λ hH=>?_)
    ·exact(Kept.refl _ _).drew
    have HW:=Hd ((Kept.refl (λ_=>False) V3).drew);generalize V3.drew=G at *;refine tkI 0 35 hH ?_;refine tkI 1 36 hH ?_;refine tkJ 2 37 (.bool false) rfl hH ?_;refine tkJ 3 38 (.bool false) rfl hH ?_;refine tkI 4 39 hH ?_ (hv:=by intro wq hSw;have y0:=(hSw.blk HBr.o id).c8;have hc9:=(hSw.cell (p:=⟨gL,oL+m1,none⟩) hgLr id).trans HCL.o;exact qq1);refine tkI 5 40 hH ?_;refine tkI 6 41 hH ?_;refine tkI 7 42 hH ?_;refine tkJ 8 43 (int .i64 m1) rfl hH ?_;refine tkI 9 44 hH ?_;refine tkI 10 45 hH ?_ (hv:=by intro wq hSw;have y0:=(hSw.blk HBr.o id).c8;have hc9:=(hSw.cell (p:=⟨gL,oL+m1,none⟩) hgLr id).trans HCL.o;exact qq1);refine rdH 11 (some 46) rfl λ KK hK=>?_;go_simp;go_at_call 38;refine(HPAGE.o _ HW.o).mono ?_;rintro e G ⟨A3,c3,n3,rt3,rfl,hK3⟩;replace HW:=Hd (HW.o.trans hK3 kk2);have hpf:=pfield3 (lv:Int) A3 n3 c3 hi3 true (rt3:Int);clear hK3;refine hkO hK HW.o λ h2=>?_;replace hH:=h2;clear hK KK h2
    refine tkJ 12 47 (.bool true) rfl hH ?_;refine tkJ 13 48 (.bool false) rfl hH ?_;refine tkJ 14 49 (.bool false) rfl hH ?_;refine dnH ?_;clear hH;replace HBr:=Hd (HW.o.blk HBr.o id);replace HVr:=Hd (HW.o.blk HVr.o id);have HKa:=Hd (HK2.o.trans HW.o kk2);have HKl:=Hd HW.o;clear HW HPAGE HCL hm1a hm1b hm0 HK2;rename World=>V4;go_wp2_with fail;go_loopw [7,8,9] (λ ov lv8 iv wr=>∃(i:Nat) (lw:ByteArray),i<=m/\iv=int .i64 i/\lv8=.string lw/\(i<m->lw=lo lv i)/\slLen ov=i/\wr.ownsRow V4.heap.size 9 1 ov i (strv (lows0 (lo lv) i))/\Below V4.heap.size V4 wr) (λ_ _ iv _=>m-(intOf iv).toNat)
    case atStart=>exact⟨0,⟨#[]⟩,Nat.zero_le _,rfl,rfl,λ_=>(T.lev lv hlv).low0.symm,rfl,World.ownsRow_nil _ _ _ _,Below.refl _ _⟩
    case round =>
     rename World=>V5;obtain⟨i,lw,hi1,rfl,rfl,hlw,hsl,hO,hBl⟩:=hrel;have HO:=Hd hO;have HBl:=Hd hBl;have hz5:=hBl.size;obtain⟨A0,c0,rfl⟩:=strs_slice hO;have hK45:=Below.kept hBl (S:=λ_=>False) (λ i hi h=>by omega);have HB5:=Hd (hK45.blk HBr.o id);have HV5:=Hd (hK45.blk HVr.o id);have HK5w:=Hd (HKa.o.trans hK45 kk2);have hgL4:gL<V4.heap.size:=Nat.lt_of_lt_of_le hgL HKl.o.size;clear hO hBl hsl
     by_cases him1:i<m
     ·have him:i<mm lv:=by rw[HMM.o];exact him1
      have himI:(i:Int)<(m:Int):=by omega
      obtain⟨nid,hnid⟩:∃ nid,nd lv i=nid:=⟨_,rfl⟩;have hlwe:=hlw him1;have hcl:=HCLA.o i him1;rw[hnid] at hcl;have HCLb:=Hd ((HKl.o.cell (p:=⟨gL,oL+i,none⟩) hgL id).trans hcl);have HCL5:=Hd ((hK45.cell (p:=⟨gL,oL+i,none⟩) hgL4 id).trans HCLb.o);have hgL5:gL<V5.heap.size:=by omega
      have HNI:=Hd hnid;subst hlwe;obtain⟨lw,hlwq⟩:∃ lw,lo lv i=lw:=⟨_,rfl⟩;have HLWQ:=Hd hlwq;clear hK45 hcl hnid hlw hlwq;go_upto_region 16 with fail
      refine qregion (λ w'=>Kept (λ_=>False) V5 w') (by kernel_rfl) (by kernel_rfl) (Kept.refl _ _).drew ?_;refine tkP 56 ?_ (by intro wq hSw;have y0:=(hSw.blk HB5.o id).c8;have hc9:=(hSw.cell (p:=⟨gL,oL+i,none⟩) hgL5 id).trans HCL5.o;exact qq1);refine tkP 57 ?_;refine tkP 58 ?_;refine tkP 59 ?_;refine tkP 60 ?_ (by intro wq hSw;have y0:=(hSw.blk HB5.o id).c8;have hc9:=(hSw.cell (p:=⟨gL,oL+i,none⟩) hgL5 id).trans HCL5.o;exact qq1);refine tkP 61 ?_;refine tkP 62 ?_;refine tkP 63 ?_;refine tkP 64 ?_;refine qcall (o:=⟨some 65,_,_,_,_,_⟩) (v:=.bool true) (by rfl) (λ wq hSw=>?_) (λ wq hSw=>Calls.mono (vsound_upG F h4 h6 g n l hl H kk nd mm lo pg T ks r off HLV.o HRF.o HZ.o HHI.o L1 lv i nid HLE.o hlv him HNI.o.symm (mm L1) rfl gB oB cB gW oW cW _ (hSw.blk HV5.o id) (Nat.lt_of_lt_of_le hgB (Nat.le_trans HK5w.o.size hSw.size)) (λ k hk=>(hSw.cell (p:=⟨gB,oB+k,none⟩) (Nat.lt_of_lt_of_le hgB HK5w.o.size) id).trans ((HK5w.o.cell (p:=⟨gB,oB+k,none⟩) hgB id).trans (HBC.o k hk))) (Nat.lt_of_lt_of_le hgW (Nat.le_trans HK5w.o.size hSw.size)) (λ k hk=>(hSw.cell (p:=⟨gW,oW+k,none⟩) (Nat.lt_of_lt_of_le hgW HK5w.o.size) id).trans ((HK5w.o.cell (p:=⟨gW,oW+k,none⟩) hgW id).trans (HWC.o k hk)))) ?_) ?_
      ·(go_simp;try with_reducible rfl)
      ·rintro e w9 ⟨rfl,hk⟩;exact⟨rfl,hSw.trans hk kk2⟩
      try simp only[aP,aA,aZ,aS]
      refine tkR 66 (.bool false) ?_;refine wpQuiet_nil ?_;intro wz hH;have hB56:=(hH.below (Nat.le_refl _) (λ_ h=>h.elim)).mono hz5;replace HBl:=Hd (HBl.o.trans hB56);replace HO:=Hd (own_kept HO.o hH kk2);have HB6:=Hd (hH.blk HB5.o id);have HV6:=Hd (hH.blk HV5.o id);have hz6:V4.heap.size<=wz.heap.size:=Nat.le_trans hz5 hH.size;clear hH hB56 HB5 HV5 HCL5 HK5w;have hown:=HO.o;go_wp2_with (at_builtin;go_must (refine wpList_append_own _ rfl (.tmp 67) (.tmp 69) 22 rfl V4.heap.size 9 i0 _ 1 16 Tryz.underlying22 HI0.o HI1.o HI2.o HI3.o rfl (by decide) _ _ _ rfl (hown.alloc _) ⟨wz.heap.size,0,none⟩ 1 1 [.string (lo lv i)] rfl rfl ?a1 ?b1 ?c1 ?d1 ?e1 ?_))
      try case a1 =>
       intro q' u hu
       match q',hu with
       | 0,hu=>simp at hu;subst hu;simp[Addr.add]
       | q'+1,hu=>simp at hu
      case b1=>first|exact rfl|(intro u hu;simp at hu;subst hu;rfl)
      case c1=>unfold maxLen;omega
      case d1=>omega
      case e1=>first|omega|(simp;omega)
      intro v1 V7 hown1 hgr1 _;have hal:=(Below.refl wz.heap.size wz).alloc (Nat.le_refl _) (.cells #[.string (lo lv i)] 9);have hBe:=Below.grown (hal.mono hz6) hgr1 (by rw[nblk_alloc];omega) λ q hq=>(hown.lt q hq).1;have HBl7:=Hd (HBl.o.trans hBe);have hO1:V7.ownsRow V4.heap.size 9 1 v1 (i+1) (strv (lows0 (lo lv) (i+1))):=by
       rw[lows0_step];exact hown1
      have hz7:=HBl7.o.size;have hK47:=Below.kept HBl7.o (S:=λ_=>False) (λ i hi h=>by omega);have HB7:=Hd (hK47.blk HBr.o id);have HVr7:=Hd (hK47.blk HVr.o id);have HCL7:=Hd ((hK47.cell (p:=⟨gL,oL+i,none⟩) hgL4 id).trans HCLb.o);have hgL7:gL<V7.heap.size:=by omega
      have HO7:=Hd hO1;obtain⟨A7,c7,rfl⟩:=strs_slice hO1;have HSL7:=Hd (show slLen (.slice A7 (i+1) c7)=i+1 from rfl);obtain⟨hi4,hhi4⟩:∃ x,(pg lv i).hi=x:=⟨_,rfl⟩;have HHI4:=Hd hhi4;have HNX7:=Hd (show i+1<m->hi4=lo lv (i+1) from λ h=>by rw[←hhi4];exact((T.lev lv hlv).next i (by rw[HMM.o];exact h)).2.2);have HPAGE7:=Hd (show ∀ W',Kept (λ_=>False) V7 W'->Calls prog 38 #[.agg #[int .i64 1,int .i64 2,int .i64 Cf.N,int .i64 Cf.C,int .i64 Cf.R,int .i64 F,int .u64 Cf.K,.slice (some ⟨g,0,none⟩) n n],int .u64 nid] W' λ e w'=>∃(A:Option Addr) (c n3:Nat) (la4:Bool) (rt3:Nat),e=.returned (.agg #[int .i64 lv,.slice A n3 c,.string hi4,.bool la4,int .u64 rt3])/\Kept (λ_=>False) W' w' from λ W' hW=>by
       refine(tpage_anyG F h4 h6 g n l hl H kk nd mm lo pg T lv i nid hlv him HNI.o.symm lv rfl W' (hW.blk HVr7.o id)).mono ?_;rintro e w' ⟨A,c,rfl, -, -,hk⟩;rw[HHI4.o];exact⟨A,c,_,_,_,rfl,hk⟩)
      clear hown1 hgr1 hal hBe hO1 hown hz6 hK47 hhi4;go_upto_region 19 with fail
      refine wp_region_held_drew (S:=(λ w'=>Kept (λ_=>False) V7 w')) (by kernel_rfl) ?_ (λ hH=>?_)
      ·exact(Kept.refl _ _).drew
      have HW:=Hd ((Kept.refl (λ_=>False) V7).drew);generalize V7.drew=G at *;refine tkI 0 71 hH ?_ (hv:=by intro wq hSw;have y0:=(hSw.blk HB7.o id).c8;have hc9:=(hSw.cell (p:=⟨gL,oL+i,none⟩) hgL7 id).trans HCL7.o;exact qq1);refine tkI 1 72 hH ?_;refine tkI 2 73 hH ?_;refine tkI 3 74 hH ?_;refine tkI 4 75 hH ?_ (hv:=by intro wq hSw;have y0:=(hSw.blk HB7.o id).c8;have hc9:=(hSw.cell (p:=⟨gL,oL+i,none⟩) hgL7 id).trans HCL7.o;exact qq1);refine rdH 5 (some 76) rfl λ KK hK=>?_;go_simp;go_at_call 38;refine(HPAGE7.o _ HW.o).mono ?_;rintro e G ⟨A3,c3,n3,la4,rt3,rfl,hK3⟩;replace HW:=Hd (HW.o.trans hK3 kk2);have hpf:=pfield2 (lv:Int) A3 n3 c3 hi4 la4 (rt3:Int);clear hK3;refine hkO hK HW.o λ h2=>?_;replace hH:=h2;clear hK KK h2
      refine tkJ 6 77 (.string hi4) rfl hH ?_;refine tkI 7 8 hH ?_;refine dnH ?_;clear hH;have hHW:=HW.o;have hBz7:=(hHW.below (Nat.le_refl _) (λ_ h=>h.elim)).mono hz7;replace HBl7:=Hd (HBl7.o.trans hBz7);replace HO7:=Hd (own_kept HO7.o hHW kk2);clear hHW hBz7 hz7 HW;go_wp2;go_roundw
      case rel=>exact⟨i+1,hi4,by omega,by go_num,rfl,HNX7.o,HSL7.o,HO7.o,HBl7.o⟩
      case measure=>simp[intOf];omega
     ·have himI:¬ (i:Int)<(m:Int):=by omega
      have hie:i=m:=by omega
      have HIE:=Hd hie;have HK6:=Hd (HKV.o.trans HK5w.o kk2);clear hK45 hlw hie;go_wp2;go_roundw
      case rel =>
       refine⟨lv+1,by omega,by go_num,.inr ⟨lv,m,gL,oL,cL,?_⟩⟩;have hO9:=HO.o;rw[HIE.o] at hO9 ⊢;rcases hO9.2 with⟨_,hm9⟩|⟨g9,cap9,cur9,he9,hb9,hg9,_,_,_,ht9⟩
       ·omega
       cases he9;refine⟨g9,0,_,rfl,HMM.o,rfl,rfl,by omega,λ k hk=>?_,(Array.getElem?_eq_some_iff.1 hg9).1,λ k hk=>?_,HK6.o⟩
       ·exact((Below.kept HBl.o (S:=λ_=>False) (λ i hi h=>by omega)).cell (p:=⟨gL,oL+k,none⟩) hgL4 id).trans ((HKl.o.cell (p:=⟨gL,oL+k,none⟩) hgL id).trans (HCLA.o k hk))
       ·have:=World.ownsRow.cells hO9 (g:=g9) rfl k (.string (lo lv k)) (lows0_at (lo lv) hk)
        rw[Addr.add_lit] at this;exact this
      case measure=>simp[intOf];omega
  ·have hlvI:¬ (lv:Int)<(H:Int):=by omega
   go_wp2_with fail;refine HHG.o.mono ?_;rintro e w2 ⟨rfl,hK2⟩;have HK9:=Hd (HK.o.trans (HKV.o.trans hK2 kk2) kk2);clear hK2;go_wp2;go_ret;refine⟨rfl,?_⟩;have:=HK9.o;exact this

end
end Go.Proofs.YtlkgmnjceghpiaaGreat
