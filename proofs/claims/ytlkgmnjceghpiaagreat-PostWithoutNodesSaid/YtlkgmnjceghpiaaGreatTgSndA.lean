/-
 A View's Refs of such a tree. Condition: a fanout of four to six.
-/
import Derived.Test.YtlkgmnjceghpiaaGreatTgLevel
import Derived.Test.YtlkgmnjceghpiaaGreatLkSndA
namespace Go.Proofs.YtlkgmnjceghpiaaGreat
open Go.RowKit Go.Deep Plain
set_option linter.unusedSectionVars false
set_option linter.unusedVariables false
open _root_.Go.Proofs.Tryz
open Go.Value (int)
set_option maxHeartbeats 8000000
set_option maxRecDepth 100000
section
variable [Cf]

structure LeavesG(ks:List ByteArray)(r:Nat->Nat)(m:Nat)(lo:Nat->ByteArray)(pg:Nat->Pg)(off:Nat->Nat):Prop where
 zero:off 0=0
 all:off m=ks.length
 step:∀ i,i<m->off (i+1)=off i+(pg i).xs.length
 slot:∀ i,i<m->∀ q x,(pg i).xs[q]? = some x->ks[off i+q]? = some x.1/\x.2=r (off i+q)
 low:∀ i,i<m->∀ x∈(pg i).xs,kl x.1 (lo i)=false
 high:∀ i,i<m->∀ x∈(pg i).xs,cov (pg i) x.1=true
def RefsG(r:Nat->Nat)(n:Nat):Prop:=(∀ p,p<n->1<=r p/\r p<=n)/\∀ p q,p<n->q<n->r p=r q->p=q
def rfsG(r:Nat->Nat)(m:Nat):List Nat:=(List.range m).map r
theorem rfsG_len(r:Nat->Nat)(m:Nat):(rfsG r m).length=m:=by unfold rfsG;simp
theorem rfsG_at{r:Nat->Nat}{m i:Nat}(h:i<m):(rfsG r m)[i]? = some (r i):=by unfold rfsG;rw[List.getElem?_map,List.getElem?_range h];rfl
theorem rfsG_step(r:Nat->Nat)(m:Nat):rfsG r (m+1)=rfsG r m++[r m]:=by unfold rfsG;rw[List.range_succ,List.map_append];rfl
theorem vrefs_anyG(F:Nat)(h4:4<=F)(h6:F<=6)(g n:Nat)(l:List Cel)(hl:l.length=n)(H:Nat)(kk:Nat)(nd:Nat->Nat->Nat)(mm:Nat->Nat)(lo:Nat->Nat->ByteArray)(pg:Nat->Nat->Pg)(T:TrG F l H kk nd mm lo pg)(h0:0<H)(ks:List ByteArray)(r:Nat->Nat)(off:Nat->Nat)(hlv:LeavesG ks r (mm 0) (lo 0) (pg 0) off)(hk40:ks.length<=Cf.C)(w:World)(hv:Blk w g 59 (flat3 l)) :
  Calls prog 23 #[.agg #[int .i64 1,int .i64 2,int .i64 Cf.N,int .i64 Cf.C,int .i64 Cf.R,int .i64 F,int .u64 Cf.K,.slice (some ⟨g,0,none⟩) n n]] w λ e w'=>∃(A:Option Addr) (c:Nat),e=.returned (.slice A ks.length c)/\Wr w' A w.heap.size (rfsG r ks.length)/\Kept (λ_=>False) w w':=by
 have hCN2:=Cf.n2;have hCC2:=Cf.c2;obtain⟨i0,hi0,hz0,hz1,hz2⟩:=info_parts infoU64;have HI0:=Hd hi0;have HI1:=Hd hz0;have HI2:=Hd hz1;have HI3:=Hd hz2;clear hi0 hz0 hz1 hz2;have HLV:=Hd hlv;clear hlv;have HV0:=Hd hv;clear hv;go_enter func23,ntmps23;go_wp2_with fail;have hal:=(Kept.refl (λ_=>False) w).alloc (.cells #[int .i64 1,int .i64 2,int .i64 Cf.N,int .i64 Cf.C,int .i64 Cf.R,int .i64 F,int .u64 Cf.K,.slice (some ⟨g,0,none⟩) n n] 36);have HB:=Hd (Blk.new w [int .i64 1,int .i64 2,int .i64 Cf.N,int .i64 Cf.C,int .i64 Cf.R,int .i64 F,int .u64 Cf.K,.slice (some ⟨g,0,none⟩) n n] 36);have HV:=Hd (hal.blk HV0.o id);have HK:=Hd hal;clear hal;generalize w.alloc (.cells #[int .i64 1,int .i64 2,int .i64 Cf.N,int .i64 Cf.C,int .i64 Cf.R,int .i64 F,int .u64 Cf.K,.slice (some ⟨g,0,none⟩) n n] 36)=W at *;generalize hr0:w.heap.size=r0 at *;have HR0:=Hd hr0;clear hr0;obtain⟨x0,x1,x2,x3,x4,x5,x6,x7⟩:=(HB.o).c8;have hmp:=(T.lev 0 h0).pos;have hmt:=(T.lev 0 h0).top;refine(vlevel_inG F h4 h6 g n l hl H kk nd mm lo pg T 0 h0 _ HV.o).mono ?_;rintro e Z ⟨AL,cL,rfl,hAL,hK9⟩;obtain⟨gL,oL,rfl,hgL, -,hcL⟩:=hAL (by omega);have HBz:=Hd (hK9.blk HB.o id);have HVz:=Hd (hK9.blk HV.o id);have HKz:=Hd (HK.o.trans hK9 kk2);obtain⟨m,hm⟩:∃ m,mm 0=m:=⟨_,rfl⟩;rw[hm] at hcL hmp hmt;rw[hm];have HMM:=Hd hm;have HCLz:=Hd (show ∀ i,i<m->Z.cell? ⟨gL,oL+i,none⟩=some (int .u64 ((nd 0 i:Nat):Int)) from λ i hi=>hcL i _ (idsG_at hi));clear hcL hAL hK9 HB HV HK hm x0 x1 x2 x3 x4 x5 x6 x7;go_wp2_with fail;go_loopw [3,5] (λ ov iv wr=>∃ i:Nat,i<=m/\iv=int .i64 i/\slLen ov=off i/\wr.ownsRow Z.heap.size 23 1 ov (off i) (wds (rfsG r (off i)))/\Below Z.heap.size Z wr) (λ_ iv _=>m-(intOf iv).toNat)
 case atStart=>exact⟨0,Nat.zero_le _,rfl,HLV.o.zero.symm,by rw[HLV.o.zero];exact World.ownsRow_nil _ _ _ _,Below.refl _ _⟩
 case round =>
  rename World=>V3;obtain⟨i,him0,rfl,hsl,hO,hBl⟩:=hrel;have HO:=Hd hO;have HBl:=Hd hBl;have hzr:=hBl.size;obtain⟨A0,c0,rfl, -⟩:=words_read hO;have HOB:=Hd (λ k hk=>hO.lt k hk);have HBr:=Hd (HBz.o.below hBl HBz.o.lt);have HVr:=Hd (HVz.o.below hBl HVz.o.lt);have hgLr:gL<V3.heap.size:=Nat.lt_of_lt_of_le hgL hzr;clear hO hBl hsl
  by_cases himm:i<m
  ·have him:i<mm 0:=by rw[HMM.o];exact himm
   obtain⟨nid,hnid⟩:∃ nid,nd 0 i=nid:=⟨_,rfl⟩;have hcl:=HCLz.o i himm;rw[hnid] at hcl;have HCL:=Hd ((HBl.o.cell (p:=⟨gL,oL+i,none⟩) hgL).trans hcl);obtain⟨P,hP⟩:∃ P,pg 0 i=P:=⟨_,rfl⟩;obtain⟨la3,hla3⟩:∃ x,P.la=x:=⟨_,rfl⟩;obtain⟨hi3,hhi3⟩:∃ x,P.hi=x:=⟨_,rfl⟩;obtain⟨n3,hn3⟩:∃ x,P.xs.length=x:=⟨_,rfl⟩;obtain⟨rt3,hrt3⟩:∃ x,P.rt=x:=⟨_,rfl⟩;have HPP:=Hd hP;have HN3:=Hd hn3;have hn3b:n3<=6:=by rw[←hn3, ←hP];have:=((T.lev 0 h0).nd i him).len;omega
   have HPAGE:=Hd (show ∀ W',Kept (λ_=>False) V3 W'->Calls prog 38 #[.agg #[int .i64 1,int .i64 2,int .i64 Cf.N,int .i64 Cf.C,int .i64 Cf.R,int .i64 F,int .u64 Cf.K,.slice (some ⟨g,0,none⟩) n n],int .u64 nid] W' λ e w'=>∃(A:Option Addr) (c:Nat),e=.returned (.agg #[int .i64 0,.slice A n3 c,.string hi3,.bool la3,int .u64 rt3])/\Rs w' A c P.xs/\(∀ a,A=some a->W'.heap.size<=a.block)/\Kept (λ_=>False) W' w' from λ W' hW=>by
    refine(tpage_anyG F h4 h6 g n l hl H kk nd mm lo pg T 0 i nid h0 him hnid.symm 0 rfl W' (hW.blk HVr.o id)).mono ?_;rintro e w' ⟨A,c,rfl,hr,ha,hk⟩;rw[hP] at hr ⊢;rw[hhi3,hla3,hn3,hrt3];exact⟨A,c,rfl,hr,ha,hk⟩)
   have himI:(i:Int)<(m:Int):=by omega
   clear hcl hnid hP hla3 hhi3 hn3 hrt3;go_upto_region 6 with fail
   refine wp_region_held_drew (S:=(λ w'=>Kept (λ_=>False) V3 w')) (by kernel_rfl) ?_ (λ hH=>?_)
   ·exact(Kept.refl _ _).drew
   have HW:=Hd ((Kept.refl (λ_=>False) V3).drew);generalize V3.drew=G at *;refine tkI 0 16 hH ?_ (hv:=by intro wq hSw;have y0:=(hSw.blk HBr.o id).c8;have hc9:=(hSw.cell (p:=⟨gL,oL+i,none⟩) hgLr id).trans HCL.o;exact qq1);refine tkI 1 17 hH ?_;refine tkI 2 18 hH ?_;refine tkI 3 19 hH ?_;refine tkI 4 20 hH ?_ (hv:=by intro wq hSw;have y0:=(hSw.blk HBr.o id).c8;have hc9:=(hSw.cell (p:=⟨gL,oL+i,none⟩) hgLr id).trans HCL.o;exact qq1);refine rdY [5,6] ?_;refine rdC (some 21) (λ KK hK=>?_) (rdC (some 6) (λ KK hK=>?_) (AllReadyH.nil))
   ·go_simp
    go_at_call 38;have hsz4:=HW.o.size;refine(HPAGE.o _ HW.o).mono ?_;rintro e G ⟨A3,c3,rfl,hR3,hA3,hK3⟩
    try have HRQ:=Hd (show 0<P.xs.length->∀ a,A3=some a->a.block≠rq from λ_ a ha=>by have h1:=hA3 a ha;have h2:=HSL.o.lt;omega)
    try replace HSL:=Hd (hK3.blk HSL.o id)
    replace HW:=Hd (HW.o.trans hK3 kk2);have HR3:=Hd hR3;have HA3:=Hd (show ∀ a,A3=some a->V3.heap.size<=a.block from λ a ha=>Nat.le_trans hsz4 (hA3 a ha));clear hK3 hR3 hA3 hsz4;refine hkO hK HW.o λ h2=>?_;replace hH:=h2;clear hK KK h2
    refine rdH 6 (some 6) rfl λ KK hK=>?_;go_simp;have hr1:V3.heap.size<=G.heap.size:=HW.o.size;replace HW:=Hd (HW.o.alloc (.cells #[int .i64 0,.slice none 0 0,.string ⟨#[]⟩,.bool false,int .u64 0] 64));have HSL:=Hd (Blk.new G [int .i64 0,.slice none 0 0,.string ⟨#[]⟩,.bool false,int .u64 0] 64)
    try have HRQ:=Hd (show 0<P.xs.length->∀ a,A3=some a->a.block≠G.heap.size from λ hp a ha=>by
     obtain⟨g9,off9,he9,hg9, -⟩:=HR3.o.at hp;rw[ha] at he9;cases he9;exact Nat.ne_of_lt hg9)
    try replace HR3:=Hd (HR3.o.keptF ((Kept.refl (λ_=>False) G).alloc (.cells #[int .i64 0,.slice none 0 0,.string ⟨#[]⟩,.bool false,int .u64 0] 64)) kk2)
    generalize G.heap.size=rq at *;have HR1:=Hd hr1;clear hr1;generalize G.alloc (.cells #[int .i64 0,.slice none 0 0,.string ⟨#[]⟩,.bool false,int .u64 0] 64)=G at *;refine hkO hK HW.o λ h2=>?_;replace hH:=h2;clear hK KK h2
    refine rdH 7 none rfl λ KK hK=>?_;have hs9:=HSL.o;obtain⟨s0,s1,s2,s3,s4⟩:=hs9.c5;have z0:=hs9.frozen 0;have z1:=hs9.frozen 1;have z2:=hs9.frozen 2;have z3:=hs9.frozen 3;have z4:=hs9.frozen 4;clear hs9;go_simp;have hKs5:=(((((Kept.refl (λ i=>i=rq) G).setCell (a:=⟨rq,0,none⟩) (λ_=>rfl) (int .i64 0)).setCell (a:=⟨rq,1,none⟩) (λ_=>rfl) (.slice A3 n3 c3)).setCell (a:=⟨rq,2,none⟩) (λ_=>rfl) (.string hi3)).setCell (a:=⟨rq,3,none⟩) (λ_=>rfl) (.bool la3)).setCell (a:=⟨rq,4,none⟩) (λ_=>rfl) (int .u64 rt3);replace HR3:=Hd (HR3.o.keptP hKs5 (λ hp a ha e=>HRQ.o hp a ha e));replace HW:=Hd ((((((HW.o).setNew HR1.o 0 (int .i64 0)).setNew HR1.o 1 (.slice A3 n3 c3)).setNew HR1.o 2 (.string hi3)).setNew HR1.o 3 (.bool la3)).setNew HR1.o 4 (int .u64 rt3));replace HSL:=Hd ((((((HSL.o).set 0 (int .i64 0)).set 1 (.slice A3 n3 c3)).set 2 (.string hi3)).set 3 (.bool la3)).set 4 (int .u64 rt3));clear hKs5 s0 s1 s2 s3 s4 z0 z1 z2 z3 z4;generalize (((((G).setCell ⟨rq,0,none⟩ (int .i64 0)).setCell ⟨rq,1,none⟩ (.slice A3 n3 c3)).setCell ⟨rq,2,none⟩ (.string hi3)).setCell ⟨rq,3,none⟩ (.bool la3)).setCell ⟨rq,4,none⟩ (int .u64 rt3)=G at *;refine hkO hK HW.o λ h2=>?_;replace hH:=h2;clear hK KK h2
    refine dnH ?_;clear hH;replace HBl:=Hd (HBl.o.trans ((HW.o.below (Nat.le_refl _) (λ_ h=>h.elim)).mono hzr));replace HO:=Hd (own_kept HO.o HW.o kk2);replace HBr:=Hd (HW.o.blk HBr.o id);have hzG:Z.heap.size<=G.heap.size:=Nat.le_trans hzr HW.o.size;have HZR:=Hd hzG;have HVG:=Hd HW.o.size;clear HW HCL HPAGE hzr hzG;go_wp2_with fail;go_loopw [3,7] (λ ov qv wr=>∃ q:Nat,q<=n3/\qv=int .i64 q/\slLen ov=off i+q/\wr.ownsRow Z.heap.size 23 1 ov (off i+q) (wds (rfsG r (off i+q)))/\Below Z.heap.size Z wr/\(∀ k,ov.ownBlock=some k->(Z.heap.size<=k/\k<V3.heap.size)\/G.heap.size<=k)/\Kept (λ k=>Z.heap.size<=k/\k<V3.heap.size) G wr) (λ_ qv _=>n3-(intOf qv).toNat)
    case atStart=>exact⟨0,Nat.zero_le _,rfl,by rw[Nat.add_zero];rfl,by rw[Nat.add_zero];exact HO.o,HBl.o,λ k hk=>.inl (HOB.o k hk),Kept.refl _ _⟩
    case round =>
     rename World=>U;obtain⟨q,hq,rfl,hsl2,hO2,hBl2,hob2,hBG2⟩:=hrel;have HOB2:=Hd hob2;clear hob2;have HO2:=Hd hO2;have HBl2:=Hd hBl2;have HBG2:=Hd hBG2;have hzu:=hBl2.size;obtain⟨A1,c1,rfl, -⟩:=words_read hO2;have HRQV:=Hd (show ¬ (Z.heap.size<=rq/\rq<V3.heap.size) by have:=HR1.o;omega);have hs9:=hBG2.blk HSL.o HRQV.o;obtain⟨s0,s1,s2,s3,s4⟩:=hs9.c5;clear hs9 hO2 hBl2 hBG2 hsl2
     by_cases hqn:q<n3
     ·obtain⟨x,hx⟩:∃ x,P.xs[q]? = some x:=⟨_,List.getElem?_eq_getElem (by have:=HN3.o;omega)⟩
      obtain⟨g3,o3,rfl,hg3,hc3⟩:=(HR3.o.keptP HBG2.o (λ_ a ha e=>by have:=HA3.o a ha;omega)).at (by have:=HN3.o;omega);obtain⟨y0,y1⟩:=hc3 q x hx;have hxr:(x.2:Int)=((r (off i+q):Nat):Int):=by rw[(HLV.o.slot i him q x (by rw[HPP.o];exact hx)).2]
      rw[hxr] at y1;have hqI:(q:Int)<(n3:Int):=by omega
      obtain⟨m1,hm1⟩:∃ m1,off i+q=m1:=⟨_,rfl⟩;rw[hm1] at y1;rw[hm1] at HO2 HOB2;rw[hm1];have HM1:=Hd hm1;have hm100:m1<ks.length:=by have:=(List.getElem?_eq_some_iff.1 (HLV.o.slot i him q x (by rw[HPP.o];exact hx)).1).1;omega
      clear hc3 hx hxr hm1;have hown:=HO2.o;go_wp2_with (at_builtin;go_must (refine wpList_append_lies _ rfl (.tmp 29) (.tmp 36) 54 rfl Z.heap.size 23 i0 _ 1 8 Tryz.underlying54 HI0.o HI1.o HI2.o HI3.o rfl (by decide) _ _ _ rfl (hown.alloc _) ⟨U.heap.size,0,none⟩ 1 1 [int .u64 ((r m1:Nat):Int)] rfl rfl ?a1 ?b1 (by omega) ?c1 ?d1 ?e1 _ rfl ?_))
      try case a1 =>
       intro q' u hu
       match q',hu with
       | 0,hu=>simp at hu;subst hu;simp[Addr.add]
       | q'+1,hu=>simp at hu
      case b1=>first|exact rfl|(intro u hu;simp at hu;subst hu;rfl)
      case c1=>unfold maxLen;omega
      case d1=>omega
      case e1=>first|omega|(simp;omega)
      intro g1 cap1 we hown1 hgr1 hat1 hlt1;have hal:=(Below.refl U.heap.size U).alloc (Nat.le_refl _) (.cells #[int .u64 ((r m1:Nat):Int)] 23);have hBe:=Below.grown (hal.mono hzu) hgr1 (by rw[nblk_alloc];omega) λ q hq=>(hown.lt q hq).1;replace HBl2:=Hd (HBl2.o.trans hBe);have hO1:we.ownsRow Z.heap.size 23 1 (.slice (some ⟨g1,0,none⟩) (m1+1) cap1) (m1+1) (wds (rfsG r (m1+1))):=by
       rw[rfsG_step,wds_snoc];exact hown1
      have hK7:=((Kept.refl (λ k=>(Value.slice A1 m1 c1).ownBlock=some k) U).alloc (.cells #[int .u64 ((r m1:Nat):Int)] 23)).grown hgr1 (λ k hk _=>hk);have HOBn:=Hd (show ∀ k,(Value.slice (some (⟨g1,0,none⟩:Addr)) (m1+1) cap1).ownBlock=some k->(Z.heap.size<=k/\k<V3.heap.size)\/G.heap.size<=k from λ k hk=>by
       have e:g1=k:=by simpa [Value.ownBlock] using hk
       subst e;rcases hat1 with h|h
       ·exact HOB2.o _ h
       ·right;have h2:=HBG2.o.size;rw[h];omega)
      replace HBG2:=Hd (HBG2.o.trans hK7 (λ k hk h=>(HOB2.o k h).resolve_right (by omega)));have HOn:=Hd hO1;clear s0 s1 s2 s3 s4 y0 y1 hal hown1 hgr1 hO1 hown hBe hK7 hat1 hlt1;go_wp2;go_roundw
      case rel=>exact⟨q+1,by omega,by go_num,by have:=HM1.o;show m1+1=off i+(q+1);omega,by have e:=HM1.o;rw[show off i+(q+1)=m1+1 by omega];exact HOn.o,HBl2.o,HOBn.o,HBG2.o⟩
      case measure=>simp[intOf];omega
     ·have hqI:¬ (q:Int)<(n3:Int):=by omega
      obtain hqe:q=n3:=by omega
      have HQE:=Hd hqe;have hstep:=HLV.o.step i him;rw[HPP.o,HN3.o] at hstep;have HST:=Hd hstep;clear hqe hstep;go_wp2;go_roundw
      case rel=>exact⟨i+1,by omega,by go_num,by have e1:=HST.o;have e2:=HQE.o;show off i+q=_;omega,by have e1:=HST.o;have e2:=HQE.o;rw[show off (i+1)=off i+q by omega];exact HO2.o,HBl2.o⟩
      case measure=>simp[intOf];omega
   ·go_simp
    have hr1:V3.heap.size<=G.heap.size:=HW.o.size;replace HW:=Hd (HW.o.alloc (.cells #[int .i64 0,.slice none 0 0,.string ⟨#[]⟩,.bool false,int .u64 0] 64));have HSL:=Hd (Blk.new G [int .i64 0,.slice none 0 0,.string ⟨#[]⟩,.bool false,int .u64 0] 64)
    try have HRQ:=Hd (show 0<P.xs.length->∀ a,A3=some a->a.block≠G.heap.size from λ hp a ha=>by
     obtain⟨g9,off9,he9,hg9, -⟩:=HR3.o.at hp;rw[ha] at he9;cases he9;exact Nat.ne_of_lt hg9)
    try replace HR3:=Hd (HR3.o.keptF ((Kept.refl (λ_=>False) G).alloc (.cells #[int .i64 0,.slice none 0 0,.string ⟨#[]⟩,.bool false,int .u64 0] 64)) kk2)
    generalize G.heap.size=rq at *;have HR1:=Hd hr1;clear hr1;generalize G.alloc (.cells #[int .i64 0,.slice none 0 0,.string ⟨#[]⟩,.bool false,int .u64 0] 64)=G at *;refine hkO hK HW.o λ h2=>?_;replace hH:=h2;clear hK KK h2
    refine rdH 5 (some 21) rfl λ KK hK=>?_;go_simp;go_at_call 38;have hsz4:=HW.o.size;refine(HPAGE.o _ HW.o).mono ?_;rintro e G ⟨A3,c3,rfl,hR3,hA3,hK3⟩
    try have HRQ:=Hd (show 0<P.xs.length->∀ a,A3=some a->a.block≠rq from λ_ a ha=>by have h1:=hA3 a ha;have h2:=HSL.o.lt;omega)
    try replace HSL:=Hd (hK3.blk HSL.o id)
    replace HW:=Hd (HW.o.trans hK3 kk2);have HR3:=Hd hR3;have HA3:=Hd (show ∀ a,A3=some a->V3.heap.size<=a.block from λ a ha=>Nat.le_trans hsz4 (hA3 a ha));clear hK3 hR3 hA3 hsz4;refine hkO hK HW.o λ h2=>?_;replace hH:=h2;clear hK KK h2
    refine rdH 7 none rfl λ KK hK=>?_;have hs9:=HSL.o;obtain⟨s0,s1,s2,s3,s4⟩:=hs9.c5;have z0:=hs9.frozen 0;have z1:=hs9.frozen 1;have z2:=hs9.frozen 2;have z3:=hs9.frozen 3;have z4:=hs9.frozen 4;clear hs9;go_simp;have hKs5:=(((((Kept.refl (λ i=>i=rq) G).setCell (a:=⟨rq,0,none⟩) (λ_=>rfl) (int .i64 0)).setCell (a:=⟨rq,1,none⟩) (λ_=>rfl) (.slice A3 n3 c3)).setCell (a:=⟨rq,2,none⟩) (λ_=>rfl) (.string hi3)).setCell (a:=⟨rq,3,none⟩) (λ_=>rfl) (.bool la3)).setCell (a:=⟨rq,4,none⟩) (λ_=>rfl) (int .u64 rt3);replace HR3:=Hd (HR3.o.keptP hKs5 (λ hp a ha e=>HRQ.o hp a ha e));replace HW:=Hd ((((((HW.o).setNew HR1.o 0 (int .i64 0)).setNew HR1.o 1 (.slice A3 n3 c3)).setNew HR1.o 2 (.string hi3)).setNew HR1.o 3 (.bool la3)).setNew HR1.o 4 (int .u64 rt3));replace HSL:=Hd ((((((HSL.o).set 0 (int .i64 0)).set 1 (.slice A3 n3 c3)).set 2 (.string hi3)).set 3 (.bool la3)).set 4 (int .u64 rt3));clear hKs5 s0 s1 s2 s3 s4 z0 z1 z2 z3 z4;generalize (((((G).setCell ⟨rq,0,none⟩ (int .i64 0)).setCell ⟨rq,1,none⟩ (.slice A3 n3 c3)).setCell ⟨rq,2,none⟩ (.string hi3)).setCell ⟨rq,3,none⟩ (.bool la3)).setCell ⟨rq,4,none⟩ (int .u64 rt3)=G at *;refine hkO hK HW.o λ h2=>?_;replace hH:=h2;clear hK KK h2
    refine dnH ?_;clear hH;replace HBl:=Hd (HBl.o.trans ((HW.o.below (Nat.le_refl _) (λ_ h=>h.elim)).mono hzr));replace HO:=Hd (own_kept HO.o HW.o kk2);replace HBr:=Hd (HW.o.blk HBr.o id);have hzG:Z.heap.size<=G.heap.size:=Nat.le_trans hzr HW.o.size;have HZR:=Hd hzG;have HVG:=Hd HW.o.size;clear HW HCL HPAGE hzr hzG;go_wp2_with fail;go_loopw [3,7] (λ ov qv wr=>∃ q:Nat,q<=n3/\qv=int .i64 q/\slLen ov=off i+q/\wr.ownsRow Z.heap.size 23 1 ov (off i+q) (wds (rfsG r (off i+q)))/\Below Z.heap.size Z wr/\(∀ k,ov.ownBlock=some k->(Z.heap.size<=k/\k<V3.heap.size)\/G.heap.size<=k)/\Kept (λ k=>Z.heap.size<=k/\k<V3.heap.size) G wr) (λ_ qv _=>n3-(intOf qv).toNat)
    case atStart=>exact⟨0,Nat.zero_le _,rfl,by rw[Nat.add_zero];rfl,by rw[Nat.add_zero];exact HO.o,HBl.o,λ k hk=>.inl (HOB.o k hk),Kept.refl _ _⟩
    case round =>
     rename World=>U;obtain⟨q,hq,rfl,hsl2,hO2,hBl2,hob2,hBG2⟩:=hrel;have HOB2:=Hd hob2;clear hob2;have HO2:=Hd hO2;have HBl2:=Hd hBl2;have HBG2:=Hd hBG2;have hzu:=hBl2.size;obtain⟨A1,c1,rfl, -⟩:=words_read hO2;have HRQV:=Hd (show ¬ (Z.heap.size<=rq/\rq<V3.heap.size) by have:=HR1.o;omega);have hs9:=hBG2.blk HSL.o HRQV.o;obtain⟨s0,s1,s2,s3,s4⟩:=hs9.c5;clear hs9 hO2 hBl2 hBG2 hsl2
     by_cases hqn:q<n3
     ·obtain⟨x,hx⟩:∃ x,P.xs[q]? = some x:=⟨_,List.getElem?_eq_getElem (by have:=HN3.o;omega)⟩
      obtain⟨g3,o3,rfl,hg3,hc3⟩:=(HR3.o.keptP HBG2.o (λ_ a ha e=>by have:=HA3.o a ha;omega)).at (by have:=HN3.o;omega);obtain⟨y0,y1⟩:=hc3 q x hx;have hxr:(x.2:Int)=((r (off i+q):Nat):Int):=by rw[(HLV.o.slot i him q x (by rw[HPP.o];exact hx)).2]
      rw[hxr] at y1;have hqI:(q:Int)<(n3:Int):=by omega
      obtain⟨m1,hm1⟩:∃ m1,off i+q=m1:=⟨_,rfl⟩;rw[hm1] at y1;rw[hm1] at HO2 HOB2;rw[hm1];have HM1:=Hd hm1;have hm100:m1<ks.length:=by have:=(List.getElem?_eq_some_iff.1 (HLV.o.slot i him q x (by rw[HPP.o];exact hx)).1).1;omega
      clear hc3 hx hxr hm1;have hown:=HO2.o;go_wp2_with (at_builtin;go_must (refine wpList_append_lies _ rfl (.tmp 29) (.tmp 36) 54 rfl Z.heap.size 23 i0 _ 1 8 Tryz.underlying54 HI0.o HI1.o HI2.o HI3.o rfl (by decide) _ _ _ rfl (hown.alloc _) ⟨U.heap.size,0,none⟩ 1 1 [int .u64 ((r m1:Nat):Int)] rfl rfl ?a1 ?b1 (by omega) ?c1 ?d1 ?e1 _ rfl ?_))
      try case a1 =>
       intro q' u hu
       match q',hu with
       | 0,hu=>simp at hu;subst hu;simp[Addr.add]
       | q'+1,hu=>simp at hu
      case b1=>first|exact rfl|(intro u hu;simp at hu;subst hu;rfl)
      case c1=>unfold maxLen;omega
      case d1=>omega
      case e1=>first|omega|(simp;omega)
      intro g1 cap1 we hown1 hgr1 hat1 hlt1;have hal:=(Below.refl U.heap.size U).alloc (Nat.le_refl _) (.cells #[int .u64 ((r m1:Nat):Int)] 23);have hBe:=Below.grown (hal.mono hzu) hgr1 (by rw[nblk_alloc];omega) λ q hq=>(hown.lt q hq).1;replace HBl2:=Hd (HBl2.o.trans hBe);have hO1:we.ownsRow Z.heap.size 23 1 (.slice (some ⟨g1,0,none⟩) (m1+1) cap1) (m1+1) (wds (rfsG r (m1+1))):=by
       rw[rfsG_step,wds_snoc];exact hown1
      have hK7:=((Kept.refl (λ k=>(Value.slice A1 m1 c1).ownBlock=some k) U).alloc (.cells #[int .u64 ((r m1:Nat):Int)] 23)).grown hgr1 (λ k hk _=>hk);have HOBn:=Hd (show ∀ k,(Value.slice (some (⟨g1,0,none⟩:Addr)) (m1+1) cap1).ownBlock=some k->(Z.heap.size<=k/\k<V3.heap.size)\/G.heap.size<=k from λ k hk=>by
       have e:g1=k:=by simpa [Value.ownBlock] using hk
       subst e;rcases hat1 with h|h
       ·exact HOB2.o _ h
       ·right;have h2:=HBG2.o.size;rw[h];omega)
      replace HBG2:=Hd (HBG2.o.trans hK7 (λ k hk h=>(HOB2.o k h).resolve_right (by omega)));have HOn:=Hd hO1;clear s0 s1 s2 s3 s4 y0 y1 hal hown1 hgr1 hO1 hown hBe hK7 hat1 hlt1;go_wp2;go_roundw
      case rel=>exact⟨q+1,by omega,by go_num,by have:=HM1.o;show m1+1=off i+(q+1);omega,by have e:=HM1.o;rw[show off i+(q+1)=m1+1 by omega];exact HOn.o,HBl2.o,HOBn.o,HBG2.o⟩
      case measure=>simp[intOf];omega
     ·have hqI:¬ (q:Int)<(n3:Int):=by omega
      obtain hqe:q=n3:=by omega
      have HQE:=Hd hqe;have hstep:=HLV.o.step i him;rw[HPP.o,HN3.o] at hstep;have HST:=Hd hstep;clear hqe hstep;go_wp2;go_roundw
      case rel=>exact⟨i+1,by omega,by go_num,by have e1:=HST.o;have e2:=HQE.o;show off i+q=_;omega,by have e1:=HST.o;have e2:=HQE.o;rw[show off (i+1)=off i+q by omega];exact HO2.o,HBl2.o⟩
      case measure=>simp[intOf];omega
  ·have himI:¬ (i:Int)<(m:Int):=by omega
   obtain rfl:i=m:=by omega
   go_wp2;go_ret;have hal:=HLV.o.all;rw[HMM.o] at hal;have hO5:=HO.o;obtain⟨A9,c9,he9,hw9⟩:=words_read hO5;rw[hal] at he9 hw9;rw[hal];have hz9:=HKz.o.size;have hr9:=HR0.o;have hb9:=HBl.o;have hKz:=HKz.o.trans (Below.kept hb9 (S:=λ_=>False) (λ i hi h=>by omega)) kk2;have hwr:Wr V3 A0 w.heap.size (rfsG r ks.length):=λ hp=>by
    cases he9;obtain⟨g7,o7,h1,h2,h3,h4⟩:=hw9 hp;exact⟨g7,o7,h1,h2,by omega,h4⟩
   exact⟨A0,⟨c0,rfl⟩,hwr,hKz⟩

end
end Go.Proofs.YtlkgmnjceghpiaaGreat
