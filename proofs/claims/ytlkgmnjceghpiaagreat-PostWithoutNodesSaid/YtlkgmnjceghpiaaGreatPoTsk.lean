/-
 What 'tasks' of layer 14's laws answers: the leaves to which no slot of level 1 refers. Condition: a fanout of four to six.
-/
import Derived.Test.YtlkgmnjceghpiaaGreatTgSndA
import Derived.Deep.CutBlock
namespace Go.Proofs.YtlkgmnjceghpiaaGreat
open Go.RowKit Go.Deep Plain
set_option linter.unusedSectionVars false
set_option linter.unusedVariables false
open _root_.Go.Proofs.Tryz
open Go.Value (int)
set_option maxHeartbeats 8000000
set_option maxRecDepth 100000
section
variable [Cf]

def bools(f:Nat->Bool)(n:Nat):List Value:=(List.range n).map λ k=>.bool (f k)
theorem bools_at{f:Nat->Bool}{n k:Nat}(h:k<n):(bools f n)[k]? = some (.bool (f k)):=by unfold bools;rw[List.getElem?_map,List.getElem?_range h];rfl
theorem bools_set{f f2:Nat->Bool}{n k:Nat}(h:∀ x,f2 x=if x=k then true else f x):(bools f n).set k (.bool true)=bools f2 n:=by
 unfold bools;apply List.ext_getElem?;intro j;rw[List.getElem?_set]
 by_cases hj:j<n
 ·rw[List.getElem?_map,List.getElem?_map,List.getElem?_range hj]
  by_cases e:k=j
  ·subst e;rw[if_pos rfl,if_pos (by simpa using hj)];simp[h]
  ·rw[if_neg e];simp[h,Ne.symm e]
 ·by_cases e:k=j
  ·rw[if_pos e,if_neg (by simp;omega),List.getElem?_eq_none (by simp;omega)]
  ·rw[if_neg e,List.getElem?_eq_none (by simp;omega),List.getElem?_eq_none (by simp;omega)]
theorem bools_no(n:Nat):List.replicate n (Value.bool false)=bools (λ_=>false) n:=by
 unfold bools;apply List.ext_getElem?;intro j
 by_cases hj:j<n
 ·rw[List.getElem?_map,List.getElem?_range hj,List.getElem?_replicate,if_pos hj];rfl
 ·rw[List.getElem?_eq_none (by simp;omega),List.getElem?_eq_none (by simp;omega)]
def refU(pg:Nat->Nat->Pg)(i x:Nat):Bool:=(List.range i).any λ j=>(pg 1 j).xs.any λ y=>y.2==x
theorem refU_step{pg:Nat->Nat->Pg}{i:Nat}:refU pg (i+1)=λ x=>refU pg i x||(pg 1 i).xs.any λ y=>y.2==x:=by
 funext x;unfold refU;rw[List.range_succ,List.any_append];simp
theorem refU_take{pg:Nat->Nat->Pg}{i q xr:Nat}{xs:List Sl}{x:Sl}(h:xs[q]? = some x)(e:x.2=xr)(z:Nat):(refU pg i z||(xs.take (q+1)).any λ y=>y.2==z)=if z=xr then true else (refU pg i z||(xs.take q).any λ y=>y.2==z):=by
 rw[List.take_add_one,h,List.any_append]
 by_cases hz:z=xr
 ·rw[if_pos hz];simp[e,hz]
 ·have h9:(x.2==z)=false:=by rw[e];simp;omega
  rw[if_neg hz];simp[h9]
def ref1(H:Nat)(mm:Nat->Nat)(pg:Nat->Nat->Pg)(x:Nat):Bool:=refU pg (if 1<H then mm 1 else 0) x
def tskL(H:Nat)(mm:Nat->Nat)(lo:Nat->Nat->ByteArray)(nd:Nat->Nat->Nat)(pg:Nat->Nat->Pg):Nat->List Sl
 | 0=>[]
 | i+1=>if 0<i/\ref1 H mm pg (nd 0 i)=false then tskL H mm lo nd pg i++[(lo 0 i,nd 0 i)] else tskL H mm lo nd pg i
theorem tskL_len{H:Nat}{mm:Nat->Nat}{lo:Nat->Nat->ByteArray}{nd:Nat->Nat->Nat}{pg:Nat->Nat->Pg}:∀ i,(tskL H mm lo nd pg i).length<=i
 | 0=>Nat.le_refl _
 | i+1=>by
  have:=tskL_len (H:=H) (mm:=mm) (lo:=lo) (nd:=nd) (pg:=pg) i;show (if _ then _ else _:List Sl).length<=_
  split
  ·rw[List.length_append];simp;omega
  ·omega
theorem own_slc{w:World}{base e size n:Nat}{v:Value}{xs:List Value}(h:w.ownsRow base e size v n xs):∃ A c,v=.slice A n c:=by
 rcases h.2 with⟨rfl,rfl⟩|⟨g,cap,cur,rfl, -⟩
 ·exact⟨_,_,rfl⟩
 ·exact⟨_,_,rfl⟩
theorem own_down{w:World}{base base' e size n:Nat}{v:Value}{xs:List Value}(h:w.ownsRow base e size v n xs)(hb:base'<=base):w.ownsRow base' e size v n xs:=by
 refine⟨h.1,?_⟩;rcases h.2 with h1|⟨g,cap,cur,h1,h2,h3⟩
 ·exact .inl h1
 ·exact .inr ⟨g,cap,cur,h1,by omega,h3⟩
theorem pfieldH(lv:Int)(A:Option Addr)(n c:Nat)(hi:ByteArray)(la:Bool)(rt:Int)(w:World):(Instr.field 64 (.agg #[int .i64 lv,.slice A n c,.string hi,.bool la,int .u64 rt]) 2).run prog w=.ok (.string hi) w:=by kernel_rfl
theorem infoBool:(prog.info? 4).map (λ i=>(i.zero,i.size,i.bytes))=some (some (.bool false),1,1):=by kernel_rfl
theorem infoTask:(prog.info? 41).map (λ i=>(i.zero,i.size,i.bytes))=some (some (.agg #[.string ⟨#[]⟩,int .u64 0]),2,24):=by kernel_rfl
theorem made_rowB(z:Value)(n:Nat):madeCells #[z] n=⟨List.replicate n z⟩:=by
 apply Array.ext';apply List.ext_getElem?;intro j
 by_cases hj:j<n
 ·simp[madeCells,hj,Nat.mod_one]
 ·rw[List.getElem?_eq_none (by simp[madeCells];omega),List.getElem?_eq_none (by simp;omega)]
theorem make_bool(n:Nat)(hn:n<=1099511627776)(w:World) :
  (Instr.makeSlice 82 (int .i64 n) (int .i64 n)).run prog w=.ok (.slice (some ⟨w.heap.size,0,none⟩) n n) (w.alloc (.cells ⟨bools (λ_=>false) n⟩ 4)):=by
 rw[run_make_row' (P:=prog) 82 4 _ 1 Tryz.underlying82 infoBool rfl .i64 .i64 n (by omega) (by omega) w,made_rowB,bools_no]
theorem tasks_any(F:Nat)(h4:4<=F)(h6:F<=6)(g n:Nat)(l:List Cel)(hl:l.length=n)(H:Nat)(kk:Nat)(nd:Nat->Nat->Nat)(mm:Nat->Nat)(lo:Nat->Nat->ByteArray)(pg:Nat->Nat->Pg)(T:TrG F l H kk nd mm lo pg)(w:World)(hv:Blk w g 59 (flat3 l)) :
  Calls prog 12 #[.agg #[int .i64 1,int .i64 2,int .i64 Cf.N,int .i64 Cf.C,int .i64 Cf.R,int .i64 F,int .u64 Cf.K,.slice (some ⟨g,0,none⟩) n n]] w λ e w'=>∃ v,e=.returned v/\w'.ownsRow w.heap.size 41 2 v (tskL H mm lo nd pg (mm 0)).length (flat (tskL H mm lo nd pg (mm 0)))/\Below w.heap.size w w':=by
 obtain⟨i0,hi0,hz0,hz1,hz2⟩:=info_parts infoTask;have HI0:=Hd hi0;have HI1:=Hd hz0;have HI2:=Hd hz1;have HI3:=Hd hz2;clear hi0 hz0 hz1 hz2;have hCN1:=Cf.n1;have hCN2:=Cf.n2;have h0:0<H:=T.H1;obtain⟨m1,hm1⟩:∃ m1,(if 1<H then mm 1 else 0)=m1:=⟨_,rfl⟩;have hm300:m1<=300:=by
  rw[←hm1];split
  ·rename_i h;have:=(T.lev 1 h).top;omega
  ·omega
 have HL1:=Hd (show ∀ W,Blk W g 59 (flat3 l)->Calls prog 37 #[.agg #[int .i64 1,int .i64 2,int .i64 Cf.N,int .i64 Cf.C,int .i64 Cf.R,int .i64 F,int .u64 Cf.K,.slice (some ⟨g,0,none⟩) n n],int .i64 1] W λ e w'=>∃(A:Option Addr) (c:Nat),e=.returned (.slice A m1 c)/\(0<m1->∃ gL oL,A=some ⟨gL,oL,none⟩/\W.heap.size<=gL/\gL<w'.heap.size/\∀ i,i<m1->w'.cell? ⟨gL,oL+i,none⟩=some (int .u64 ((nd 1 i:Nat):Int)))/\Kept (λ_=>False) W w' from λ W hW=>by
  by_cases h1:1<H
  ·rw[if_pos h1] at hm1
   refine(vlevel_inG F h4 h6 g n l hl H kk nd mm lo pg T 1 h1 W hW).mono ?_;rintro e w' ⟨A,c,rfl,hA,hK⟩;rw[hm1] at hA ⊢;refine⟨A,c,rfl,λ hp=>?_,hK⟩;obtain⟨gL,oL,e,h2,h2',h3⟩:=hA hp;exact⟨gL,oL,e,h2',h2,λ i hi=>h3 i _ (idsG_at hi)⟩
  ·rw[if_neg h1] at hm1
   refine(vlevel_outG F h4 h6 g n l hl H kk nd mm lo pg T 1 (by omega) (by omega) W hW).mono ?_;rintro e w' ⟨rfl,hK⟩;subst hm1;exact⟨none,0,rfl,λ h=>absurd h (by omega),hK⟩)
 have HM1:=Hd hm1;have HRF:=Hd (show ∀ x,ref1 H mm pg x=refU pg m1 x from λ x=>by unfold ref1;rw[hm1]);have HV0:=Hd hv;obtain⟨nN,hnN⟩:∃ nN,Cf.N+1=nN:=⟨_,rfl⟩;have hnI:(Cf.N:Int)+1=(nN:Int):=by omega
 have hmk:=λ w=>make_bool nN (by omega) w;have HNN:=Hd hnN;clear hv hm1 hnN;go_enter func12,ntmps12;go_upto_region 1 with fail
 have hal:=(Kept.refl (λ_=>False) w).alloc (.cells #[int .i64 1,int .i64 2,int .i64 Cf.N,int .i64 Cf.C,int .i64 Cf.R,int .i64 F,int .u64 Cf.K,.slice (some ⟨g,0,none⟩) n n] 36);have HB:=Hd (Blk.new w [int .i64 1,int .i64 2,int .i64 Cf.N,int .i64 Cf.C,int .i64 Cf.R,int .i64 F,int .u64 Cf.K,.slice (some ⟨g,0,none⟩) n n] 36);have HV:=Hd (hal.blk HV0.o id);have HK:=Hd hal;clear hal;generalize w.alloc (.cells #[int .i64 1,int .i64 2,int .i64 Cf.N,int .i64 Cf.C,int .i64 Cf.R,int .i64 F,int .u64 Cf.K,.slice (some ⟨g,0,none⟩) n n] 36)=W at *;generalize hr0:w.heap.size=r0 at *;have HR0:=Hd hr0;have hr0W:r0<W.heap.size:=HB.o.lt;clear hr0;obtain⟨x0,x1,x2,x3,x4,x5,x6,x7⟩:=(HB.o).c8;go_wp2_with fail;have hmk1:=hmk W;generalize hrb:W.heap.size=rb at *;have hal:=(Kept.refl (λ_=>False) W).alloc (.cells ⟨bools (λ_=>false) nN⟩ 4);have HBO:=Hd (show Blk (W.alloc (.cells ⟨bools (λ_=>false) nN⟩ 4)) rb 4 (bools (refU pg 0) (Cf.N+1)) from by
  have h:=Blk.new W (bools (λ_=>false) nN) 4;rw[hrb] at h;rw[HNN.o];exact h)
 have HRB:=Hd (show r0<rb from by omega);replace HB:=Hd (hal.blk HB.o id);replace HV:=Hd (hal.blk HV.o id);replace HK:=Hd (HK.o.trans hal kk2);clear hal hrb hmk1 hmk hr0W;generalize W.alloc (.cells ⟨bools (λ_=>false) nN⟩ 4)=W2 at *;have HRW2:=Hd HBO.o.lt;refine(HL1.o _ HV.o).mono ?_;rintro e Z ⟨AL,cL,rfl,hAL,hK9⟩;have HAL:=Hd hAL;have HBz:=Hd (hK9.blk HB.o id);have HVz:=Hd (hK9.blk HV.o id);have HBOz:=Hd (hK9.blk HBO.o id);have HKz:=Hd (HK.o.trans hK9 kk2);clear hAL hK9 HB HV HK HBO HL1 x0 x1 x2 x3 x4 x5 x6 x7;go_wp2_with fail;go_loopw [5] (λ iv wr=>∃ i:Nat,i<=m1/\iv=int .i64 i/\Blk wr rb 4 (bools (refU pg i) (Cf.N+1))/\Kept (λ j=>j=rb) Z wr) (λ iv _=>m1-(intOf iv).toNat)
 case atStart=>exact⟨0,Nat.zero_le _,rfl,HBOz.o,Kept.refl _ _⟩
 case round =>
  rename World=>V3;obtain⟨i,him0,rfl,hbo,hKr⟩:=hrel;have HRB0:=Hd (show rb≠r0 from by have:=HRB.o;omega);have HGB:=Hd (show g<rb from by have h1:=HV0.o.lt;have h2:=HR0.o;have h3:=HRB.o;omega);have HBr:=Hd (hKr.blk HBz.o (λ e=>HRB0.o e.symm));have HVr:=Hd (hKr.blk HVz.o (λ e=>by have h1:=HGB.o;omega));have HBO:=Hd hbo;have HKr:=Hd (show Kept (λ j=>j=rb) Z V3 from hKr);have HRBV:=Hd hbo.lt;clear hbo hKr
  by_cases himm:i<m1
  ·have h1:1<H:=by
    rcases Nat.lt_or_ge 1 H with h|h
    ·exact h
    ·have:=HM1.o;rw[if_neg (by omega)] at this;omega
   have him:i<mm 1:=by have:=HM1.o;rw[if_pos h1] at this;omega
   obtain⟨gL,oL,rfl,hgW,hgL,hcL⟩:=HAL.o (by omega);obtain⟨nid,hnid⟩:∃ nid,nd 1 i=nid:=⟨_,rfl⟩;obtain⟨P,hP⟩:∃ P,pg 1 i=P:=⟨_,rfl⟩;obtain⟨la3,hla3⟩:∃ x,P.la=x:=⟨_,rfl⟩;obtain⟨hi3,hhi3⟩:∃ x,P.hi=x:=⟨_,rfl⟩;obtain⟨n3,hn3⟩:∃ x,P.xs.length=x:=⟨_,rfl⟩;obtain⟨rt3,hrt3⟩:∃ x,P.rt=x:=⟨_,rfl⟩;have HPP:=Hd hP;have HN3:=Hd hn3;have HH3:=Hd hhi3;have HNID:=Hd hnid;have HLA3:=Hd hla3;have HRT3:=Hd hrt3;have hn3b:n3<=6:=by rw[←hn3, ←hP];have:=((T.lev 1 h1).nd i him).len;omega
   have HPAGE:=Hd (show ∀ W',Kept (λ_=>False) V3 W'->Calls prog 38 #[.agg #[int .i64 1,int .i64 2,int .i64 Cf.N,int .i64 Cf.C,int .i64 Cf.R,int .i64 F,int .u64 Cf.K,.slice (some ⟨g,0,none⟩) n n],int .u64 nid] W' λ e w'=>∃(A:Option Addr) (c:Nat),e=.returned (.agg #[int .i64 1,.slice A n3 c,.string hi3,.bool la3,int .u64 rt3])/\Rs w' A c P.xs/\(∀ a,A=some a->W'.heap.size<=a.block)/\Kept (λ_=>False) W' w' from λ W' hW=>by
    refine(tpage_anyG F h4 h6 g n l hl H kk nd mm lo pg T 1 i nid h1 him hnid.symm 1 rfl W' (hW.blk HVr.o id)).mono ?_;rintro e w' ⟨A,c,rfl,hr,ha,hk⟩;rw[hP] at hr ⊢;rw[hhi3,hla3,hn3,hrt3];exact⟨A,c,rfl,hr,ha,hk⟩)
   have hcl:=hcL i himm;rw[hnid] at hcl;have HCL:=Hd ((HKr.o.cell (p:=⟨gL,oL+i,none⟩) hgL (λ e=>by have h2:=HRW2.o;have e':gL=rb:=e;omega)).trans hcl);have hgLr:gL<V3.heap.size:=Nat.lt_of_lt_of_le hgL HKr.o.size;have himI:(i:Int)<(m1:Int):=by omega
   clear hcl hcL hnid hP hla3 hhi3 hn3 hrt3;go_upto_region 6 with fail
   refine wp_region_held_drew (S:=(λ w'=>Kept (λ_=>False) V3 w')) (by kernel_rfl) ?_ (λ hH=>?_)
   ·exact(Kept.refl _ _).drew
   have HW:=Hd ((Kept.refl (λ_=>False) V3).drew);generalize V3.drew=G at *;refine tkI 0 25 hH ?_ (hv:=by intro wq hSw;have y0:=(hSw.blk HBr.o id).c8;have hc9:=(hSw.cell (p:=⟨gL,oL+i,none⟩) hgLr id).trans HCL.o;exact qq1);refine tkI 1 26 hH ?_;refine tkI 2 27 hH ?_;refine tkI 3 28 hH ?_;refine tkI 4 29 hH ?_ (hv:=by intro wq hSw;have y0:=(hSw.blk HBr.o id).c8;have hc9:=(hSw.cell (p:=⟨gL,oL+i,none⟩) hgLr id).trans HCL.o;exact qq1);refine rdY [5,6] ?_;refine rdC (some 30) (λ KK hK=>?_) (rdC (some 6) (λ KK hK=>?_) (AllReadyH.nil))
   ·go_simp
    go_at_call 38;have hsz4:=HW.o.size;refine(HPAGE.o _ HW.o).mono ?_;rintro e G ⟨A3,c3,rfl,hR3,hA3,hK3⟩
    try have HRQ:=Hd (show 0<P.xs.length->∀ a,A3=some a->a.block≠rq from λ_ a ha=>by have h1:=hA3 a ha;have h2:=HSL.o.lt;omega)
    try replace HSL:=Hd (hK3.blk HSL.o id)
    replace HW:=Hd (HW.o.trans hK3 kk2);have HR3:=Hd hR3;have HA3:=Hd (show ∀ a,A3=some a->V3.heap.size<=a.block from λ a ha=>Nat.le_trans hsz4 (hA3 a ha));clear hK3 hR3 hA3 hsz4;refine hkO hK HW.o λ h2=>?_;replace hH:=h2;clear hK KK h2
    refine rdH 6 (some 6) rfl λ KK hK=>?_;go_simp;have hr1:V3.heap.size<=G.heap.size:=HW.o.size;replace HW:=Hd (HW.o.alloc (.cells #[int .i64 0,.slice none 0 0,.string ⟨#[]⟩,.bool false,int .u64 0] 64));have HSL:=Hd (Blk.new G [int .i64 0,.slice none 0 0,.string ⟨#[]⟩,.bool false,int .u64 0] 64)
    try have HRQ:=Hd (show 0<P.xs.length->∀ a,A3=some a->a.block≠G.heap.size from λ hp a ha=>by
     obtain⟨g9,off9,he9,hg9, -⟩:=HR3.o.at hp;rw[ha] at he9;cases he9;exact Nat.ne_of_lt hg9)
    try replace HR3:=Hd (HR3.o.keptF ((Kept.refl (λ_=>False) G).alloc (.cells #[int .i64 0,.slice none 0 0,.string ⟨#[]⟩,.bool false,int .u64 0] 64)) kk2)
    generalize G.heap.size=rq at *;have HR1:=Hd hr1;clear hr1;generalize G.alloc (.cells #[int .i64 0,.slice none 0 0,.string ⟨#[]⟩,.bool false,int .u64 0] 64)=G at *;refine hkO hK HW.o λ h2=>?_;replace hH:=h2;clear hK KK h2
    refine rdH 7 none rfl λ KK hK=>?_;have hs9:=HSL.o;obtain⟨s0,s1,s2,s3,s4⟩:=hs9.c5;have z0:=hs9.frozen 0;have z1:=hs9.frozen 1;have z2:=hs9.frozen 2;have z3:=hs9.frozen 3;have z4:=hs9.frozen 4;clear hs9;go_simp;have hKs5:=(((((Kept.refl (λ i=>i=rq) G).setCell (a:=⟨rq,0,none⟩) (λ_=>rfl) (int .i64 1)).setCell (a:=⟨rq,1,none⟩) (λ_=>rfl) (.slice A3 n3 c3)).setCell (a:=⟨rq,2,none⟩) (λ_=>rfl) (.string hi3)).setCell (a:=⟨rq,3,none⟩) (λ_=>rfl) (.bool la3)).setCell (a:=⟨rq,4,none⟩) (λ_=>rfl) (int .u64 rt3);replace HR3:=Hd (HR3.o.keptP hKs5 (λ hp a ha e=>HRQ.o hp a ha e));replace HW:=Hd ((((((HW.o).setNew HR1.o 0 (int .i64 1)).setNew HR1.o 1 (.slice A3 n3 c3)).setNew HR1.o 2 (.string hi3)).setNew HR1.o 3 (.bool la3)).setNew HR1.o 4 (int .u64 rt3));replace HSL:=Hd ((((((HSL.o).set 0 (int .i64 1)).set 1 (.slice A3 n3 c3)).set 2 (.string hi3)).set 3 (.bool la3)).set 4 (int .u64 rt3));clear hKs5 s0 s1 s2 s3 s4 z0 z1 z2 z3 z4;generalize (((((G).setCell ⟨rq,0,none⟩ (int .i64 1)).setCell ⟨rq,1,none⟩ (.slice A3 n3 c3)).setCell ⟨rq,2,none⟩ (.string hi3)).setCell ⟨rq,3,none⟩ (.bool la3)).setCell ⟨rq,4,none⟩ (int .u64 rt3)=G at *;refine hkO hK HW.o λ h2=>?_;replace hH:=h2;clear hK KK h2
    refine dnH ?_;clear hH;clear HPAGE;have HWz:=Hd HW.o;replace HBr:=Hd (HW.o.blk HBr.o id);replace HVr:=Hd (HW.o.blk HVr.o id);replace HBO:=Hd (HW.o.blk HBO.o id);replace HKr:=Hd (HKr.o.trans HW.o (λ_ _ h=>h.elim));have HVG:=Hd HW.o.size;clear HW;go_wp2_with fail;go_loopw [7] (λ qv wr=>∃ q:Nat,q<=n3/\qv=int .i64 q/\Blk wr rb 4 (bools (λ x=>refU pg i x||(P.xs.take q).any (λ y=>y.2==x)) (Cf.N+1))/\Kept (λ j=>j=rb) G wr) (λ qv _=>n3-(intOf qv).toNat)
    case atStart=>exact⟨0,Nat.zero_le _,rfl,by rw[List.take_zero];simp only[List.any_nil,Bool.or_false];exact HBO.o,Kept.refl _ _⟩
    case round =>
     rename World=>U;obtain⟨q,hq,rfl,hbo,hKu⟩:=hrel;have HRBR:=Hd (show rb≠rq/\rb≠r0 by have h1:=HRB.o;have h2:=HR1.o;have h3:=HRBV.o;omega);have HSu:=Hd (hKu.blk HSL.o (λ e=>HRBR.o.1 e.symm));have HBu:=Hd (hKu.blk HBr.o (λ e=>HRBR.o.2 e.symm));have HBOu:=Hd hbo;have HKu:=Hd hKu;have hs9:=HSu.o;obtain⟨s0,s1,s2,s3,s4⟩:=hs9.c5;clear hs9 hbo hKu
     by_cases hqn:q<n3
     ·obtain⟨x,hx⟩:∃ x,P.xs[q]? = some x:=⟨_,List.getElem?_eq_getElem (by have:=HN3.o;omega)⟩
      have hx2:x.2<=Cf.N:=by
       obtain⟨j,hj,e⟩:=(T.up 0 h1 i him).2 x (by rw[HPP.o];exact List.mem_of_getElem? hx);have:=T.all (L:=0) (by omega) hj;rw[e];show nd 0 j<=_;omega
      obtain⟨g3,o3,rfl,hg3,hc3⟩:=(HR3.o.keptP HKu.o (λ hp a ha e=>by have h1:=HA3.o a ha;have h2:=HRBV.o;have e':a.block=rb:=e;omega)).at (by have:=HN3.o;omega);obtain⟨y0,y1⟩:=hc3 q x hx;have HG3:=Hd (show g3<U.heap.size/\U.cell? ⟨g3,o3+q*2,none⟩=some (.string x.1)/\U.cell? ⟨g3,o3+q*2+1,none⟩=some (int .u64 x.2) from⟨hg3,y0,y1⟩);have hqI:(q:Int)<(n3:Int):=by omega
      have hx2I:¬ (Cf.N:Int)<((x.2:Nat):Int):=by omega
      have hx2J:((x.2:Nat):Int)<(nN:Int):=by omega
      have pW:IntKind.u64.wrap (Cf.N:Int)=(Cf.N:Int):=by rw[IntKind.wrap_u64];omega
      have HX:=Hd hx;obtain⟨xr,hxr⟩:∃ xr:Nat,x.2=xr:=⟨_,rfl⟩;rw[hxr] at hx2I hx2J y1 hx2;have HXR:=Hd hxr;have HG4:=Hd (show U.cell? ⟨g3,o3+q*2+1,none⟩=some (int .u64 xr) from y1);clear hc3 hx y0 y1 hxr;go_upto_region 10 with fail
      clear s0 s1 s2 s3 s4;refine region_E 13 (λ w'=>Kept (λ_=>False) U w') (by kernel_rfl) ?_ (λ hH=>?_)
      ·exact(Kept.refl _ _).drew
      have HW:=Hd ((Kept.refl (λ_=>False) U).drew);generalize U.drew=G at *;refine anyE_take (i:=0) (oi:=⟨some 38,_,_,_,_,_⟩) (v:=?_) rfl (by kernel_rfl) (by kernel_rfl) (by kernel_rfl) (by kernel_rfl) (λ_ _ _ h=>h) (Or.inl ⟨by rfl,?_⟩) hH ?_;rotate_left
      ·(intro wq hSw;go_simp;try with_reducible rfl)
      try simp only[aP,aA,aZ,aS]
      refine anyE_take (i:=1) (oi:=⟨some 39,_,_,_,_,_⟩) (v:=?_) rfl (by kernel_rfl) (by kernel_rfl) (by kernel_rfl) (by kernel_rfl) (λ_ _ _ h=>h) (Or.inl ⟨by rfl,?_⟩) hH ?_;rotate_left
      ·(intro wq hSw;go_simp;try with_reducible rfl)
      try simp only[aP,aA,aZ,aS]
      refine anyE_take (i:=2) (oi:=⟨some 40,_,_,_,_,_⟩) (v:=?_) rfl (by kernel_rfl) (by kernel_rfl) (by kernel_rfl) (by kernel_rfl) (λ_ _ _ h=>h) (Or.inl ⟨by rfl,?_⟩) hH ?_;rotate_left
      ·(intro wq hSw;have hb9:=hSw.blk HSu.o id;have s1:=hb9.k 1 rfl;clear hb9;have hb9:=hSw.blk HBu.o id;have x2:=hb9.k 2 rfl;clear hb9;have y1:=(hSw.cell (p:=⟨g3,o3+q*2+1,none⟩) HG3.o.1 id).trans HG4.o;go_simp;try with_reducible rfl)
      try simp only[aP,aA,aZ,aS]
      refine anyE_take (i:=3) (oi:=⟨some 41,_,_,_,_,_⟩) (v:=?_) rfl (by kernel_rfl) (by kernel_rfl) (by kernel_rfl) (by kernel_rfl) (λ_ _ _ h=>h) (Or.inl ⟨by rfl,?_⟩) hH ?_;rotate_left
      ·(intro wq hSw;go_simp;try with_reducible rfl)
      try simp only[aP,aA,aZ,aS]
      refine anyE_take (i:=4) (oi:=⟨some 42,_,_,_,_,_⟩) (v:=?_) rfl (by kernel_rfl) (by kernel_rfl) (by kernel_rfl) (by kernel_rfl) (λ_ _ _ h=>h) (Or.inl ⟨by rfl,?_⟩) hH ?_;rotate_left
      ·(intro wq hSw;go_simp;try with_reducible rfl)
      try simp only[aP,aA,aZ,aS]
      refine anyE_take (i:=5) (oi:=⟨some 43,_,_,_,_,_⟩) (v:=?_) rfl (by kernel_rfl) (by kernel_rfl) (by kernel_rfl) (by kernel_rfl) (λ_ _ _ h=>h) (Or.inl ⟨by rfl,?_⟩) hH ?_;rotate_left
      ·(intro wq hSw;go_simp;try with_reducible rfl)
      try simp only[aP,aA,aZ,aS]
      refine anyE_take (i:=6) (oi:=⟨some 44,_,_,_,_,_⟩) (v:=?_) rfl (by kernel_rfl) (by kernel_rfl) (by kernel_rfl) (by kernel_rfl) (λ_ _ _ h=>h) (Or.inl ⟨by rfl,?_⟩) hH ?_;rotate_left
      ·(intro wq hSw;have hb9:=hSw.blk HSu.o id;have s1:=hb9.k 1 rfl;clear hb9;have hb9:=hSw.blk HBu.o id;have x2:=hb9.k 2 rfl;clear hb9;have y1:=(hSw.cell (p:=⟨g3,o3+q*2+1,none⟩) HG3.o.1 id).trans HG4.o;go_simp;try with_reducible rfl)
      try simp only[aP,aA,aZ,aS]
      refine anyE_take (i:=7) (oi:=⟨some 45,_,_,_,_,_⟩) (v:=?_) rfl (by kernel_rfl) (by kernel_rfl) (by kernel_rfl) (by kernel_rfl) (λ_ _ _ h=>h) (Or.inl ⟨by rfl,?_⟩) hH ?_;rotate_left
      ·(intro wq hSw;go_simp;try with_reducible rfl)
      try simp only[aP,aA,aZ,aS]
      refine anyE_take (i:=8) (oi:=⟨some 46,_,_,_,_,_⟩) (v:=?_) rfl (by kernel_rfl) (by kernel_rfl) (by kernel_rfl) (by kernel_rfl) (λ_ _ _ h=>h) (Or.inl ⟨by rfl,?_⟩) hH ?_;rotate_left
      ·(intro wq hSw;go_simp;try with_reducible rfl)
      try simp only[aP,aA,aZ,aS]
      refine anyE_take (i:=9) (oi:=⟨some 47,_,_,_,_,_⟩) (v:=?_) rfl (by kernel_rfl) (by kernel_rfl) (by kernel_rfl) (by kernel_rfl) (λ_ _ _ h=>h) (Or.inl ⟨by rfl,?_⟩) hH ?_;rotate_left
      ·(intro wq hSw;have hb9:=hSw.blk HSu.o id;have s1:=hb9.k 1 rfl;clear hb9;have hb9:=hSw.blk HBu.o id;have x2:=hb9.k 2 rfl;clear hb9;have y1:=(hSw.cell (p:=⟨g3,o3+q*2+1,none⟩) HG3.o.1 id).trans HG4.o;go_simp;try with_reducible rfl)
      try simp only[aP,aA,aZ,aS]
      refine anyE_take (i:=10) (oi:=⟨some 48,_,_,_,_,_⟩) (v:=int .u64 Cf.N) rfl (by kernel_rfl) (by kernel_rfl) (by kernel_rfl) (by kernel_rfl) (λ_ _ _ h=>h) (Or.inl ⟨by rfl,?_⟩) hH ?_
      ·(intro wq hSw;go_simp;try first|(with_reducible rfl)|(simp;omega)|(intros;omega)|simp[*])
      try simp only[aP,aA,aZ,aS]
      refine anyE_take (i:=11) (oi:=⟨some 49,_,_,_,_,_⟩) (v:=int .u64 xr) rfl (by kernel_rfl) (by kernel_rfl) (by kernel_rfl) (by kernel_rfl) (λ_ _ _ h=>h) (Or.inl ⟨by rfl,?_⟩) hH ?_
      ·(intro wq hSw;go_simp;try first|(with_reducible rfl)|(simp;omega)|(intros;omega)|simp[*])
      try simp only[aP,aA,aZ,aS]
      refine anyE_take (i:=12) (oi:=⟨some 50,_,_,_,_,_⟩) (v:=.pointer (some ⟨rb,xr,none⟩)) rfl (by kernel_rfl) (by kernel_rfl) (by kernel_rfl) (by kernel_rfl) (λ_ _ _ h=>h) (Or.inl ⟨by rfl,?_⟩) hH ?_
      ·(intro wq hSw;go_simp;try first|(with_reducible rfl)|(simp;omega)|(intros;omega)|simp[*])
      try simp only[aP,aA,aZ,aS]
      refine anyE_ready (i:=13) (o:=⟨none,_,_,_,_,_⟩) (by kernel_rfl) rfl (λ KK hK=>?_);have hb9:=HW.o.blk HBOu.o id;have b1:=hb9.cell (i:=xr) (bools_at (by omega));have z1:=hb9.frozen xr;go_simp;have HBO9:=Hd (show Blk (G.setCell ⟨rb,xr,none⟩ (.bool true)) rb 4 (bools (λ x=>refU pg i x||(P.xs.take (q+1)).any (λ y=>y.2==x)) (Cf.N+1)) from by
       have h:=hb9.set xr (.bool true);rw[bools_set (refU_take HX.o HXR.o)] at h;exact h)
      have HK9:=Hd (show Kept (λ j=>j=rb) U (G.setCell ⟨rb,xr,none⟩ (.bool true)) from(HW.o.mono (T:=λ j=>j=rb) (λ_ h=>h.elim)).setCell (a:=⟨rb,xr,none⟩) (λ_=>rfl) (.bool true));clear hb9 b1 z1;generalize G.setCell ⟨rb,xr,none⟩ (.bool true)=G at *;refine hK.out _ _ (λ h=>absurd rfl h) (λ_=>?_);clear hK KK hH
      try simp only[aP,aA,aZ,aS]
      refine anyE_done (by kernel_rfl) ?_ _;go_wp2;go_roundw
      case rel=>exact⟨q+1,by omega,by go_num,HBO9.o,HKu.o.trans HK9.o kk2⟩
      case measure=>simp[intOf];omega
     ·have hqI:¬ (q:Int)<(n3:Int):=by omega
      obtain hqe:q=n3:=by omega
      have HQE:=Hd hqe;clear hqe;go_wp2;go_roundw
      case rel=>exact⟨i+1,by omega,by go_num,by have e1:=HQE.o;have e2:=HN3.o;have h:=HBOu.o;rw[refU_step,HPP.o];rw[List.take_of_length_le (by omega)] at h;exact h,HKr.o.trans HKu.o kk2⟩
      case measure=>simp[intOf];omega
   ·go_simp
    have hr1:V3.heap.size<=G.heap.size:=HW.o.size;replace HW:=Hd (HW.o.alloc (.cells #[int .i64 0,.slice none 0 0,.string ⟨#[]⟩,.bool false,int .u64 0] 64));have HSL:=Hd (Blk.new G [int .i64 0,.slice none 0 0,.string ⟨#[]⟩,.bool false,int .u64 0] 64)
    try have HRQ:=Hd (show 0<P.xs.length->∀ a,A3=some a->a.block≠G.heap.size from λ hp a ha=>by
     obtain⟨g9,off9,he9,hg9, -⟩:=HR3.o.at hp;rw[ha] at he9;cases he9;exact Nat.ne_of_lt hg9)
    try replace HR3:=Hd (HR3.o.keptF ((Kept.refl (λ_=>False) G).alloc (.cells #[int .i64 0,.slice none 0 0,.string ⟨#[]⟩,.bool false,int .u64 0] 64)) kk2)
    generalize G.heap.size=rq at *;have HR1:=Hd hr1;clear hr1;generalize G.alloc (.cells #[int .i64 0,.slice none 0 0,.string ⟨#[]⟩,.bool false,int .u64 0] 64)=G at *;refine hkO hK HW.o λ h2=>?_;replace hH:=h2;clear hK KK h2
    refine rdH 5 (some 30) rfl λ KK hK=>?_;go_simp;go_at_call 38;have hsz4:=HW.o.size;refine(HPAGE.o _ HW.o).mono ?_;rintro e G ⟨A3,c3,rfl,hR3,hA3,hK3⟩
    try have HRQ:=Hd (show 0<P.xs.length->∀ a,A3=some a->a.block≠rq from λ_ a ha=>by have h1:=hA3 a ha;have h2:=HSL.o.lt;omega)
    try replace HSL:=Hd (hK3.blk HSL.o id)
    replace HW:=Hd (HW.o.trans hK3 kk2);have HR3:=Hd hR3;have HA3:=Hd (show ∀ a,A3=some a->V3.heap.size<=a.block from λ a ha=>Nat.le_trans hsz4 (hA3 a ha));clear hK3 hR3 hA3 hsz4;refine hkO hK HW.o λ h2=>?_;replace hH:=h2;clear hK KK h2
    refine rdH 7 none rfl λ KK hK=>?_;have hs9:=HSL.o;obtain⟨s0,s1,s2,s3,s4⟩:=hs9.c5;have z0:=hs9.frozen 0;have z1:=hs9.frozen 1;have z2:=hs9.frozen 2;have z3:=hs9.frozen 3;have z4:=hs9.frozen 4;clear hs9;go_simp;have hKs5:=(((((Kept.refl (λ i=>i=rq) G).setCell (a:=⟨rq,0,none⟩) (λ_=>rfl) (int .i64 1)).setCell (a:=⟨rq,1,none⟩) (λ_=>rfl) (.slice A3 n3 c3)).setCell (a:=⟨rq,2,none⟩) (λ_=>rfl) (.string hi3)).setCell (a:=⟨rq,3,none⟩) (λ_=>rfl) (.bool la3)).setCell (a:=⟨rq,4,none⟩) (λ_=>rfl) (int .u64 rt3);replace HR3:=Hd (HR3.o.keptP hKs5 (λ hp a ha e=>HRQ.o hp a ha e));replace HW:=Hd ((((((HW.o).setNew HR1.o 0 (int .i64 1)).setNew HR1.o 1 (.slice A3 n3 c3)).setNew HR1.o 2 (.string hi3)).setNew HR1.o 3 (.bool la3)).setNew HR1.o 4 (int .u64 rt3));replace HSL:=Hd ((((((HSL.o).set 0 (int .i64 1)).set 1 (.slice A3 n3 c3)).set 2 (.string hi3)).set 3 (.bool la3)).set 4 (int .u64 rt3));clear hKs5 s0 s1 s2 s3 s4 z0 z1 z2 z3 z4;generalize (((((G).setCell ⟨rq,0,none⟩ (int .i64 1)).setCell ⟨rq,1,none⟩ (.slice A3 n3 c3)).setCell ⟨rq,2,none⟩ (.string hi3)).setCell ⟨rq,3,none⟩ (.bool la3)).setCell ⟨rq,4,none⟩ (int .u64 rt3)=G at *;refine hkO hK HW.o λ h2=>?_;replace hH:=h2;clear hK KK h2
    refine dnH ?_;clear hH;clear HPAGE;have HWz:=Hd HW.o;replace HBr:=Hd (HW.o.blk HBr.o id);replace HVr:=Hd (HW.o.blk HVr.o id);replace HBO:=Hd (HW.o.blk HBO.o id);replace HKr:=Hd (HKr.o.trans HW.o (λ_ _ h=>h.elim));have HVG:=Hd HW.o.size;clear HW;go_wp2_with fail;go_loopw [7] (λ qv wr=>∃ q:Nat,q<=n3/\qv=int .i64 q/\Blk wr rb 4 (bools (λ x=>refU pg i x||(P.xs.take q).any (λ y=>y.2==x)) (Cf.N+1))/\Kept (λ j=>j=rb) G wr) (λ qv _=>n3-(intOf qv).toNat)
    case atStart=>exact⟨0,Nat.zero_le _,rfl,by rw[List.take_zero];simp only[List.any_nil,Bool.or_false];exact HBO.o,Kept.refl _ _⟩
    case round =>
     rename World=>U;obtain⟨q,hq,rfl,hbo,hKu⟩:=hrel;have HRBR:=Hd (show rb≠rq/\rb≠r0 by have h1:=HRB.o;have h2:=HR1.o;have h3:=HRBV.o;omega);have HSu:=Hd (hKu.blk HSL.o (λ e=>HRBR.o.1 e.symm));have HBu:=Hd (hKu.blk HBr.o (λ e=>HRBR.o.2 e.symm));have HBOu:=Hd hbo;have HKu:=Hd hKu;have hs9:=HSu.o;obtain⟨s0,s1,s2,s3,s4⟩:=hs9.c5;clear hs9 hbo hKu
     by_cases hqn:q<n3
     ·obtain⟨x,hx⟩:∃ x,P.xs[q]? = some x:=⟨_,List.getElem?_eq_getElem (by have:=HN3.o;omega)⟩
      have hx2:x.2<=Cf.N:=by
       obtain⟨j,hj,e⟩:=(T.up 0 h1 i him).2 x (by rw[HPP.o];exact List.mem_of_getElem? hx);have:=T.all (L:=0) (by omega) hj;rw[e];show nd 0 j<=_;omega
      obtain⟨g3,o3,rfl,hg3,hc3⟩:=(HR3.o.keptP HKu.o (λ hp a ha e=>by have h1:=HA3.o a ha;have h2:=HRBV.o;have e':a.block=rb:=e;omega)).at (by have:=HN3.o;omega);obtain⟨y0,y1⟩:=hc3 q x hx;have HG3:=Hd (show g3<U.heap.size/\U.cell? ⟨g3,o3+q*2,none⟩=some (.string x.1)/\U.cell? ⟨g3,o3+q*2+1,none⟩=some (int .u64 x.2) from⟨hg3,y0,y1⟩);have hqI:(q:Int)<(n3:Int):=by omega
      have hx2I:¬ (Cf.N:Int)<((x.2:Nat):Int):=by omega
      have hx2J:((x.2:Nat):Int)<(nN:Int):=by omega
      have pW:IntKind.u64.wrap (Cf.N:Int)=(Cf.N:Int):=by rw[IntKind.wrap_u64];omega
      have HX:=Hd hx;obtain⟨xr,hxr⟩:∃ xr:Nat,x.2=xr:=⟨_,rfl⟩;rw[hxr] at hx2I hx2J y1 hx2;have HXR:=Hd hxr;have HG4:=Hd (show U.cell? ⟨g3,o3+q*2+1,none⟩=some (int .u64 xr) from y1);clear hc3 hx y0 y1 hxr;go_upto_region 10 with fail
      clear s0 s1 s2 s3 s4;refine region_E 13 (λ w'=>Kept (λ_=>False) U w') (by kernel_rfl) ?_ (λ hH=>?_)
      ·exact(Kept.refl _ _).drew
      have HW:=Hd ((Kept.refl (λ_=>False) U).drew);generalize U.drew=G at *;refine anyE_take (i:=0) (oi:=⟨some 38,_,_,_,_,_⟩) (v:=?_) rfl (by kernel_rfl) (by kernel_rfl) (by kernel_rfl) (by kernel_rfl) (λ_ _ _ h=>h) (Or.inl ⟨by rfl,?_⟩) hH ?_;rotate_left
      ·(intro wq hSw;go_simp;try with_reducible rfl)
      try simp only[aP,aA,aZ,aS]
      refine anyE_take (i:=1) (oi:=⟨some 39,_,_,_,_,_⟩) (v:=?_) rfl (by kernel_rfl) (by kernel_rfl) (by kernel_rfl) (by kernel_rfl) (λ_ _ _ h=>h) (Or.inl ⟨by rfl,?_⟩) hH ?_;rotate_left
      ·(intro wq hSw;go_simp;try with_reducible rfl)
      try simp only[aP,aA,aZ,aS]
      refine anyE_take (i:=2) (oi:=⟨some 40,_,_,_,_,_⟩) (v:=?_) rfl (by kernel_rfl) (by kernel_rfl) (by kernel_rfl) (by kernel_rfl) (λ_ _ _ h=>h) (Or.inl ⟨by rfl,?_⟩) hH ?_;rotate_left
      ·(intro wq hSw;have hb9:=hSw.blk HSu.o id;have s1:=hb9.k 1 rfl;clear hb9;have hb9:=hSw.blk HBu.o id;have x2:=hb9.k 2 rfl;clear hb9;have y1:=(hSw.cell (p:=⟨g3,o3+q*2+1,none⟩) HG3.o.1 id).trans HG4.o;go_simp;try with_reducible rfl)
      try simp only[aP,aA,aZ,aS]
      refine anyE_take (i:=3) (oi:=⟨some 41,_,_,_,_,_⟩) (v:=?_) rfl (by kernel_rfl) (by kernel_rfl) (by kernel_rfl) (by kernel_rfl) (λ_ _ _ h=>h) (Or.inl ⟨by rfl,?_⟩) hH ?_;rotate_left
      ·(intro wq hSw;go_simp;try with_reducible rfl)
      try simp only[aP,aA,aZ,aS]
      refine anyE_take (i:=4) (oi:=⟨some 42,_,_,_,_,_⟩) (v:=?_) rfl (by kernel_rfl) (by kernel_rfl) (by kernel_rfl) (by kernel_rfl) (λ_ _ _ h=>h) (Or.inl ⟨by rfl,?_⟩) hH ?_;rotate_left
      ·(intro wq hSw;go_simp;try with_reducible rfl)
      try simp only[aP,aA,aZ,aS]
      refine anyE_take (i:=5) (oi:=⟨some 43,_,_,_,_,_⟩) (v:=?_) rfl (by kernel_rfl) (by kernel_rfl) (by kernel_rfl) (by kernel_rfl) (λ_ _ _ h=>h) (Or.inl ⟨by rfl,?_⟩) hH ?_;rotate_left
      ·(intro wq hSw;go_simp;try with_reducible rfl)
      try simp only[aP,aA,aZ,aS]
      refine anyE_take (i:=6) (oi:=⟨some 44,_,_,_,_,_⟩) (v:=?_) rfl (by kernel_rfl) (by kernel_rfl) (by kernel_rfl) (by kernel_rfl) (λ_ _ _ h=>h) (Or.inl ⟨by rfl,?_⟩) hH ?_;rotate_left
      ·(intro wq hSw;have hb9:=hSw.blk HSu.o id;have s1:=hb9.k 1 rfl;clear hb9;have hb9:=hSw.blk HBu.o id;have x2:=hb9.k 2 rfl;clear hb9;have y1:=(hSw.cell (p:=⟨g3,o3+q*2+1,none⟩) HG3.o.1 id).trans HG4.o;go_simp;try with_reducible rfl)
      try simp only[aP,aA,aZ,aS]
      refine anyE_take (i:=7) (oi:=⟨some 45,_,_,_,_,_⟩) (v:=?_) rfl (by kernel_rfl) (by kernel_rfl) (by kernel_rfl) (by kernel_rfl) (λ_ _ _ h=>h) (Or.inl ⟨by rfl,?_⟩) hH ?_;rotate_left
      ·(intro wq hSw;go_simp;try with_reducible rfl)
      try simp only[aP,aA,aZ,aS]
      refine anyE_take (i:=8) (oi:=⟨some 46,_,_,_,_,_⟩) (v:=?_) rfl (by kernel_rfl) (by kernel_rfl) (by kernel_rfl) (by kernel_rfl) (λ_ _ _ h=>h) (Or.inl ⟨by rfl,?_⟩) hH ?_;rotate_left
      ·(intro wq hSw;go_simp;try with_reducible rfl)
      try simp only[aP,aA,aZ,aS]
      refine anyE_take (i:=9) (oi:=⟨some 47,_,_,_,_,_⟩) (v:=?_) rfl (by kernel_rfl) (by kernel_rfl) (by kernel_rfl) (by kernel_rfl) (λ_ _ _ h=>h) (Or.inl ⟨by rfl,?_⟩) hH ?_;rotate_left
      ·(intro wq hSw;have hb9:=hSw.blk HSu.o id;have s1:=hb9.k 1 rfl;clear hb9;have hb9:=hSw.blk HBu.o id;have x2:=hb9.k 2 rfl;clear hb9;have y1:=(hSw.cell (p:=⟨g3,o3+q*2+1,none⟩) HG3.o.1 id).trans HG4.o;go_simp;try with_reducible rfl)
      try simp only[aP,aA,aZ,aS]
      refine anyE_take (i:=10) (oi:=⟨some 48,_,_,_,_,_⟩) (v:=int .u64 Cf.N) rfl (by kernel_rfl) (by kernel_rfl) (by kernel_rfl) (by kernel_rfl) (λ_ _ _ h=>h) (Or.inl ⟨by rfl,?_⟩) hH ?_
      ·(intro wq hSw;go_simp;try first|(with_reducible rfl)|(simp;omega)|(intros;omega)|simp[*])
      try simp only[aP,aA,aZ,aS]
      refine anyE_take (i:=11) (oi:=⟨some 49,_,_,_,_,_⟩) (v:=int .u64 xr) rfl (by kernel_rfl) (by kernel_rfl) (by kernel_rfl) (by kernel_rfl) (λ_ _ _ h=>h) (Or.inl ⟨by rfl,?_⟩) hH ?_
      ·(intro wq hSw;go_simp;try first|(with_reducible rfl)|(simp;omega)|(intros;omega)|simp[*])
      try simp only[aP,aA,aZ,aS]
      refine anyE_take (i:=12) (oi:=⟨some 50,_,_,_,_,_⟩) (v:=.pointer (some ⟨rb,xr,none⟩)) rfl (by kernel_rfl) (by kernel_rfl) (by kernel_rfl) (by kernel_rfl) (λ_ _ _ h=>h) (Or.inl ⟨by rfl,?_⟩) hH ?_
      ·(intro wq hSw;go_simp;try first|(with_reducible rfl)|(simp;omega)|(intros;omega)|simp[*])
      try simp only[aP,aA,aZ,aS]
      refine anyE_ready (i:=13) (o:=⟨none,_,_,_,_,_⟩) (by kernel_rfl) rfl (λ KK hK=>?_);have hb9:=HW.o.blk HBOu.o id;have b1:=hb9.cell (i:=xr) (bools_at (by omega));have z1:=hb9.frozen xr;go_simp;have HBO9:=Hd (show Blk (G.setCell ⟨rb,xr,none⟩ (.bool true)) rb 4 (bools (λ x=>refU pg i x||(P.xs.take (q+1)).any (λ y=>y.2==x)) (Cf.N+1)) from by
       have h:=hb9.set xr (.bool true);rw[bools_set (refU_take HX.o HXR.o)] at h;exact h)
      have HK9:=Hd (show Kept (λ j=>j=rb) U (G.setCell ⟨rb,xr,none⟩ (.bool true)) from(HW.o.mono (T:=λ j=>j=rb) (λ_ h=>h.elim)).setCell (a:=⟨rb,xr,none⟩) (λ_=>rfl) (.bool true));clear hb9 b1 z1;generalize G.setCell ⟨rb,xr,none⟩ (.bool true)=G at *;refine hK.out _ _ (λ h=>absurd rfl h) (λ_=>?_);clear hK KK hH
      try simp only[aP,aA,aZ,aS]
      refine anyE_done (by kernel_rfl) ?_ _;go_wp2;go_roundw
      case rel=>exact⟨q+1,by omega,by go_num,HBO9.o,HKu.o.trans HK9.o kk2⟩
      case measure=>simp[intOf];omega
     ·have hqI:¬ (q:Int)<(n3:Int):=by omega
      obtain hqe:q=n3:=by omega
      have HQE:=Hd hqe;clear hqe;go_wp2;go_roundw
      case rel=>exact⟨i+1,by omega,by go_num,by have e1:=HQE.o;have e2:=HN3.o;have h:=HBOu.o;rw[refU_step,HPP.o];rw[List.take_of_length_le (by omega)] at h;exact h,HKr.o.trans HKu.o kk2⟩
      case measure=>simp[intOf];omega
  ·have himI:¬ (i:Int)<(m1:Int):=by omega
   obtain rfl:i=m1:=by omega
   replace HKr:=Hd (HKz.o.trans HKr.o (λ j h e=>by have h1:=HRB.o;have h2:=HR0.o;have e':j=rb:=e;omega));obtain⟨x0,x1,x2,x3,x4,x5,x6,x7⟩:=(HBr.o).c8;obtain⟨m0,hm0⟩:∃ m0,mm 0=m0:=⟨_,rfl⟩;have hmp:=(T.lev 0 h0).pos;have hmt:=(T.lev 0 h0).top;have HM0:=Hd hm0;rw[hm0] at hmp hmt;clear hm0;go_wp2_with fail;refine(vlevel_inG F h4 h6 g n l hl H kk nd mm lo pg T 0 h0 _ HVr.o).mono ?_;rintro e Z2 ⟨AL,cL,rfl,hAL,hK9⟩;obtain⟨gM,oM,rfl,hgM, -,hcM⟩:=hAL (by have:=HM0.o;omega);have HBz:=Hd (hK9.blk HBr.o id);have HVz:=Hd (hK9.blk HVr.o id);have HBOz:=Hd (hK9.blk HBO.o id);have HKz:=Hd (HKr.o.trans hK9 (λ_ _ h=>h.elim));have HCLz:=Hd (show ∀ i,i<m0->Z2.cell? ⟨gM,oM+i,none⟩=some (int .u64 ((nd 0 i:Nat):Int)) from λ i hi=>hcM i _ (idsG_at (by rw[HM0.o];exact hi)));rw[HM0.o];clear hAL hcM hK9 x0 x1 x2 x3 x4 x5 x6 x7;go_wp2_with fail;go_loopw [8,10,11] (λ tv sv iv wr=>∃ i:Nat,∃ lw:ByteArray,i<=m0/\iv=int .i64 i/\sv=.string lw/\(i<m0->lw=lo 0 i)/\slLen tv=(tskL H mm lo nd pg i).length/\wr.ownsRow Z2.heap.size 41 2 tv (tskL H mm lo nd pg i).length (flat (tskL H mm lo nd pg i))/\Below Z2.heap.size Z2 wr) (λ_ _ iv _=>m0-(intOf iv).toNat)
   case atStart=>exact⟨0,⟨#[]⟩,Nat.zero_le _,rfl,rfl,λ_=>(T.lev 0 h0).low0.symm,rfl,World.ownsRow_nil _ _ _ _,Below.refl _ _⟩
   case round =>
    rename World=>V3;obtain⟨i,lw,him0,rfl,rfl,hlw,hsl,hO,hBl⟩:=hrel;have HLW:=Hd hlw;have HO:=Hd hO;have HBl:=Hd hBl;have hzr:=hBl.size;obtain⟨tl,htl⟩:∃ tl,(tskL H mm lo nd pg i).length=tl:=⟨_,rfl⟩;have htl5:tl<=300:=by rw[←htl];have:=tskL_len (H:=H) (mm:=mm) (lo:=lo) (nd:=nd) (pg:=pg) i;omega
    rw[htl] at hsl hO;obtain⟨AT,cT,rfl⟩:=own_slc hO;have HTL:=Hd htl;have HSLT:=Hd hsl;replace HO:=Hd (show V3.ownsRow Z2.heap.size 41 2 (.slice AT tl cT) tl (flat (tskL H mm lo nd pg i)) from hO);have HBr:=Hd (HBz.o.below hBl HBz.o.lt);have HVr:=Hd (HVz.o.below hBl HVz.o.lt);have HBOr:=Hd (HBOz.o.below hBl HBOz.o.lt);have hgLr:gM<V3.heap.size:=Nat.lt_of_lt_of_le hgM hzr;clear hO hBl hlw hsl htl
    by_cases himm:i<m0
    ·have him:i<mm 0:=by rw[HM0.o];exact himm
     have hlwe:=HLW.o himm;have hndt:=T.all (L:=0) h0 him;obtain⟨nid,hnid⟩:∃ nid,nd 0 i=nid:=⟨_,rfl⟩;obtain⟨P,hP⟩:∃ P,pg 0 i=P:=⟨_,rfl⟩;obtain⟨la3,hla3⟩:∃ x,P.la=x:=⟨_,rfl⟩;obtain⟨hi3,hhi3⟩:∃ x,P.hi=x:=⟨_,rfl⟩;obtain⟨n3,hn3⟩:∃ x,P.xs.length=x:=⟨_,rfl⟩;obtain⟨rt3,hrt3⟩:∃ x,P.rt=x:=⟨_,rfl⟩;have HPP:=Hd hP;have HN3:=Hd hn3;have HH3:=Hd hhi3;have HNID:=Hd hnid;have HLA3:=Hd hla3;have HRT3:=Hd hrt3;have hn3b:n3<=6:=by rw[←hn3, ←hP];have:=((T.lev 0 h0).nd i him).len;omega
     have HPAGE:=Hd (show ∀ W',Kept (λ_=>False) V3 W'->Calls prog 38 #[.agg #[int .i64 1,int .i64 2,int .i64 Cf.N,int .i64 Cf.C,int .i64 Cf.R,int .i64 F,int .u64 Cf.K,.slice (some ⟨g,0,none⟩) n n],int .u64 nid] W' λ e w'=>∃(A:Option Addr) (c:Nat),e=.returned (.agg #[int .i64 0,.slice A n3 c,.string hi3,.bool la3,int .u64 rt3])/\Rs w' A c P.xs/\(∀ a,A=some a->W'.heap.size<=a.block)/\Kept (λ_=>False) W' w' from λ W' hW=>by
      refine(tpage_anyG F h4 h6 g n l hl H kk nd mm lo pg T 0 i nid h0 him hnid.symm 0 rfl W' (hW.blk HVr.o id)).mono ?_;rintro e w' ⟨A,c,rfl,hr,ha,hk⟩;rw[hP] at hr ⊢;rw[hhi3,hla3,hn3,hrt3];exact⟨A,c,rfl,hr,ha,hk⟩)
     have hnN:nid<=Cf.N:=by rw[←hnid];omega
     have hcl:=HCLz.o i himm;rw[hnid] at hcl;have HCL:=Hd ((HBl.o.cell (p:=⟨gM,oM+i,none⟩) hgM).trans hcl);have himI:(i:Int)<(m0:Int):=by omega
     have hnI:(nid:Int)<(Cf.N:Int)+1:=by omega
     have HLWE:=Hd hlwe;clear hcl hnid hP hla3 hhi3 hn3 hrt3 hlwe hndt;go_upto_region 17 with fail
     have hcl:=HCL.o;have hb9:=HBOr.o;have b1:=hb9.cell (i:=nid) (bools_at (by omega));rw[←HRF.o nid] at b1;clear hb9;go_cut [70] from 59 to 70 (λ v wx=>v=.bool (decide (0<i/\ref1 H mm pg nid=false))/\wx=V3)
     case first =>
      by_cases hi0:0<i
      ·have d1:(0:Int)<(i:Int):=by omega
       cases hrf:ref1 H mm pg nid with
       | true=>rw[hrf] at b1;go_wp2;go_meet;exact⟨by simp[hrf],rfl⟩
       | false=>rw[hrf] at b1;go_wp2;go_meet;exact⟨by simp[hi0,hrf],rfl⟩
      ·have d1:¬ (0:Int)<(i:Int):=by omega
       go_wp2;go_meet;exact⟨by simp[hi0],rfl⟩
     case rest =>
      obtain⟨rfl,rfl⟩:=hcut;rename World=>V3;clear b1;go_upto_if 70 with fail
      go_cut [8] from 70 to 79 (λ tv2 wx=>slLen tv2=(tskL H mm lo nd pg (i+1)).length/\wx.ownsRow Z2.heap.size 41 2 tv2 (tskL H mm lo nd pg (i+1)).length (flat (tskL H mm lo nd pg (i+1)))/\Below Z2.heap.size Z2 wx)
      case first =>
       by_cases hc:0<i/\ref1 H mm pg nid=false
       ·have e1:decide (0<i/\ref1 H mm pg nid=false)=true:=by simp[hc]
        rw[e1];have hts:tskL H mm lo nd pg (i+1)=tskL H mm lo nd pg i++[(lw,nid)]:=by
         show (if _ then _ else _:List Sl)=_;rw[HNID.o,if_pos hc,HLWE.o]
        have HTS:=Hd hts;have hcl:=HCL.o;have hown:=HO.o;clear hts e1;go_wp2_with (at_builtin;go_must (refine wpList_append_lies _ rfl (.tmp 71) (.tmp 78) 38 rfl Z2.heap.size 41 i0 _ 2 24 Tryz.underlying38 HI0.o HI1.o HI2.o HI3.o rfl (by decide) _ _ _ rfl (hown.alloc _) ⟨V3.heap.size,0,none⟩ 1 1 [.string lw,int .u64 nid] rfl rfl ?a1 ?b1 (by omega) ?c1 ?d1 ?e1 _ rfl ?_))
        try case a1 =>
         intro q' u hu
         match q',hu with
         | 0,hu=>simp at hu;subst hu;simp[Addr.add]
         | 1,hu=>simp at hu;subst hu;simp[Addr.add]
         | q'+2,hu=>simp at hu
        case b1=>first|exact rfl|exact⟨rfl,rfl⟩|(intro u hu;simp at hu;rcases hu with rfl|rfl<;>rfl)
        case c1=>unfold maxLen;omega
        case d1=>omega
        case e1=>first|omega|(simp;omega)
        intro g1 cap1 we hown1 hgr1 hat1 hlt1;have hal:=(Below.refl V3.heap.size V3).alloc (Nat.le_refl _) (.cells #[.string lw,int .u64 nid] 41);have hBe:=Below.grown (hal.mono hzr) hgr1 (by rw[nblk_alloc];omega) λ q hq=>(hown.lt q hq).1;have HBn:=Hd (HBl.o.trans hBe);have HOn:=Hd (show we.ownsRow Z2.heap.size 41 2 (.slice (some ⟨g1,0,none⟩) (tl+1) cap1) (tskL H mm lo nd pg (i+1)).length (flat (tskL H mm lo nd pg (i+1))) from by
         rw[HTS.o,List.length_append,HTL.o,flat_append];exact hown1)
        clear hal hown1 hgr1 hown hBe hat1 hlt1 hcl;go_wp2;go_meet;exact⟨by rw[HTS.o,List.length_append,HTL.o];rfl,HOn.o,HBn.o⟩
       ·have e1:decide (0<i/\ref1 H mm pg nid=false)=false:=by simp[hc]
        rw[e1];have HTS:=Hd (show tskL H mm lo nd pg (i+1)=tskL H mm lo nd pg i from by
         show (if _ then _ else _:List Sl)=_;rw[HNID.o,if_neg hc])
        go_wp2;go_meet;exact⟨by rw[HTS.o,HTL.o];exact HSLT.o,by rw[HTS.o,HTL.o];exact HO.o,HBl.o⟩
      case rest =>
       obtain⟨hsl2,hO2,hBl2⟩:=hcut;rename World=>V4;have HSL2:=Hd hsl2;have HO2:=Hd hO2;have HBl2:=Hd hBl2;have HBr2:=Hd (HBz.o.below hBl2 HBz.o.lt);have HVr2:=Hd (HVz.o.below hBl2 HVz.o.lt);have hcl2:=(hBl2.cell (p:=⟨gM,oM+i,none⟩) hgM).trans (HCLz.o i himm);rw[HNID.o] at hcl2;have hgL2:gM<V4.heap.size:=Nat.lt_of_lt_of_le hgM hBl2.size;have HCL2:=Hd hcl2;clear hsl2 hO2 hBl2 hcl2 HPAGE;have HPAGE:=Hd (show ∀ W',Kept (λ_=>False) V4 W'->Calls prog 38 #[.agg #[int .i64 1,int .i64 2,int .i64 Cf.N,int .i64 Cf.C,int .i64 Cf.R,int .i64 F,int .u64 Cf.K,.slice (some ⟨g,0,none⟩) n n],int .u64 nid] W' λ e w'=>∃(A:Option Addr) (c:Nat),e=.returned (.agg #[int .i64 0,.slice A n3 c,.string hi3,.bool la3,int .u64 rt3])/\Kept (λ_=>False) W' w' from λ W' hW=>by
        refine(tpage_anyG F h4 h6 g n l hl H kk nd mm lo pg T 0 i nid h0 him HNID.o.symm 0 rfl W' (hW.blk HVr2.o id)).mono ?_;rintro e w' ⟨A,c,rfl,hr,ha,hk⟩;have e1:=HPP.o;have e2:=HH3.o;have e3:=HN3.o;have e4:=HLA3.o;have e5:=HRT3.o;rw[e1,e2,e3,e4,e5];exact⟨A,c,rfl,hk⟩)
       go_upto_region 19 with fail
       refine wp_region_held_drew (S:=(λ w'=>Kept (λ_=>False) V4 w')) (by kernel_rfl) ?_ (λ hH=>?_)
       ·exact(Kept.refl _ _).drew
       have HW:=Hd ((Kept.refl (λ_=>False) V4).drew);generalize V4.drew=G at *;refine tkI 0 80 hH ?_ (hv:=by intro wq hSw;have y0:=(hSw.blk HBr2.o id).c8;have hc9:=(hSw.cell (p:=⟨gM,oM+i,none⟩) hgL2 id).trans HCL2.o;exact qq1);refine tkI 1 81 hH ?_;refine tkI 2 82 hH ?_;refine tkI 3 83 hH ?_;refine tkI 4 84 hH ?_ (hv:=by intro wq hSw;have y0:=(hSw.blk HBr2.o id).c8;have hc9:=(hSw.cell (p:=⟨gM,oM+i,none⟩) hgL2 id).trans HCL2.o;exact qq1);refine rdH 5 (some 85) rfl λ KK hK=>?_;go_simp;go_at_call 38;refine(HPAGE.o _ HW.o).mono ?_;rintro e G ⟨A3,c3,rfl,hK3⟩;replace HW:=Hd (HW.o.trans hK3 kk2);have hpf:=pfieldH 0 A3 n3 c3 hi3 la3 (rt3:Int);clear hK3;refine hkO hK HW.o λ h2=>?_;replace hH:=h2;clear hK KK h2
       refine tkI 6 86 hH ?_;refine tkI 7 10 hH ?_;refine dnH ?_;clear hH;have HBn:=Hd (HBl2.o.trans ((HW.o.below (Nat.le_refl _) (λ_ h=>h.elim)).mono (HBl2.o.size)));have HOn:=Hd (own_kept HO2.o HW.o kk2);clear HW HPAGE;go_wp2;go_roundw
       case rel=>exact⟨i+1,hi3,by omega,by go_num,rfl,λ h=>by have h9:=((T.lev 0 h0).next i (by have:=HM0.o;omega)).2.2;rw[HPP.o,HH3.o] at h9;exact h9,HSL2.o,HOn.o,HBn.o⟩
       case measure=>simp[intOf];omega
    ·have himI:¬ (i:Int)<(m0:Int):=by omega
     have hie:i=m0:=by omega
     have HIE:=Hd (show tskL H mm lo nd pg i=tskL H mm lo nd pg (mm 0) by rw[HM0.o,hie]);clear hie;go_wp2;go_ret;refine⟨_,rfl,?_,?_⟩
     ·have h:=HO.o
      rw[HIE.o] at h;have e1:=HTL.o;rw[HIE.o] at e1;rw[e1];exact own_down h (by have h1:=HKz.o.size;have h2:=HR0.o;omega)
     ·exact(HKz.o.below (Nat.le_refl _) (λ i h=>by exact h.elim)).trans (HBl.o.mono (by have h1:=HKz.o.size;omega))

end
end Go.Proofs.YtlkgmnjceghpiaaGreat
