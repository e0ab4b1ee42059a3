/-
 A Post alone on a tree: it grows by a root;it enters a leaf without a node more,or finds that no node is left;how many leaves are missing then. Condition: a fanout of four to six;no program is spoken of.
-/
import Derived.Test.YtlkgmnjceghpiaaGreatPoTr
import Derived.Test.YtlkgmnjceghpiaaGreatPoAl
import Derived.Test.YtlkgmnjceghpiaaGreatPoTsk
namespace Go.Proofs.YtlkgmnjceghpiaaGreat
open Go.RowKit Go.Deep Plain
set_option linter.unusedSectionVars false
set_option linter.unusedVariables false
section
variable [Cf]
section
variable {F n kk k5 H:Nat} {nd:Nat->Nat->Nat} {mm:Nat->Nat} {lo:Nat->Nat->ByteArray} {pg:Nat->Nat->Pg} {l l':List Cel} {key:ByteArray} {ref:Nat} {fb fd:Int}
theorem TS.near(h:TS F n kk k5 H nd mm lo pg l)(h6:F<=6)(key:ByteArray)(lvl:Nat)(hl:lvl<H):∃ d j,j<mm lvl/\FWs F key lvl l (d+1) (nd lvl j) .root/\d<=(smG mm H-smG mm lvl)*11/\kl key (lo lvl j)=false/\cov (pg lvl j) key=true:=by
 have h1:=h.tr.H1;have V:=h.tr.lev (H-1) (by omega);have ho:=h.tr.one;have he:smG mm H=smG mm (H-1)+mm (H-1):=by
  obtain⟨h,rfl⟩:∃ h,H=h+1:=⟨H-1,by omega⟩
  rfl
 have hb:=sm_mono (mm:=mm) (a:=lvl) (L:=H-1) (by omega);obtain⟨d,j,hj,hp,hd,h2,h3⟩:=h.tr.find key lvl hl (smG mm H-smG mm lvl) (H-1) 0 (by omega) (by omega) (by omega) (by rw[V.low0];exact kl_nil _) (by omega);exact⟨d,j,hj,.root h.tr.root hp,Nat.le_trans hd (Nat.mul_le_mul_left _ (by omega)),h2,h3⟩
theorem TS.away(h:TS F n kk k5 H nd mm lo pg l)(key:ByteArray)(lvl:Nat)(hl:H<=lvl):∃ d,FWs F key lvl l (d+1) 0 .root/\d<=F+5:=by
 have h1:=h.tr.H1;have V:=h.tr.lev (H-1) (by omega);have ho:=h.tr.one;have hnd:=V.nd 0 (by omega);have hlv:=V.lv 0 (by omega);have hlen:=hnd.len;exact⟨(pg (H-1) 0).xs.length+5,.root h.tr.root (WPath.none (lo:=⟨#[]⟩) hnd (by unfold nxF;rw[if_pos (by omega)])),by omega⟩
theorem TS.gok(h:TS F n kk k5 H nd mm lo pg l)(h4:4<=F)(h6:F<=6){lv:Nat}(hl:H<=lv)(hlv:lv<9223372036854775808):Gok F l lv (nd (H-1) 0) 0 kk:=by
 have h1:=h.tr.H1;have ho:=h.tr.one;have hn:=h.num (L:=H-1) (i:=0) (by omega) (by omega);have hd:=(h.tr.lev (H-1) (by omega)).nd 0 (by omega);have hll:=(h.tr.lev (H-1) (by omega)).lv 0 (by omega);have hNF:=(limF (F:=F) h4 h6).nf;have hN1:=Cf.n1;have hN2:=Cf.n2;have hk:=h.tr.k100;have hroom:=h.room;have hlen:=h.len;refine⟨h.rest.1 7 (by omega),rfl,by omega,h.tr.root,h.tr.tot,by omega,hn,⟨_,_,(pg (H-1) 0).lv,hd.holds 0 (by omega),by omega⟩,hlv,by omega⟩
theorem TS.growF(h:TS F n kk k5 H nd mm lo pg l)(h4:4<=F)(h6:F<=6)(hv:¬ kk<Cf.N){lv root:Nat}:TS F n kk k5 H nd mm lo pg (glE F l 0 kk lv root):=by
 have hNF:=(limF (F:=F) h4 h6).nf;have hroom:=h.room;have hlen:=h.len;have hall:∀ i:Int,cellAt (glE F l 0 kk lv root) i=cellAt l i:=λ i=>by
  unfold glE;rw[if_neg hv];unfold gl8 gl7
  by_cases e:i=7
  ·subst e
   rw[cellAt_same (by rw[putAt_length];omega)];have:=h.rest.1 7 (by omega);rw[this];rfl
  ·rw[cellAt_other (Ne.symm e),cellAt_other (Ne.symm e)]
 refine h.like h4 h6 ?_ ?_ (λ t h1 h2=>by rw[hall];exact h.lat t h1 h2) (λ i _=>hall i)
 ·unfold glE;rw[if_neg hv];unfold gl8 gl7;rw[putAt_length,putAt_length];exact hlen
 ·intro i;rw[hall];exact h.nats i
theorem gss_app(F Nv lv root:Nat)(l:List Cel):app l (gss F Nv lv root)=putAt (app l (pst (nad F (Nv+1)) (gpg lv root))) (nla F (Nv+1)) (1,⟨#[]⟩,0):=by
 unfold gss gfrs;exact app_snoc _ _ _
theorem TS.grow(h:TS F n kk k5 H nd mm lo pg l)(h4:4<=F)(h6:F<=6)(hv:kk<Cf.N) :
  TS F n (kk+1) k5 (H+1) (upd nd H (λ_=>kk+1)) (upd mm H 1) (upd lo H (λ_=>⟨#[]⟩)) (upd pg H (λ_=>gpg H (nd (H-1) 0))) (glE F l 0 kk H (nd (H-1) 0)):=by
 have hH1:=h.tr.H1;have hH2:=h.tr.H100;have hN2:=Cf.n2;have hone:=h.tr.one;have hNF:=(limF (F:=F) h4 h6).nf;have hroom:=h.room;have hlen:=h.len;have hk:=h.tr.k100;have hrn:=h.num (L:=H-1) (i:=0) (by omega) (by omega);obtain⟨root,hroot⟩:∃ root,nd (H-1) 0=root:=⟨_,rfl⟩;rw[hroot] at hrn;rw[hroot];obtain⟨num,hnum⟩:∃ num,kk+1=num:=⟨_,rfl⟩;have hn1:1<=num:=by omega
 have hn2:num<=Cf.N:=by omega
 have ha:Ads F (nla F num) (nad F num) n:=ads_of h4 h6 hn1 hn2 h.room;have had:∀ r,r<F+3->nad F num r=nla F num+1+(r:Int):=λ r hr=>nad_eq hn1 hn2 hr;have hrg:=nla_rng h4 h6 hn1 hn2;have hgl:(gpg H root).xs.length=1:=rfl;obtain⟨l2,hl2⟩:∃ l2,glE F l 0 kk H root=l2:=⟨_,rfl⟩;have e2:l2=putAt (putAt (putAt (putAt (app (putAt (putAt l 7 (((lockW 0:Nat):Int),⟨#[]⟩,0)) 4 ((num:Int),⟨#[]⟩,0)) (pst (nad F num) (gpg H root))) (nla F num) (1,⟨#[]⟩,0)) (nla F num) (((unlockW 1:Nat):Int),⟨#[]⟩,0)) 0 ((num:Int),⟨#[]⟩,0)) 7 (((unlockW (lockW 0):Nat):Int),⟨#[]⟩,0):=by
  rw[←hl2];unfold glE;rw[if_pos hv];unfold gl8 glr glu;rw[gss_app];unfold gl4 gl7;rw[hnum]
 rw[hl2];have hlen2:l2.length=n:=by rw[e2,putAt_length,putAt_length,putAt_length,putAt_length,app_length,putAt_length,putAt_length];exact hlen
 have hx:∀ i:Int,i≠0->i≠4->(∀ q:Nat,q<F+4->i≠nla F num+(q:Int))->cellAt l2 i=cellAt l i:=λ i h0 h4' hq=>by
  have hq0:=hq 0 (by omega);have hfar:cellAt (app (putAt (putAt l 7 (((lockW 0:Nat):Int),⟨#[]⟩,0)) 4 ((num:Int),⟨#[]⟩,0)) (pst (nad F num) (gpg H root))) i=cellAt (putAt (putAt l 7 (((lockW 0:Nat):Int),⟨#[]⟩,0)) 4 ((num:Int),⟨#[]⟩,0)) i:=pst_farR λ r hr=>by
   have h1:=had r (by omega);have h2:=hq (r+1) (by omega);omega
  rw[e2]
  by_cases e:i=7
  ·subst e
   rw[cellAt_same (by rw[putAt_length,putAt_length,putAt_length,app_length,putAt_length,putAt_length];omega)];rw[h.rest.1 7 (by omega)];rfl
  ·rw[cellAt_other (Ne.symm e),cellAt_other (Ne.symm h0),cellAt_other (by omega),cellAt_other (by omega),hfar,cellAt_other (Ne.symm h4'),cellAt_other (Ne.symm e)]
 have hc0:cellAt l2 0=((num:Int),⟨#[]⟩,0):=by
  rw[e2,cellAt_other (by omega),cellAt_same (by rw[putAt_length,putAt_length,app_length,putAt_length,putAt_length];omega)]
 have hc4:cellAt l2 4=((num:Int),⟨#[]⟩,0):=by
  rw[e2,cellAt_other (by omega),cellAt_other (by omega),cellAt_other (by omega),cellAt_other (by omega)];rw[pst_farR (λ r hr=>by have h1:=had r (by omega);omega),cellAt_same (by rw[putAt_length];omega)]
 have hcl:cellAt l2 (nla F num)=(((unlockW 1:Nat):Int),⟨#[]⟩,0):=by
  rw[e2,cellAt_other (by omega),cellAt_other (by omega),cellAt_same (by rw[putAt_length,app_length,putAt_length,putAt_length,hlen];exact ha.lat)]
 have hcP:Holds (nad F num) l2 (gpg H root):=λ r hr=>by
  have hr':r<4:=hr;have h1:=had r (by omega);rw[e2,cellAt_other (by omega),cellAt_other (by omega),cellAt_other (by omega),cellAt_other (by omega)];exact pst_holdsR ha (by rw[putAt_length,putAt_length];exact hlen) (by omega) r hr
 have hfit:Fits (gpg H root):=⟨by show H<_;omega,by show 0<18446744073709551616;omega,λ x hx=>by
  have:x∈[((⟨#[]⟩:ByteArray),root)]:=hx;rw[List.mem_singleton.1 this];show root<_;omega,by show 1<_;omega⟩
 have hN2':Nats l2:=by
  have hn7:NatCell (((lockW 0:Nat):Int),⟨#[]⟩,0):=⟨lockW 0,0,_,rfl,lockW_lt (by omega),by omega⟩;have hnn:NatCell ((num:Int),⟨#[]⟩,0):=⟨num,0,_,rfl,by omega,by omega⟩;rw[e2];refine((((((h.nats.put 7 hn7).put 4 hnn).app (λ s hs=>?_)).put _ ⟨1,0,_,rfl,by omega,by omega⟩).put _ ⟨unlockW 1,0,_,rfl,unlockW_lt (by omega),by omega⟩).put 0 hnn).put 7 ⟨unlockW (lockW 0),0,_,rfl,unlockW_lt (lockW_lt (by omega)),by omega⟩;obtain⟨r,hr,rfl⟩:=pst_addr hs;exact hfit.nat r
 have hnn:∀ L i,L<H->i<mm L->nd L i≠num:=λ L i hL hi=>by have:=(h.tr.lev L hL).num i hi;omega
 have hlat:∀ t,1<=t->t<=Cf.N->∃ wd:Nat,wd%4=0/\cellAt l2 (nla F t)=((wd:Int),(⟨#[]⟩:ByteArray),(0:Int)):=λ t h1 h2=>by
  by_cases e:t=num
  ·subst e;exact⟨unlockW 1,by decide,hcl⟩
  ·have hr:=nla_rng h4 h6 h1 h2
   rw[hx _ (by omega) (by omega) (far_node (r:=0) h4 h6 hn1 hn2 h1 h2 e (by omega)).2];exact h.lat t h1 h2
 have hctr:∀ i:Int,(i<10\/10+((Cf.N:Int)*(F:Int)+(Cf.N:Int)*4)<=i)->i≠0->i≠4->cellAt l2 i=cellAt l i:=λ i hi h0 h4'=>hx i h0 h4' (far_ctr h4 h6 hn1 hn2 hi);have hlo:∀ L,L<H->upd lo H (λ_=>(⟨#[]⟩:ByteArray)) L=lo L:=λ L hL=>upd_ne _ _ (by omega);have hpg:∀ L,L<H->upd pg H (λ_=>gpg H root) L=pg L:=λ L hL=>upd_ne _ _ (by omega);have hnd:∀ L,L<H->upd nd H (λ_=>num) L=nd L:=λ L hL=>upd_ne _ _ (by omega);have hmm:∀ L,L<H->upd mm H 1 L=mm L:=λ L hL=>upd_ne _ _ (by omega);have hsm:∀ L,L<=H->smG (upd mm H 1) L=smG mm L:=by
  intro L
  induction L with
  | zero=>intro _;rfl
  | succ L ih =>
   intro hL;show smG (upd mm H 1) L+upd mm H 1 L=smG mm L+mm L;rw[ih (by omega),hmm L (by omega)]
 rw[hnum];refine⟨⟨by omega,by omega,λ L hL=>?_,λ L hL i hi=>?_,?_,by rw[Nat.add_sub_cancel,upd_at];omega,?_,hc4⟩,hlen2,h.room,hN2',hlat,⟨λ i hi=>(hctr i (by omega) (by omega) (by omega)).trans (h.rest.1 i hi),(hctr 5 (.inl (by omega)) (by omega) (by omega)).trans h.rest.2⟩,λ L i hL hi=>?_,λ L i hL hi x hx'=>?_⟩
 ·by_cases e:L=H
  ·subst e
   rw[upd_at,upd_at,upd_at,upd_at];refine⟨by omega,by omega,λ i hi=>by omega,λ i j hi hj _=>by omega,λ i hi=>⟨by omega,hcP,⟨_,by rw[hcl],by decide⟩,λ_=>rfl,by omega,?_⟩,λ i hi=>rfl,rfl,λ i hi=>by omega,λ i hi=>by omega,λ i hi=>⟨rfl,rfl⟩⟩;show Asc [((⟨#[]⟩:ByteArray),root)];simp[Asc]
  ·have hL':L<H:=by omega
   rw[hnd L hL',hmm L hL',hlo L hL',hpg L hL'];have V:=h.tr.lev L hL';refine⟨V.pos,V.top,λ i hi=>by have:=V.num i hi;omega,V.inj,λ i hi=>?_,V.lv,V.low0,V.next,V.asc,V.last⟩;have hn:=h.num hL' hi;have hd:=V.nd i hi;have hdl:=hd.len;refine hd.to (λ r hr=>?_) (hlat _ hn.1 hn.2);have hnr:=nad_eq (F:=F) hn.1 hn.2 (r:=r) (by omega);have hnr2:=nla_rng h4 h6 hn.1 hn.2;exact hx _ (by omega) (by omega) (far_node h4 h6 hn1 hn2 hn.1 hn.2 (hnn L i hL' hi) (by omega)).1
 ·by_cases e:L+1=H
  ·subst e
   rw[upd_at,upd_at] at *;have hL':L<L+1:=by omega
   rw[hlo L hL',hmm L hL',hnd L hL'];rw[Nat.add_sub_cancel] at hroot hone;refine⟨⟨root,rfl⟩,λ x hx'=>⟨0,by omega,?_⟩⟩;have:x∈[((⟨#[]⟩:ByteArray),root)]:=hx';rw[List.mem_singleton.1 this,(h.tr.lev L hL').low0,hroot]
  ·have hL':L<H:=by omega
   have hL2:L+1<H:=by omega
   rw[hmm _ hL2] at hi;rw[hpg _ hL2,hlo _ hL2,hmm _ hL',hlo _ hL',hnd _ hL'];exact h.tr.up L hL2 i hi
 ·show smG (upd mm H 1) H+upd mm H 1 H<=num
  rw[hsm H (by omega),upd_at];have:=h.tr.sum;omega
 ·rw[Nat.add_sub_cancel,upd_at];exact hc0
 ·by_cases e:L=H
  ·subst e;rw[upd_at];exact hfit
  ·rw[hmm L (by omega)] at hi
   rw[hpg L (by omega)];exact h.fits L i (by omega) hi
 ·by_cases e:L=H
  ·subst e;rw[upd_at];rfl
  ·rw[hmm L (by omega)] at hi
   rw[hpg L (by omega)] at hx' ⊢;exact h.hi L i (by omega) hi x hx'
theorem ref1_iff{x:Nat}:ref1 H mm pg x=true↔1<H/\∃ i,i<mm 1/\∃ y∈(pg 1 i).xs,y.2=x:=by
 unfold ref1 refU
 by_cases h1:1<H
 ·rw[if_pos h1,List.any_eq_true]
  constructor
  ·rintro⟨i,hi,h⟩
   obtain⟨y,hy,e⟩:=List.any_eq_true.1 h;exact⟨h1,i,List.mem_range.1 hi,y,hy,by simpa using e⟩
  ·rintro⟨-,i,hi,y,hy,e⟩
   exact⟨i,List.mem_range.2 hi,List.any_eq_true.2 ⟨y,hy,by simpa using e⟩⟩
 ·rw[if_neg h1]
  constructor
  ·intro h;simp at h
  ·rintro⟨h, -⟩;exact absurd h h1
theorem tskL_mem:∀{m r:Nat} {x:Sl},(tskL H mm lo nd pg m)[r]? = some x->∃ j,0<j/\j<m/\ref1 H mm pg (nd 0 j)=false/\x=(lo 0 j,nd 0 j)
 | 0,r,x,h=>by cases h
 | m+1,r,x,h=>by
  have e:tskL H mm lo nd pg (m+1)=if 0<m/\ref1 H mm pg (nd 0 m)=false then tskL H mm lo nd pg m++[(lo 0 m,nd 0 m)] else tskL H mm lo nd pg m:=rfl
  rw[e] at h
  split at h
  ·rename_i hc
   rcases Nat.lt_or_ge r (tskL H mm lo nd pg m).length with h1|h1
   ·rw[List.getElem?_append_left h1] at h
    obtain⟨j,a,b,c,d⟩:=tskL_mem h;exact⟨j,a,by omega,c,d⟩
   ·rw[List.getElem?_append_right h1] at h
    have h2:=(List.getElem?_eq_some_iff.1 h).1;simp at h2;rw[show r-(tskL H mm lo nd pg m).length=0 by omega] at h;have h3:(lo 0 m,nd 0 m)=x:=by simpa using h
    exact⟨m,hc.1,by omega,hc.2,h3.symm⟩
  ·obtain⟨j,a,b,c,d⟩:=tskL_mem h
   exact⟨j,a,by omega,c,d⟩
theorem tskL_less{H2:Nat}{mm2:Nat->Nat}{lo2:Nat->Nat->ByteArray}{nd2:Nat->Nat->Nat}{pg2:Nat->Nat->Pg}{j0:Nat}{ok:Bool}(hj:0<j0)(hr:ref1 H mm pg (nd 0 j0)=false):∀{m:Nat},(∀ i,i<m->ref1 H2 mm2 pg2 (nd2 0 i)=(ref1 H mm pg (nd 0 i)||(ok&&decide (i=j0))))->(tskL H2 mm2 lo2 nd2 pg2 m).length+(if ok=true/\j0<m then 1 else 0)=(tskL H mm lo nd pg m).length
 | 0,_=>by rw[if_neg (by omega)];rfl
 | m+1,h=>by
  have ih:=tskL_less (lo2:=lo2) hj hr (m:=m) (λ i hi=>h i (by omega));have hm:=h m (by omega);have e1:tskL H mm lo nd pg (m+1)=if 0<m/\ref1 H mm pg (nd 0 m)=false then tskL H mm lo nd pg m++[(lo 0 m,nd 0 m)] else tskL H mm lo nd pg m:=rfl
  have e2:tskL H2 mm2 lo2 nd2 pg2 (m+1)=if 0<m/\ref1 H2 mm2 pg2 (nd2 0 m)=false then tskL H2 mm2 lo2 nd2 pg2 m++[(lo2 0 m,nd2 0 m)] else tskL H2 mm2 lo2 nd2 pg2 m:=rfl
  rw[e1,e2]
  by_cases hmj:m=j0
  ·subst hmj
   rw[if_neg (by omega)] at ih;rw[hr] at hm;cases ok with
   | true =>
    have hm':ref1 H2 mm2 pg2 (nd2 0 m)=true:=by rw[hm];simp
    rw[if_neg (by rw[hm'];simp),if_pos ⟨rfl,by omega⟩,if_pos ⟨hj,hr⟩,List.length_append];simp;omega
   | false =>
    have hm':ref1 H2 mm2 pg2 (nd2 0 m)=false:=by rw[hm];rfl
    rw[if_pos ⟨hj,hm'⟩,if_neg (by simp),if_pos ⟨hj,hr⟩,List.length_append,List.length_append];simp;omega
  ·have hm':ref1 H2 mm2 pg2 (nd2 0 m)=ref1 H mm pg (nd 0 m):=by rw[hm];simp[hmj]
   rw[hm'];have hif:(if ok=true/\j0<m+1 then 1 else 0)=(if ok=true/\j0<m then 1 else 0):=by
    by_cases hc:ok=true/\j0<m
    ·rw[if_pos hc,if_pos ⟨hc.1,by omega⟩]
    ·rw[if_neg hc,if_neg (λ h=>hc ⟨h.1,by omega⟩)]
   rw[hif]
   split
   ·rw[List.length_append,List.length_append];simp;omega
   ·exact ih
theorem LvG.lo_inj{m L:Nat}{nn:Nat->Nat}{lo0:Nat->ByteArray}{pg0:Nat->Pg}(V:LvG F l kk nn m L lo0 pg0){i j:Nat}(hi:i<m)(hj:j<m)(e:lo0 i=lo0 j):i=j:=by
 rcases Nat.lt_trichotomy i j with h|h|h
 ·have:=V.mono h hj;rw[e,kl_self] at this;cases this
 ·exact h
 ·have:=V.mono h hi;rw[e,kl_self] at this;cases this
theorem TS.fresh(h:TS F n kk k5 H nd mm lo pg l){j0 j:Nat}(hH:1<H)(hj0:j0<mm 0)(hr:ref1 H mm pg (nd 0 j0)=false)(hj:j<mm 1):has (lo 0 j0) (pg 1 j).xs=false:=by
 cases hh:has (lo 0 j0) (pg 1 j).xs with
 | false=>rfl
 | true =>
  have hd:=(h.tr.lev 1 hH).nd j hj;obtain⟨x,hx,e, -⟩:=has_in hd.asc hh;have hm:=List.mem_of_getElem? hx;obtain⟨i,hi,ex⟩:=(h.tr.up 0 hH j hj).2 x hm;have e2:lo 0 i=lo 0 j0:=by rw[←e,ex]
  obtain rfl:=(h.tr.lev 0 (by omega)).lo_inj hi hj0 e2;have:ref1 H mm pg (nd 0 i)=true:=ref1_iff.2 ⟨hH,j,hj,x,hm,by rw[ex]⟩;rw[this] at hr;cases hr
theorem TS.full(h:TS F n kk k5 H nd mm lo pg l)(h4:4<=F)(h6:F<=6)(hd:Reach3 10 fb fd)(hk:kk=Cf.N){j0:Nat}(hj:0<j0)(hj0:j0<mm 0)(hr:ref1 H mm pg (nd 0 j0)=false) :
  ∃ d lE ok pg',Pln F fb fd .st false 1 (lo 0 j0) (nd 0 j0) l d lE ok/\0<d/\d<=4000/\(H=1->ok=false)/\TS F n kk k5 H nd mm lo pg' lE/\pg' 0=pg 0/\∀ i,i<mm 0->ref1 H mm pg' (nd 0 i)=(ref1 H mm pg (nd 0 i)||(ok&&decide (i=j0))):=by
 have hH1:=h.tr.H1;have hN2:=Cf.n2;have hlen:=h.len;have hroom:=h.room;have hNF:=(limF (F:=F) h4 h6).nf;have hv:¬ kk<Cf.N:=by omega
 rcases (by omega:H=1\/1<H) with e|hH
 ·obtain⟨d,hw,hdl⟩:=h.away (lo 0 j0) 1 (by omega)
  have hgr:gR F kk 1 (nd (H-1) 0)=2:=if_neg hv;refine⟨_,_,false,pg,.grow hw h.nats (h.gok h4 h6 (by omega) (by omega)) (.grF hv),by omega,by omega,λ_=>rfl,h.growF h4 h6 hv,rfl,λ i hi=>by simp⟩
 ·obtain⟨d,j,hj1,hw,hdl,hjl,hjc⟩:=h.near h6 (lo 0 j0) 1 hH
  have hsm:(smG mm H-smG mm 1)*11<=300*11:=Nat.mul_le_mul_right _ (by have:=h.tr.sum;omega);obtain⟨w0,T⟩:=h.tgt h4 h6 hH hj1 hjc;have hn:=h.num hH hj1;have hnj:=h.num (L:=0) (by omega) hj0;have hnd:=(h.tr.lev 1 hH).nd j hj1;have hpl:=hnd.len;have hlv:=(h.tr.lev 1 hH).lv j hj1;have hh:=h.fresh hH hj0 hr hj1;have hw0:=T.word h.nats;have hXl:=npg_length (pg 1 j) (lo 0 j0) (nd 0 j0);have hrg:=nla_rng h4 h6 hn.1 hn.2;obtain⟨sp,m,O⟩:∃(sp:ByteArray) (m:Nat),Iw F fb fd (nd 1 j) (lockW w0) (pg 1 j) (npg (pg 1 j) (lo 0 j0) (nd 0 j0)) m sp Cf.N kk (lkd F (nd 1 j) w0 l):=⟨⟨#[]⟩,0,limF h4 h6,hd,by omega,by omega,by omega,lockW_lt hw0,λ_ h=>absurd h hv,λ_=>by unfold lkd;rw[cellAt_other (by omega)];exact h.tr.tot⟩
  by_cases hf:F<(npg (pg 1 j) (lo 0 j0) (nd 0 j0)).xs.length
  ·have hiD:insD F Cf.N (nd 1 j) (lockW w0) (pg 1 j) (npg (pg 1 j) (lo 0 j0) (nd 0 j0)) m sp kk=1:=by unfold insD;rw[if_pos hf,if_neg hv]
   refine⟨_,_,false,pg,.lock hw T h.nats (.insr hh hnd.asc O (.inF hf hv)),by omega,by omega,λ_=>rfl,h.free h4 h6 T,rfl,λ i hi=>by simp⟩
  ·have hiD:insD F Cf.N (nd 1 j) (lockW w0) (pg 1 j) (npg (pg 1 j) (lo 0 j0) (nd 0 j0)) m sp kk=(wrsN F (Cf.N:Int) (nd 1 j) (lockW w0) (pg 1 j) (npg (pg 1 j) (lo 0 j0) (nd 0 j0))).length:=by unfold insD;rw[if_neg hf]
   have hwl:=wrsN_len (F:=F) (N:=(Cf.N:Int)) (id:=nd 1 j) (wd:=lockW w0) (pg 1 j) (npg (pg 1 j) (lo 0 j0) (nd 0 j0));refine⟨_,_,true,_,.lock hw T h.nats (.insr hh hnd.asc O (.in0 hf)),by omega,by omega,λ e=>by omega,h.ins0 h4 h6 hH hj1 T hj0 hjl hh hf,?_,λ i hi=>?_⟩
   ·funext q;exact upd2_ne (by omega)
   ·rw[Bool.eq_iff_iff]
    simp only[Bool.or_eq_true,Bool.true_and,decide_eq_true_eq];rw[ref1_iff,ref1_iff];constructor
    ·rintro⟨-,q,hq,y,hy,ey⟩
     by_cases e:q=j
     ·subst e
      rw[upd2_at] at hy;rcases ins_mem.1 hy with rfl|hy
      ·exact .inr ((h.tr.lev 0 (by omega)).inj i j0 hi hj0 ey.symm)
      ·exact .inl ⟨hH,q,hq,y,hy,ey⟩
     ·rw[upd2_ne (by omega)] at hy
      exact .inl ⟨hH,q,hq,y,hy,ey⟩
    ·rintro(⟨-,q,hq,y,hy,ey⟩|rfl)
     ·refine⟨hH,q,hq,y,?_,ey⟩
      by_cases e:q=j
      ·subst e;rw[upd2_at];exact ins_mem.2 (.inr hy)
      ·rw[upd2_ne (by omega)];exact hy
     ·exact⟨hH,j,hj1,(lo 0 i,nd 0 i),by rw[upd2_at];exact ins_mem.2 (.inl rfl),rfl⟩
theorem TS.first(h:TS F n kk k5 1 nd mm lo pg l)(h4:4<=F)(h6:F<=6)(hd:Reach3 10 fb fd)(hk:kk<Cf.N){j0:Nat}(hj:0<j0)(hj0:j0<mm 0) :
  ∃ d lE,Pln F fb fd .st false 1 (lo 0 j0) (nd 0 j0) l d lE true/\0<d/\d<=60/\cellAt lE 0=(((kk+1:Nat):Int),(⟨#[]⟩:ByteArray),(0:Int)):=by
 have hN2:=Cf.n2;have hroom:=h.room;have hNF:=(limF (F:=F) h4 h6).nf;have hlen:=h.len;obtain⟨d1,hw1,hd1⟩:=h.away (lo 0 j0) 1 (by omega);have hgr:gR F kk 1 (nd (1-1) 0)=10:=by unfold gR;rw[if_pos hk,gss_len]
 have h2:=h.grow h4 h6 hk;have e0:∀{α:Type} (f:Nat->α) (x:α),upd f 1 x 0=f 0:=λ f x=>upd_ne _ _ (by omega);have e1:∀{α:Type} (f:Nat->α) (x:α),upd f 1 x 1=x:=λ f x=>upd_at _ _ _;obtain⟨d2,j,hj1,hw2,hd2,hjl,hjc⟩:=h2.near h6 (lo 0 j0) 1 (by omega);have hs:smG (upd mm 1 1) 2-smG (upd mm 1 1) 1=1:=by
  show smG (upd mm 1 1) 1+upd mm 1 1 1-smG (upd mm 1 1) 1=1;rw[e1];omega
 rw[show (1:Nat)+1=2 from rfl,hs] at hd2;have hjm:=hj1;rw[e1] at hjm;obtain rfl:j=0:=by omega
 obtain⟨w0,T⟩:=h2.tgt h4 h6 (by omega) hj1 hjc;have hr:ref1 (1+1) (upd mm 1 1) (upd pg 1 (λ_=>gpg 1 (nd (1-1) 0))) (upd nd 1 (λ_=>kk+1) 0 j0)=false:=by
  cases hc:ref1 (1+1) (upd mm 1 1) (upd pg 1 (λ_=>gpg 1 (nd (1-1) 0))) (upd nd 1 (λ_=>kk+1) 0 j0) with
  | false=>rfl
  | true =>
   obtain⟨-,i,hi,y,hy,ey⟩:=ref1_iff.1 hc;rw[e1] at hy;rw[e0] at ey;have hy':y∈[((⟨#[]⟩:ByteArray),nd 0 0)]:=hy;rw[List.mem_singleton.1 hy'] at ey;have:=(h.tr.lev 0 (by omega)).inj 0 j0 (by omega) hj0 ey;omega
 have hh:=h2.fresh (by omega) (by rw[e0];exact hj0) hr hj1;rw[e0] at hh;have hnd:=(h2.tr.lev 1 (by omega)).nd 0 hj1;have hw0:=T.word h2.nats;rw[e1] at T hnd hh;rw[e1] at T hnd;rw[e1] at hw2;have hpl:(gpg 1 (nd (1-1) 0)).xs.length=1:=rfl;have hXl:=npg_length (gpg 1 (nd (1-1) 0)) (lo 0 j0) (nd 0 j0);have hf:¬ F<(npg (gpg 1 (nd (1-1) 0)) (lo 0 j0) (nd 0 j0)).xs.length:=by omega
 have O:Iw F fb fd (kk+1) (lockW w0) (gpg 1 (nd (1-1) 0)) (npg (gpg 1 (nd (1-1) 0)) (lo 0 j0) (nd 0 j0)) 0 ⟨#[]⟩ Cf.N (kk+1) (lkd F (kk+1) w0 (glE F l 0 kk 1 (nd (1-1) 0))):=⟨limF h4 h6,hd,by omega,by show 1<_;omega,by omega,lockW_lt hw0,λ h _=>absurd h hf,λ h=>absurd h hf⟩;have hi:insD F Cf.N (kk+1) (lockW w0) (gpg 1 (nd (1-1) 0)) (npg (gpg 1 (nd (1-1) 0)) (lo 0 j0) (nd 0 j0)) 0 ⟨#[]⟩ (kk+1)=(wrsN F (Cf.N:Int) (kk+1) (lockW w0) (gpg 1 (nd (1-1) 0)) (npg (gpg 1 (nd (1-1) 0)) (lo 0 j0) (nd 0 j0))).length:=by unfold insD;rw[if_neg hf]
 have hwl:=wrsN_len (F:=F) (N:=(Cf.N:Int)) (id:=kk+1) (wd:=lockW w0) (gpg 1 (nd (1-1) 0)) (npg (gpg 1 (nd (1-1) 0)) (lo 0 j0) (nd 0 j0));have hp3:Pln F fb fd .st true 1 (lo 0 j0) (nd 0 j0) (glE F l 0 kk 1 (nd (1-1) 0)) _ _ true:=.lock hw2 T h2.nats (.insr hh hnd.asc O (.in0 hf));refine⟨_,_,.grow hw1 h.nats (h.gok h4 h6 (by omega) (by omega)) (.grY hk hp3),by omega,by omega,?_⟩;have hrg:=nla_rng h4 h6 T.one T.top;have hln2:=h2.len;unfold rl1;rw[cellAt_other (by omega)];refine(wsto_farR (la:=nla F (kk+1)) (ad:=nad F (kk+1)) (by omega) (λ r hr=>?_)).trans ?_
 ·rw[nad_eq T.one T.top (by omega)];omega
 ·unfold lkd;rw[cellAt_other (by omega)]
  have:=h2.tr.root;rw[show 1+1-1=1 from rfl,e1] at this;exact this
end
end
end Go.Proofs.YtlkgmnjceghpiaaGreat
