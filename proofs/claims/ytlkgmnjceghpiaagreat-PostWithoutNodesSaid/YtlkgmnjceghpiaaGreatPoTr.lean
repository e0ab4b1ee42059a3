/-
 A whole tree in the memory: what holds of it,and what a release,a slot more in a node,and a root more leave of that. Condition: a fanout of four to six;no program is spoken of.
-/
import Derived.Test.YtlkgmnjceghpiaaGreatTgSndA
import Derived.Test.YtlkgmnjceghpiaaGreatTgLock
import Derived.Test.YtlkgmnjceghpiaaGreatInWay
namespace Go.Proofs.YtlkgmnjceghpiaaGreat
open Go.RowKit Go.Deep Plain
set_option linter.unusedSectionVars false
set_option linter.unusedVariables false
section
variable [Cf]

structure TS(F n kk k5 H:Nat)(nd:Nat->Nat->Nat)(mm:Nat->Nat)(lo:Nat->Nat->ByteArray)(pg:Nat->Nat->Pg)(l:List Cel):Prop where
 tr:TrG F l H kk nd mm lo pg
 len:l.length=n
 room:10+((Cf.N:Int)*(F:Int)+(Cf.N:Int)*4)<=(n:Int)
 nats:Nats l
 lat:∀ t,1<=t->t<=Cf.N->∃ wd:Nat,wd%4=0/\cellAt l (nla F t)=((wd:Int),(⟨#[]⟩:ByteArray),(0:Int))
 rest:Rest F k5 l
 fits:∀ L i,L<H->i<mm L->Fits (pg L i)
 hi:∀ L i,L<H->i<mm L->∀ x∈(pg L i).xs,cov (pg L i) x.1=true
section
variable {F n kk k5 H:Nat} {nd:Nat->Nat->Nat} {mm:Nat->Nat} {lo:Nat->Nat->ByteArray} {pg:Nat->Nat->Pg} {l l':List Cel} {key:ByteArray} {ref:Nat}
theorem nad_ne_nla(h4:4<=F)(h6:F<=6){t u:Nat}(h1:1<=t)(h2:t<=Cf.N)(h3:1<=u)(h5:u<=Cf.N){r:Nat}(hr:r<F+3):nad F u r≠nla F t:=by
 have e:=nad_eq (F:=F) h3 h5 hr
 by_cases hne:t=u
 ·subst hne;omega
 ·rcases nla_apart h4 h6 h1 h2 h3 h5 hne with h|h<;>omega
theorem Nd.to{t:Nat}{P:Pg}(h:Nd F l t P)(hc:∀ r,r<P.xs.length+3->cellAt l' (nad F t r)=cellAt l (nad F t r))(hl:∃ wd:Nat,wd%4=0/\cellAt l' (nla F t)=((wd:Int),(⟨#[]⟩:ByteArray),(0:Int))):Nd F l' t P:=by
 obtain⟨wd,h1,h2⟩:=hl;exact⟨h.ne,λ r hr=>(hc r hr).trans (h.holds r hr),⟨wd,by rw[h2],by omega⟩,h.wf,h.len,h.asc⟩
theorem TrG.move(T:TrG F l H kk nd mm lo pg)(hc:∀ L i,L<H->i<mm L->Nd F l' (nd L i) (pg L i))(h0:cellAt l' 0=cellAt l 0)(h4:cellAt l' 4=cellAt l 4):TrG F l' H kk nd mm lo pg :=
 ⟨T.H1,T.k100,λ L hL=>have V:=T.lev L hL;⟨V.pos,V.top,V.num,V.inj,λ i hi=>hc L i hL hi,V.lv,V.low0,V.next,V.asc,V.last⟩,T.up,T.sum,T.one,h0.trans T.root,h4.trans T.tot⟩
theorem TS.num(h:TS F n kk k5 H nd mm lo pg l){L i:Nat}(hL:L<H)(hi:i<mm L):1<=nd L i/\nd L i<=Cf.N:=by
 have:=h.tr.all hL hi;omega
theorem TS.like(h:TS F n kk k5 H nd mm lo pg l)(h4:4<=F)(h6:F<=6)(hl:l'.length=n)(hN:Nats l')(hlat:∀ t,1<=t->t<=Cf.N->∃ wd:Nat,wd%4=0/\cellAt l' (nla F t)=((wd:Int),(⟨#[]⟩:ByteArray),(0:Int)))(hfar:∀ i:Int,(∀ t,1<=t->t<=Cf.N->i≠nla F t)->cellAt l' i=cellAt l i):TS F n kk k5 H nd mm lo pg l':=by
 have hctr:∀ i:Int,(i<10\/10+((Cf.N:Int)*(F:Int)+(Cf.N:Int)*4)<=i)->cellAt l' i=cellAt l i:=λ i hi=>hfar i λ t h1 h2=>by
  have:=nla_rng h4 h6 h1 h2;omega
 refine⟨h.tr.move (λ L i hL hi=>?_) (hctr 0 (.inl (by omega))) (hctr 4 (.inl (by omega))),hl,h.room,hN,hlat,⟨λ i hi=>?_,(hctr 5 (.inl (by omega))).trans h.rest.2⟩,h.fits,h.hi⟩
 ·have hn:=h.num hL hi
  have hd:=(h.tr.lev L hL).nd i hi;have hlen:=hd.len;exact hd.to (λ r hr=>hfar _ λ t h1 h2=>nad_ne_nla h4 h6 h1 h2 hn.1 hn.2 (by omega)) (hlat _ hn.1 hn.2)
 ·exact(hctr i (by omega)).trans (h.rest.1 i hi)
theorem TS.free(h:TS F n kk k5 H nd mm lo pg l)(h4:4<=F)(h6:F<=6){t w0:Nat}{P:Pg}(T:TgG F key l t w0 P):TS F n kk k5 H nd mm lo pg (putAt (lkd F t w0 l) (nla F t) (((unlockW (lockW w0):Nat):Int),(⟨#[]⟩:ByteArray),(0:Int))):=by
 have hw:=T.word h.nats;have hin:=T.in';refine h.like h4 h6 (by unfold lkd;rw[putAt_length,putAt_length];exact h.len) ((lkd_nats h.nats hw).put _ ⟨unlockW (lockW w0),0,_,rfl,unlockW_lt (lockW_lt hw),by omega⟩) (λ u h1 h2=>?_) λ i hi=>?_
 ·by_cases e:u=t
  ·subst e
   exact⟨_,word_free T.free,cellAt_same (by unfold lkd;rw[putAt_length];exact hin) _⟩
  ·have hne:nla F t≠nla F u:=by
    have:=nla_apart h4 h6 h1 h2 T.one T.top e;omega
   unfold lkd;rw[cellAt_other hne,cellAt_other hne];exact h.lat u h1 h2
 ·have:=hi t T.one T.top
  unfold lkd;rw[cellAt_other (Ne.symm this),cellAt_other (Ne.symm this)]
theorem TS.tgt(h:TS F n kk k5 H nd mm lo pg l)(h4:4<=F)(h6:F<=6){L j:Nat}(hL:L<H)(hj:j<mm L)(hc:cov (pg L j) key=true):∃ w0,TgG F key l (nd L j) w0 (pg L j):=by
 have hn:=h.num hL hj;obtain⟨wd,h1,h2⟩:=h.lat _ hn.1 hn.2;have hr:=nla_rng h4 h6 hn.1 hn.2;have hroom:=h.room;have hlen:=h.len;exact⟨wd,(h.tr.lev L hL).nd j hj,hn.1,hn.2,hc,h2,h1,by omega,by omega⟩
theorem TS.inj(h:TS F n kk k5 H nd mm lo pg l){L i L' i':Nat}(hL:L<H)(hi:i<mm L)(hL':L'<H)(hi':i'<mm L')(e:nd L i=nd L' i'):L=L'/\i=i':=by
 have h1:=((h.tr.lev L hL).nd i hi).holds 0 (by omega);have h2:=((h.tr.lev L' hL').nd i' hi').holds 0 (by omega);rw[e,h2] at h1;have h3:((pg L' i').lv:Int)=((pg L i).lv:Int):=congrArg (λ c:Cel=>c.2.2) h1;have h4:=(h.tr.lev L hL).lv i hi;have h5:=(h.tr.lev L' hL').lv i' hi';obtain rfl:L=L':=by omega
 exact⟨rfl,(h.tr.lev L hL).inj i i' hi hi' e⟩
def upd2(pg:Nat->Nat->Pg)(L j:Nat)(X:Pg):Nat->Nat->Pg:=λ L' i=>if L'=L/\i=j then X else pg L' i
theorem upd2_at{L j:Nat}{X:Pg}:upd2 pg L j X L j=X:=if_pos ⟨rfl,rfl⟩
theorem upd2_ne{L j L' i:Nat}{X:Pg}(h:¬ (L'=L/\i=j)):upd2 pg L j X L' i=pg L' i:=if_neg h
theorem TS.chg(h:TS F n kk k5 H nd mm lo pg l)(h4:4<=F)(h6:F<=6){L j:Nat}(hL:L<H)(hj:j<mm L){X:Pg}(hXlv:X.lv=(pg L j).lv)(hXla:X.la=(pg L j).la)(hXhi:X.hi=(pg L j).hi)(hXrt:X.rt=(pg L j).rt)(hXl:X.xs.length<=F)(hXa:Asc X.xs)(hXf:Fits X)(hXc:∀ x∈X.xs,cov (pg L j) x.1=true)
  (hup:∀ L2,L=L2+1->(∃ r,X.xs[0]? = some (lo L j,r))/\∀ x∈X.xs,∃ i,i<mm L2/\x=(lo L2 i,nd L2 i))
  (hl:l'.length=n) (hN:Nats l') (hX:Holds (nad F (nd L j)) l' X) {wd:Nat} (hw:wd%4=0) (hlt:cellAt l' (nla F (nd L j))=((wd:Int),(⟨#[]⟩:ByteArray),(0:Int))) (hfar:∀ i:Int,(∀ q:Nat,q<F+4->i≠nla F (nd L j)+(q:Int))->cellAt l' i=cellAt l i):TS F n kk k5 H nd mm lo (upd2 pg L j X) l':=by
 have hnt:=h.num hL hj;have hctr:∀ i:Int,(i<10\/10+((Cf.N:Int)*(F:Int)+(Cf.N:Int)*4)<=i)->cellAt l' i=cellAt l i:=λ i hi=>hfar i (far_ctr h4 h6 hnt.1 hnt.2 hi);have hcov:∀ k,cov X k=cov (pg L j) k:=λ k=>by unfold cov;rw[hXla,hXhi]
 have hlat:∀ t,1<=t->t<=Cf.N->∃ wd:Nat,wd%4=0/\cellAt l' (nla F t)=((wd:Int),(⟨#[]⟩:ByteArray),(0:Int)):=λ t h1 h2=>by
  by_cases e:t=nd L j
  ·subst e;exact⟨wd,hw,hlt⟩
  ·rw[hfar _ (far_node (r:=0) h4 h6 hnt.1 hnt.2 h1 h2 e (by omega)).2];exact h.lat t h1 h2
 have hwf:Wf X:=λ e=>by
  rw[hXhi];exact((h.tr.lev L hL).nd j hj).wf (by rw[←hXla];exact e)
 have hnd:∀ L' i,L'<H->i<mm L'->Nd F l' (nd L' i) (upd2 pg L j X L' i):=λ L' i hL' hi=>by
  by_cases e:L'=L/\i=j
  ·obtain⟨rfl,rfl⟩:=e
   rw[upd2_at];exact⟨by omega,hX,⟨wd,by rw[hlt],by omega⟩,hwf,hXl,hXa⟩
  ·rw[upd2_ne e]
   have hne:nd L' i≠nd L j:=λ e2=>e (h.inj hL' hi hL hj e2);have hn:=h.num hL' hi;have hd:=(h.tr.lev L' hL').nd i hi;have hlen:=hd.len;exact hd.to (λ r hr=>hfar _ (far_node h4 h6 hnt.1 hnt.2 hn.1 hn.2 hne (by omega)).1) (hlat _ hn.1 hn.2)
 have hsame:∀ L' i,(upd2 pg L j X L' i).lv=(pg L' i).lv/\(upd2 pg L j X L' i).la=(pg L' i).la/\(upd2 pg L j X L' i).hi=(pg L' i).hi/\(upd2 pg L j X L' i).rt=(pg L' i).rt:=λ L' i=>by
  by_cases e:L'=L/\i=j
  ·obtain⟨rfl,rfl⟩:=e;rw[upd2_at];exact⟨hXlv,hXla,hXhi,hXrt⟩
  ·rw[upd2_ne e];exact⟨rfl,rfl,rfl,rfl⟩
 refine⟨⟨h.tr.H1,h.tr.k100,λ L' hL'=>?_,λ L' hL' i hi=>?_,h.tr.sum,h.tr.one,(hctr 0 (.inl (by omega))).trans h.tr.root,(hctr 4 (.inl (by omega))).trans h.tr.tot⟩,hl,h.room,hN,hlat,⟨λ i hi=>(hctr i (by omega)).trans (h.rest.1 i hi),(hctr 5 (.inl (by omega))).trans h.rest.2⟩,λ L' i hL' hi=>?_,λ L' i hL' hi x hx=>?_⟩
 ·have V:=h.tr.lev L' hL'
  refine⟨V.pos,V.top,V.num,V.inj,λ i hi=>hnd L' i hL' hi,λ i hi=>by rw[(hsame L' i).1];exact V.lv i hi,V.low0,λ i hi=>?_,V.asc,λ i hi=>?_⟩
  ·rw[(hsame L' i).2.1,(hsame L' i).2.2.1,(hsame L' i).2.2.2];exact V.next i hi
  ·rw[(hsame L' i).2.1,(hsame L' i).2.2.2];exact V.last i hi
 ·by_cases e:L'+1=L/\i=j
  ·obtain⟨e1,rfl⟩:=e
   subst e1;rw[upd2_at];exact hup L' rfl
  ·rw[upd2_ne e];exact h.tr.up L' hL' i hi
 ·by_cases e:L'=L/\i=j
  ·obtain⟨rfl,rfl⟩:=e;rw[upd2_at];exact hXf
  ·rw[upd2_ne e];exact h.fits L' i hL' hi
 ·by_cases e:L'=L/\i=j
  ·obtain⟨rfl,rfl⟩:=e
   rw[upd2_at] at hx ⊢;rw[hcov];exact hXc x hx
  ·rw[upd2_ne e] at hx ⊢;exact h.hi L' i hL' hi x hx
theorem ins_first{e:Sl}{xs:List Sl}{k0:ByteArray}{r:Nat}(h0:xs[0]? = some (k0,r))(hlow:kl e.1 k0=false)(hh:has e.1 xs=false):(ins e xs)[0]? = some (k0,r):=by
 cases xs with
 | nil=>cases h0
 | cons x rest =>
  obtain rfl:x=(k0,r):=by simpa using h0
  rw[has_cons,Bool.or_eq_false_iff] at hh;unfold ins;cases h:lt (k0,r) e.1
  ·have h2:=lt_of_not h hh.1
   have h3:lt e k0=false:=hlow;rw[h3] at h2;cases h2
  ·rfl
theorem TS.ins0(h:TS F n kk k5 H nd mm lo pg l)(h4:4<=F)(h6:F<=6){L j j0 w0:Nat}(hL:L+1<H)(hj:j<mm (L+1))(T:TgG F (lo L j0) l (nd (L+1) j) w0 (pg (L+1) j))(hj0:j0<mm L)(hlow:kl (lo L j0) (lo (L+1) j)=false)(hh:has (lo L j0) (pg (L+1) j).xs=false)(hF:¬ F<(npg (pg (L+1) j) (lo L j0) (nd L j0)).xs.length) :
  TS F n kk k5 H nd mm lo (upd2 pg (L+1) j (npg (pg (L+1) j) (lo L j0) (nd L j0))) (putAt (app (lkd F (nd (L+1) j) w0 l) (wrsN F (Cf.N:Int) (nd (L+1) j) (lockW w0) (pg (L+1) j) (npg (pg (L+1) j) (lo L j0) (nd L j0)))) (nla F (nd (L+1) j)) (((unlockW (endW (beginW (lockW w0))):Nat):Int),(⟨#[]⟩:ByteArray),(0:Int))):=by
 generalize hP:pg (L+1) j=P at *;generalize ht:nd (L+1) j=t at *;have hd:=(h.tr.lev (L+1) hL).nd j hj;rw[hP,ht] at hd;have hpl:P.xs.length<=F:=hd.len;have hw:=T.word h.nats;have hin:=T.in';have hjn:=h.num (by omega) hj0;have hCN2:=Cf.n2;have hfP:Fits P:=by rw[←hP];exact h.fits _ _ hL hj
 have hfx:Fits (npg P (lo L j0) (nd L j0)):=fits_npg hfP (by omega) (by omega);have ha:Ads F (nla F t) (nad F t) n:=ads_of h4 h6 T.one T.top h.room;have had:∀ r,r<F+3->nad F t r=nla F t+1+(r:Int):=λ r hr=>nad_eq T.one T.top hr;have hll:(lkd F t w0 l).length=n:=by unfold lkd;rw[putAt_length];exact h.len
 have hP1:Holds (nad F t) (lkd F t w0 l) P:=λ r hr=>by
  unfold lkd;rw[cellAt_other (Ne.symm (ha.ne r (by omega)))];exact hd.holds r hr
 obtain⟨X,hXX⟩:∃ X,npg P (lo L j0) (nd L j0)=X:=⟨_,rfl⟩;have hXl:=npg_length P (lo L j0) (nd L j0);have hXasc:Asc (npg P (lo L j0) (nd L j0)).xs:=ins_asc _ _ hd.asc hh;have hXmem:∀ x∈(npg P (lo L j0) (nd L j0)).xs,x=(lo L j0,nd L j0)\/x∈P.xs:=λ x hx=>ins_mem.1 hx;have hX0:(∃ r,P.xs[0]? = some (lo (L+1) j,r))/\∀ x∈P.xs,∃ i,i<mm L/\x=(lo L i,nd L i):=by rw[←hP];exact h.tr.up L hL j hj
 have hX1:Holds (nad F t) (app (lkd F t w0 l) (wrsN F (Cf.N:Int) t (lockW w0) P (npg P (lo L j0) (nd L j0)))) (npg P (lo L j0) (nd L j0)):=wsto_holds ha hll hP1 hpl (by omega);have hN1:Nats (app (lkd F t w0 l) (wrsN F (Cf.N:Int) t (lockW w0) P (npg P (lo L j0) (nd L j0)))):=(lkd_nats h.nats hw).app (wsto_nats (beginW_lt (lockW_lt hw)) (endW_lt _) (hfx.chgN _ _));have hl1:(app (lkd F t w0 l) (wrsN F (Cf.N:Int) t (lockW w0) P (npg P (lo L j0) (nd L j0)))).length=n:=by rw[app_length];exact hll
 have hfar1:∀ i:Int,(∀ q:Nat,q<F+4->i≠nla F t+(q:Int))->cellAt (app (lkd F t w0 l) (wrsN F (Cf.N:Int) t (lockW w0) P (npg P (lo L j0) (nd L j0)))) i=cellAt l i:=λ i hi=>by
  have h0:=hi 0 (by omega);refine(wsto_farR (la:=nla F t) (ad:=nad F t) (by omega) (λ r hr=>?_)).trans ?_
  ·have h1:=had r (by omega)
   have h2:=hi (r+1) (by omega);omega
  ·unfold lkd;rw[cellAt_other (by omega)]
 generalize app (lkd F t w0 l) (wrsN F (Cf.N:Int) t (lockW w0) P (npg P (lo L j0) (nd L j0)))=l1 at *;have hu:=h.chg (l':=putAt l1 (nla F t) (((unlockW (endW (beginW (lockW w0))):Nat):Int),(⟨#[]⟩:ByteArray),(0:Int))) h4 h6 hL hj (X:=npg P (lo L j0) (nd L j0)) (by rw[hP];rfl) (by rw[hP];rfl) (by rw[hP];rfl) (by rw[hP];rfl) (by omega) hXasc hfx (λ x hx=>?_) (λ L2 e=>?_) (by rw[putAt_length];exact hl1) (hN1.put _ ⟨_,0,_,rfl,unlockW_lt (endW_lt _),by omega⟩) (λ r hr=>?_) (word_end T.free) ?_ (λ i hi=>?_)
 ·exact hu
 ·rw[hP]
  rcases hXmem x hx with rfl|hx
  ·exact T.cov
  ·rw[←hP] at hx ⊢;exact h.hi (L+1) j hL hj x hx
 ·obtain rfl:L2=L:=by omega
  refine⟨?_,λ x hx=>?_⟩
  ·obtain⟨r,h0⟩:=hX0.1
   refine⟨r,?_⟩;exact ins_first h0 hlow hh
  ·rcases hXmem x hx with rfl|hx
   ·exact⟨j0,hj0,rfl⟩
   ·exact hX0.2 x hx
 ·rw[ht] at *
  rw[cellAt_other (Ne.symm (ha.ne r (by omega)))];exact hX1 r hr
 ·rw[ht];exact cellAt_same (by rw[hl1];exact ha.lat) _
 ·rw[ht] at hi
  have h0:=hi 0 (by omega);rw[cellAt_other (by omega)];exact hfar1 i hi
end
end
end Go.Proofs.YtlkgmnjceghpiaaGreat
