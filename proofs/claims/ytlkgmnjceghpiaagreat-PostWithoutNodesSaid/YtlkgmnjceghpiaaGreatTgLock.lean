/-
 A Find and a Lock that nobody disturbs,in a memory whose latches hold whatever words. Condition: none;no program is spoken of.
-/
import Derived.Test.YtlkgmnjceghpiaaGreatLkPath
import Derived.Test.YtlkgmnjceghpiaaGreatTgTree
namespace Go.Proofs.YtlkgmnjceghpiaaGreat
open Go.RowKit Go.Deep Plain
set_option linter.unusedSectionVars false
set_option linter.unusedVariables false
section
variable [Cf]

def RjG(P:Pg)(wd:Nat)(j:Nat)(y:Rst):Prop:=(j=0/\y=rst0)\/∃ k,j=k+1/\k<=P.xs.length+3/\y=⟨if k=P.xs.length+3 then 2 else 1,wd,got P k⟩
theorem RjG.ok{F:Nat}{P:Pg}{wd j:Nat}{y:Rst}(hF:P.xs.length<=F)(hw:wd<18446744073709551616)(h:RjG P wd j y):Okr F y/\y.ph<3:=by
 rcases h with⟨rfl,rfl⟩|⟨k,rfl,hk,rfl⟩
 ·exact⟨okr0 F,by decide⟩
 ·refine⟨⟨?_,hw,got_oks hF hk,λ e=>?_⟩,?_⟩
  ·show (if k=P.xs.length+3 then 2 else 1)<=3
   split<;>omega
  ·have e':(if k=P.xs.length+3 then 2 else 1)=1:=e
   by_cases h0:k=0
   ·exact .inl (by show k=0;exact h0)
   ·refine .inr ?_
    show k<if k=0 then 0 else P.xs.length+3
    rw[if_neg h0]
    split at e'
    ·omega
    ·omega
  ·show (if k=P.xs.length+3 then 2 else 1)<3
   split<;>omega
theorem RjG.step{F n wd:Nat}{l:List Cel}{P:Pg}{j:Nat}{y:Rst}(hn:Nats l)(hP:Holds (nad F n) l P)(hw:Wf P)(hF:P.xs.length<=F)(hl:(cellAt l (nla F n)).1=(wd:Int))(hb:¬ wd / 2%2=1)(h:RjG P wd j y) :
  (RjG P wd (j+1) (rgo F n l y)/\(rgo F n l y).ph≠3/\j+1<P.xs.length+5)\/(j+1=P.xs.length+5/\rgo F n l y=⟨3,wd,got P (P.xs.length+3)⟩):=by
 have ew:(cellAt l (nla F n)).1.toNat=wd:=by rw[hl];rfl
 rcases h with⟨rfl,rfl⟩|⟨k,rfl,hk,rfl⟩
 ·have e:rgo F n l rst0=⟨1,wd,got P 0⟩:=by
   rw[got_zero];unfold rgo rcell raddr;rw[if_pos (show rst0.ph<3 by decide),if_neg (show ¬ rst0.ph=1 by decide)];unfold rnext;rw[if_pos (show rst0.ph=0 from rfl),ew,if_neg hb]
  rw[e];exact .inl ⟨.inr ⟨0,rfl,by omega,by rw[if_neg (by omega)]⟩,by show (1:Nat)≠3;omega,by omega⟩
 ·by_cases hk3:k=P.xs.length+3
  ·refine .inr ⟨by omega,?_⟩
   subst hk3;rw[if_pos rfl];unfold rgo rcell raddr;simp only;rw[if_pos (by omega),if_neg (by omega),ew];unfold rnext;simp only;rw[if_neg (by omega),if_neg (by omega),if_pos trivial]
  ·rw[if_neg hk3]
   have e:rgo F n l ⟨1,wd,got P k⟩=⟨if k+1=P.xs.length+3 then 2 else 1,wd,got P (k+1)⟩:=by
    unfold rgo rcell raddr;simp only;rw[if_pos (by omega),if_pos trivial];have hrd:(got P k).rd=k:=rfl;rw[hrd];have hc:=nat_toNat (hn (nad F n k));have hpc:=hP k (by omega);have ht:tk F (got P k) (cellAt l (nad F n k)).1.toNat (cellAt l (nad F n k)).2.1 (cellAt l (nad F n k)).2.2.toNat=got P (k+1):=by
     apply tk_got hw hF (by omega);rw[←hpc];exact hc.1
    unfold rnext;simp only;rw[if_neg (by omega),if_pos trivial,ht];have hgl:=got_last (P:=P) (r:=k) (by omega);have h2:((got P (k+1)).rd=(got P (k+1)).en)↔(k+1=P.xs.length+3):=by
     have:=hgl;rw[Bool.eq_iff_iff] at this;simpa using this
    by_cases hz:k+1=P.xs.length+3
    ·rw[if_pos (h2.2 hz),if_pos hz]
    ·rw[if_neg (λ e=>hz (h2.1 e)),if_neg hz]
   rw[e];refine .inl ⟨.inr ⟨k+1,rfl,by omega,rfl⟩,?_,by omega⟩;show (if k+1=P.xs.length+3 then 2 else 1)≠3
   split<;>omega

inductive FWs (F:Nat) (key:ByteArray) (lvl:Nat) (l:List Cel):Nat->Nat->Fs->Prop
 | root {n:Nat} {P:Pg} {D t:Nat} {lo lo2:ByteArray} {M:Int} {K:ByteArray} (hc:cellAt l 0=((n:Int),K,M)) (p:WPath F l (nxF key lvl) n P lo D t lo2):FWs F key lvl l (D+1) t .root
 | rd {n wd:Nat} {P:Pg} {lo lo2:ByteArray} {D t j:Nat} {y:Rst} (p:WPath F l (nxF key lvl) n P lo D t lo2) (hl:(cellAt l (nla F n)).1=(wd:Int)) (hb:¬ wd / 2%2=1) (hj:j<P.xs.length+5) (hy:RjG P wd j y):FWs F key lvl l (D-j) t (.rd n y)
 | arr {n:Nat} {y:Rst}:FWs F key lvl l 0 n (.arr n y)
 | no:FWs F key lvl l 0 0 .no
theorem nats_word{l:List Cel}(hn:Nats l){i:Int}{wd:Nat}(h:(cellAt l i).1=(wd:Int)):wd<18446744073709551616:=by
 obtain⟨N,M,K,e,hN, -⟩:=hn i;rw[e] at h;have h2:(N:Int)=(wd:Int):=h;omega
theorem FWs.step{F:Nat}{key:ByteArray}{lvl:Nat}{l:List Cel}(hn:Nats l){d t:Nat}{s:Fs}(f:FWs F key lvl l (d+1) t s) :
  Fok F key lvl l s/\FWs F key lvl l d t (fgo F key lvl l s)/\(fgo F key lvl l s).fin=(d==0):=by
 generalize hD:d+1=D at f;cases f with
 | arr=>omega
 | no=>omega
 | root hc p =>
  rename_i n P D lo lo2 M K
  obtain rfl:d=D:=by omega
  have hl:=p.len;obtain⟨wd,hw,hb⟩:=p.nd.lat;have e1:(cellAt l 0).1.toNat=n:=by rw[hc];rfl
  have e2:fgo F key lvl l .root=.rd n rst0:=by show Fs.rd _ _=_;rw[e1]
  refine⟨by show (cellAt l 0).1.toNat≠0;rw[e1];exact p.nd.ne,?_,?_⟩
  ·rw[e2]
   exact .rd (j:=0) p hw hb (by omega) (.inl ⟨rfl,rfl⟩)
  ·rw[e2];show false=_;simp;omega
 | rd p hw hb hj hy =>
  rename_i n wd P lo lo2 D j y
  have hl:=p.len;have nd:=p.nd;have hP:=nd.holds;obtain⟨ho,hp⟩:=hy.ok nd.len (nats_word hn hw);have e0:fgo F key lvl l (.rd n y)=fdo key lvl n (rgo F n l y):=rfl;rw[e0];show (Okr F y/\y.ph<3/\((rgo F n l y).ph=3->Asc (rgo F n l y).s.xs/\((nxF key lvl (rgo F n l y).s.pg).1=1->(nxF key lvl (rgo F n l y).s.pg).2.1≠0)))/\_;rcases hy.step hn hP nd.wf nd.len hw hb with⟨h1,h2,h3⟩|⟨h1,h2⟩
  ·have e1:fdo key lvl n (rgo F n l y)=.rd n (rgo F n l y):=if_neg h2
   rw[e1];refine⟨⟨ho,hp,λ e=>absurd e h2⟩,?_,?_⟩
   ·have:=FWs.rd (F:=F) (key:=key) (lvl:=lvl) p hw hb h3 h1
    rwa [show D-(j+1)=d by omega] at this
   ·show false=_;simp;omega
  ·have hpg:(got P (P.xs.length+3)).pg=P:=got_end P
   have e1:fdo key lvl n (rgo F n l y)=(if (nxF key lvl P).1=1 then .rd (nxF key lvl P).2.1 rst0 else if (nxF key lvl P).1=2 then .arr n (rgo F n l y) else .no):=by
    unfold fdo;rw[h2];show (if (3:Nat)=3 then _ else _)=_;rw[if_pos rfl];show (if (nxF key lvl (got P (P.xs.length+3)).pg).1=1 then _ else _)=_;rw[hpg]
   have e2:(rgo F n l y).s.pg=P:=by rw[h2];exact hpg
   have e3:(rgo F n l y).s.xs=P.xs:=by
    have:(rgo F n l y).s.pg.xs=P.xs:=by rw[e2]
    exact this
   rw[e1,e2,e3];rcases p.inv with⟨hD0,rfl,rfl,e⟩|⟨hD0,rfl,rfl,e⟩|⟨P2,lo3,m,d2,hD0,e,p2⟩
   ·obtain rfl:d=0:=by omega
    rw[e];exact⟨⟨ho,hp,λ_=>⟨nd.asc,λ e=>by omega⟩⟩,by rw[if_neg (by omega),if_pos rfl];exact .arr,by rw[if_neg (by omega),if_pos rfl];rfl⟩
   ·obtain rfl:d=0:=by omega
    rw[e];exact⟨⟨ho,hp,λ_=>⟨nd.asc,λ e=>by omega⟩⟩,by rw[if_neg (by omega),if_neg (by omega)];exact .no,by rw[if_neg (by omega),if_neg (by omega)];rfl⟩
   ·have hl2:=p2.len
    obtain rfl:d=d2:=by omega
    obtain⟨wd2,hw2,hb2⟩:=p2.nd.lat;have e4:(nxF key lvl P).1=1:=by rw[e]
    have e5:(nxF key lvl P).2.1=m:=by rw[e]
    rw[e4,e5];refine⟨⟨ho,hp,λ_=>⟨nd.asc,λ_=>p2.nd.ne⟩⟩,?_,?_⟩
    ·rw[if_pos rfl]
     exact .rd (j:=0) p2 hw2 hb2 (by omega) (.inl ⟨rfl,rfl⟩)
    ·rw[if_pos rfl];show false=_;simp;omega
structure TgG(F:Nat)(key:ByteArray)(l:List Cel)(t w0:Nat)(P:Pg):Prop where
 nd:Nd F l t P
 one:1<=t
 top:t<=Cf.N
 cov:(P.la||ltB key.toList P.hi.toList)=true
 lat:cellAt l (nla F t)=((w0:Int),(⟨#[]⟩:ByteArray),(0:Int))
 free:w0%4=0
 in':0<=nla F t/\nla F t<l.length
inductive Lrs (F:Nat) (key:ByteArray) (lvl:Nat) (l:List Cel) (t w0:Nat) (P:Pg):Nat->Ls->List Cel->Prop
 | fnd {d:Nat} {s:Fs} (h:FWs F key lvl l (d+1) t s):Lrs F key lvl l t w0 P (d+1+(P.xs.length+5)) (.fnd s) l
 | seek {N:Nat} {K:ByteArray} {M:Int} (hN:N<18446744073709551616):Lrs F key lvl l t w0 P (P.xs.length+5) (.acq t false N K M) l
 | ready:Lrs F key lvl l t w0 P (P.xs.length+4) (.acq t true w0 ⟨#[]⟩ 0) l
 | own {r:Nat} (hr:r<P.xs.length+3):Lrs F key lvl l t w0 P (P.xs.length+3-r) (.own t (lockW w0) (got P r)) (putAt l (nla F t) (((lockW w0:Nat):Int),(⟨#[]⟩:ByteArray),(0:Int)))
 | lck:Lrs F key lvl l t w0 P 0 (.lck t (lockW w0) (got P (P.xs.length+3))) (putAt l (nla F t) (((lockW w0:Nat):Int),(⟨#[]⟩:ByteArray),(0:Int)))
section
variable {F:Nat} {key:ByteArray} {lvl:Nat} {l:List Cel} {t w0:Nat} {P:Pg}
theorem TgG.word(T:TgG F key l t w0 P)(hn:Nats l):w0<18446744073709551616:=nats_word hn (i:=nla F t) (by rw[T.lat])
theorem Lrs.fin{d:Nat}{s:Ls}{m:List Cel}(h:Lrs F key lvl l t w0 P d s m):s.fin=(d==0):=by
 cases h with
 | fnd h=>show false=_;simp
 | seek hN=>show false=_;simp
 | ready=>show false=_;simp
 | own hr=>show false=_;simp;omega
 | lck=>rfl
theorem Lrs.step(h4:4<=F)(h6:F<=6)(hn:Nats l)(T:TgG F key l t w0 P){d:Nat}{s:Ls}{m:List Cel}(h:Lrs F key lvl l t w0 P (d+1) s m) :
  Nats m/\Lok F key lvl m s/\Lrs F key lvl l t w0 P d (lgo F key lvl m s) (lmem F m s):=by
 have hw:=T.word hn;have hfree:=T.free;generalize hD:d+1=D at h;cases h with
 | fnd hf =>
  rename_i d' s
  obtain⟨h1,h2,h3⟩:=hf.step hn;refine⟨hn,h1,?_⟩;have e0:lgo F key lvl l (.fnd s)=ldo (fgo F key lvl l s):=rfl;have e9:lmem F l (.fnd s)=l:=rfl;rw[e0,e9];generalize fgo F key lvl l s=s' at h2 h3;cases s' with
  | root =>
   have hd0:d'≠0:=by intro e;rw[e] at h3;cases h3
   obtain⟨d2,rfl⟩:∃ d2,d'=d2+1:=⟨d' - 1,by omega⟩;have:=Lrs.fnd (w0:=w0) (P:=P) h2
   rwa [show d2+1+(P.xs.length+5)=d by omega] at this
  | rd n y =>
   have hd0:d'≠0:=by intro e;rw[e] at h3;cases h3
   obtain⟨d2,rfl⟩:∃ d2,d'=d2+1:=⟨d' - 1,by omega⟩;have:=Lrs.fnd (w0:=w0) (P:=P) h2
   rwa [show d2+1+(P.xs.length+5)=d by omega] at this
  | arr n y =>
   have e:n=t/\d'=0:=by cases h2;exact⟨rfl,rfl⟩
   obtain⟨rfl,rfl⟩:=e;have e1:ldo (.arr n y)=.acq n false 0 ⟨#[]⟩ 0:=if_pos ⟨T.one,T.top⟩;rw[e1];have:=Lrs.seek (F:=F) (key:=key) (lvl:=lvl) (l:=l) (t:=n) (w0:=w0) (P:=P) (N:=0) (K:=⟨#[]⟩) (M:=0) (by omega)
   rwa [show P.xs.length+5=d by omega] at this
  | no =>
   have e:0=t:=by cases h2;rfl
   have:=T.one;omega
 | seek hN =>
  rename_i N K M
  refine⟨hn,hN,?_⟩;have e1:lgo F key lvl l (.acq t false N K M)=.acq t true w0 ⟨#[]⟩ 0:=by
   show Ls.acq t ((cellAt l (nla F t)).1.toNat%2==0) (cellAt l (nla F t)).1.toNat (cellAt l (nla F t)).2.1 (cellAt l (nla F t)).2.2=_;rw[T.lat];have:((w0:Int).toNat%2==0)=true:=by simp;omega
   show Ls.acq t ((w0:Int).toNat%2==0) (w0:Int).toNat _ _=_;rw[this];rfl
  rw[e1];have:=Lrs.ready (F:=F) (key:=key) (lvl:=lvl) (l:=l) (t:=t) (w0:=w0) (P:=P)
  rwa [show P.xs.length+4=d by omega] at this
 | ready =>
  refine⟨hn,hw,?_⟩;have hsw:swaps l (nla F t) (w0:Int)=true:=by
   unfold swaps;have hin:isIn l (nla F t)=true:=by have:=T.in';unfold isIn;simp;omega
   rw[hin,T.lat];simp
  have e1:lgo F key lvl l (.acq t true w0 ⟨#[]⟩ 0)=.own t (lockW w0) (got P 0):=by
   show (if swaps l (nla F t) (w0:Int) then Ls.own t (lockW w0) cs0 else .acq t false w0 ⟨#[]⟩ 0)=_;rw[if_pos hsw,got_zero]
  have e2:lmem F l (.acq t true w0 ⟨#[]⟩ 0)=putAt l (nla F t) (((lockW w0:Nat):Int),(⟨#[]⟩:ByteArray),(0:Int)):=by
   show (if swaps l (nla F t) (w0:Int) then putAt l (nla F t) ((lockW w0:Nat),⟨#[]⟩,0) else l)=_;rw[if_pos hsw]
  rw[e1,e2];have:=Lrs.own (F:=F) (key:=key) (lvl:=lvl) (l:=l) (t:=t) (w0:=w0) (P:=P) (r:=0) (by omega)
  rwa [show P.xs.length+3-0=d by omega] at this
 | own hr =>
  rename_i r
  have hn2:Nats (putAt l (nla F t) (((lockW w0:Nat):Int),(⟨#[]⟩:ByteArray),(0:Int))):=hn.put _ ⟨lockW w0,0,_,rfl,lockW_lt hw,by omega⟩;generalize hl2:putAt l (nla F t) (((lockW w0:Nat):Int),(⟨#[]⟩:ByteArray),(0:Int))=l2 at hn2 ⊢;have hP:Holds (nad F t) l2 P:=λ q hq=>by
   rw[←hl2,cellAt_other (Ne.symm (nad_ne h4 h6 T.one T.top (by have:=T.nd.len;omega)))];exact T.nd.holds q hq
  have hc:=nat_toNat (hn2 (nad F t r));have hpc:=hP r (by omega);have hrd:(got P r).rd=r:=rfl;have ht:tk F (got P r) (cellAt l2 (nad F t r)).1.toNat (cellAt l2 (nad F t r)).2.1 (cellAt l2 (nad F t r)).2.2.toNat=got P (r+1):=by
   apply tk_got T.nd.wf T.nd.len (by omega);rw[←hpc];exact hc.1
  have e1:lgo F key lvl l2 (.own t (lockW w0) (got P r))=lown key t (lockW w0) (got P (r+1)):=by
   show lown key t (lockW w0) (tk F (got P r) (cellAt l2 (nad F t (got P r).rd)).1.toNat (cellAt l2 (nad F t (got P r).rd)).2.1 (cellAt l2 (nad F t (got P r).rd)).2.2.toNat)=_;rw[hrd,ht]
  have e2:lmem F l2 (.own t (lockW w0) (got P r))=l2:=rfl;rw[e1,e2];refine⟨hn2,⟨got_oks T.nd.len (by omega),?_⟩,?_⟩
  ·by_cases h0:r=0
   ·exact .inl h0
   ·refine .inr ?_
    show r<if r=0 then 0 else P.xs.length+3
    rw[if_neg h0];exact hr
  ·have hgl:=got_last (P:=P) (r:=r) hr
   have h2:((got P (r+1)).rd=(got P (r+1)).en)↔(r+1=P.xs.length+3):=by
    have:=hgl;rw[Bool.eq_iff_iff] at this;simpa using this
   by_cases hz:r+1=P.xs.length+3
   ·unfold lown
    rw[if_pos (h2.2 hz),hz];have hla:(got P (P.xs.length+3)).la=P.la:=by show (if P.xs.length+3<2 then false else P.la)=P.la;rw[if_neg (by omega)]
    have hhi:(got P (P.xs.length+3)).hi=P.hi:=by show (if P.xs.length+3<2 then (⟨#[]⟩:ByteArray) else P.hi)=P.hi;rw[if_neg (by omega)]
    rw[hla,hhi,if_pos T.cov];obtain rfl:d=0:=by omega
    rw[←hl2];exact .lck
   ·unfold lown
    rw[if_neg (λ e=>hz (h2.1 e))];have:=Lrs.own (F:=F) (key:=key) (lvl:=lvl) (l:=l) (t:=t) (w0:=w0) (P:=P) (r:=r+1) (by omega);rw[hl2] at this
    rwa [show P.xs.length+3-(r+1)=d by omega] at this
 | lck=>omega
end
end
end Go.Proofs.YtlkgmnjceghpiaaGreat
