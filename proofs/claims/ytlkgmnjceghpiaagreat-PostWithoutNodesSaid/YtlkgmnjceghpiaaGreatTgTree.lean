/-
  Trees of nodes: which way a Find goes through a tree,where it ends,and how a tree is built. No program runs here. Condition: none.
-/
import Derived.Test.YtlkgmnjceghpiaaGreatLkFind
import Derived.Test.YtlkgmnjceghpiaaGreatLkKeys
namespace Go.Proofs.YtlkgmnjceghpiaaGreat
section
open Go.RowKit Go.Deep Plain
variable [Cf]
set_option linter.unusedVariables false
set_option linter.unusedSectionVars false

abbrev kl (a b:ByteArray):Bool:=ltB a.toList b.toList
theorem kl_trans{a b c:ByteArray}(h:kl a b=true)(k:kl b c=true):kl a c=true:=ltB_trans _ _ _ h k
theorem kl_self(a:ByteArray):kl a a=false:=ltB_self _
theorem kl_asymm{a b:ByteArray}(h:kl a b=true):kl b a=false:=ltB_asymm _ _ h
theorem kl_le_lt{a b c:ByteArray}(h:kl b a=false)(k:kl b c=true):kl a c=true:=le_lt _ _ _ h k
theorem kl_le_le{a b c:ByteArray}(h:kl b a=false)(k:kl c b=false):kl c a=false:=le_le _ _ _ h k
theorem kl_nil(a:ByteArray):kl a ⟨#[]⟩=false:=by
  show ltB a.toList (⟨#[]⟩:ByteArray).toList=false;rw[Lib.toList_data ⟨#[]⟩];exact ltB_nil _
theorem asc_get:∀{xs:List Sl},Asc xs->∀{i j:Nat} {x y:Sl},i<j->xs[i]? = some x->xs[j]? = some y->lt x y.1=true
  | [],_,i,j,x,y,_,hx,_=>by simp at hx
  | z::r,ha,0,j,x,y,hij,hx,hy=>by
    obtain⟨j',rfl⟩:∃ j',j=j'+1:=⟨j-1,by omega⟩;simp at hx hy;subst hx;exact asc_head ha y (List.mem_of_getElem? hy)
  | z::r,ha,i+1,j,x,y,hij,hx,hy=>by
    obtain⟨j',rfl⟩:∃ j',j=j'+1:=⟨j-1,by omega⟩;exact asc_get (asc_tail ha) (i:=i) (j:=j') (by omega) (by simpa using hx) (by simpa using hy)
theorem asc_of_get:∀{xs:List Sl},(∀(i:Nat) (x y:Sl),xs[i]? = some x->xs[i+1]? = some y->lt x y.1=true)->Asc xs
  | [],_=>trivial
  | [_],_=>trivial
  | x::y::r,h=>⟨h 0 x y rfl rfl,asc_of_get λ i a b ha hb=>h (i+1) a b (by simpa using ha) (by simpa using hb)⟩
theorem seg_get{xs:List Sl}{a b q:Nat}{x:Sl}(h:((xs.drop a).take b)[q]? = some x):q<b/\xs[a+q]? = some x:=by
  rw[List.getElem?_take] at h
  split at h
  · rw[List.getElem?_drop] at h;exact⟨by assumption,h⟩
  · cases h
theorem get_seg{xs:List Sl}{a b q:Nat}{x:Sl}(hq:q<b)(h:xs[a+q]? = some x):((xs.drop a).take b)[q]? = some x:=by
  rw[List.getElem?_take,if_pos hq,List.getElem?_drop];exact h
theorem asc_seg{xs:List Sl}(h:Asc xs)(a b:Nat):Asc ((xs.drop a).take b) :=
  asc_of_get λ i x y hx hy=>asc_get h (i:=a+i) (j:=a+(i+1)) (by omega) (seg_get hx).2 (seg_get hy).2

theorem child_le{xs:List Sl}(ha:Asc xs){key k0:ByteArray}{r0:Nat}(h0:xs[0]? = some (k0,r0))(hk:kl key k0=false) :
    ∃ q x,xs[q]? = some x/\near (before xs (if has key xs=true then cnt key xs+1 else cnt key xs))=(x.1,x.2,true)/\kl key x.1=false/\∀ y,xs[q+1]? = some y->kl key y.1=true:=by
  have hcl:=cnt_le key xs;cases hh:has key xs
  · rw[if_neg (by simp)]
    have hpos:0<cnt key xs:=by
      rcases Nat.eq_zero_or_pos (cnt key xs) with h|h
      · have h1:=lt_at xs ha key 0 _ h0
        rw[h] at h1;have h2:=has_at xs ha key;rw[h,h0,hh] at h2;have h3:kl k0 key=false:=by simpa [lt] using h1
        have:=ltB_tri _ _ h3 hk;have h4:eqk (k0,r0) key=true:=by unfold eqk;rw[beq_iff_eq];exact this
        replace h2:false=eqk (k0,r0) key:=h2;rw[h4] at h2;cases h2
      · exact h
    obtain⟨x,hx⟩:∃ x,xs[cnt key xs-1]? = some x:=⟨_,List.getElem?_eq_getElem (by omega)⟩;refine⟨cnt key xs-1,x,hx,?_,?_,λ y hy=>?_⟩
    · unfold before;rw[if_neg (by omega),hx];rfl
    · have:=lt_at xs ha key _ x hx
      have h1:lt x key=true:=by rw[this];simp;omega
      exact kl_asymm h1
    · rw[show cnt key xs-1+1=cnt key xs by omega] at hy
      have h1:=lt_at xs ha key _ y hy
      have h1' : kl y.1 key = false := by have : lt y key = false := by rw [h1]; simp
                                          exact this
      have h2:=has_at xs ha key;rw[hy,hh] at h2;cases hky:kl key y.1
      · have:=ltB_tri _ _ h1' hky
        have h4:eqk y key=true:=by unfold eqk;rw[beq_iff_eq];exact this
        simp only[h4] at h2;cases h2
      · rfl
  · rw[if_pos rfl]
    obtain⟨y,i,hy,hlt⟩:=has_in ha hh;have hc:xs[cnt key xs]? = some xs[cnt key xs]:=List.getElem?_eq_getElem hlt;have h2:=has_at xs ha key;rw[hc,hh] at h2;have he:=eqk_eq h2.symm;refine⟨cnt key xs,xs[cnt key xs],hc,?_,?_,λ z hz=>?_⟩
    · unfold before;rw[if_neg (by omega),Nat.add_sub_cancel,hc];rfl
    · rw[he];exact kl_self key
    · have:=asc_get ha (Nat.lt_succ_self _) hc hz
      have h3:kl (xs[cnt key xs]).1 z.1=true:=this;rw[he] at h3;exact h3
structure Lvl(F:Nat)(l:List Cel)(s m L:Nat)(lo:Nat->ByteArray)(pg:Nat->Pg):Prop where
  s1:1<=s
  pos:1<=m
  top:s+m<=Cf.N+1
  nd:∀ i,i<m->Nd F l (s+i) (pg i)
  lv:∀ i,i<m->(pg i).lv=L
  low0:lo 0=⟨#[]⟩
  next:∀ i,i+1<m->(pg i).la=false/\(pg i).rt=s+i+1/\(pg i).hi=lo (i+1)
  asc:∀ i,i+1<m->kl (lo i) (lo (i+1))=true
  last:∀ i,i+1=m->(pg i).la=true/\(pg i).rt=0
theorem Lvl.mono{F:Nat}{l:List Cel}{s m L:Nat}{lo:Nat->ByteArray}{pg:Nat->Pg}(h:Lvl F l s m L lo pg){i:Nat}:∀{j:Nat},i<j->j<m->kl (lo i) (lo j)=true
  | 0,hij,_=>by omega
  | j+1,hij,hj=>by
    by_cases e:i=j
    · subst e;exact h.asc i hj
    · exact kl_trans (h.mono (j:=j) (by omega) (by omega)) (h.asc j hj)
abbrev cov (P:Pg) (key:ByteArray):Bool:=P.la||kl key P.hi
structure Tr(F:Nat)(l:List Cel)(H:Nat)(st mm:Nat->Nat)(lo:Nat->Nat->ByteArray)(pg:Nat->Nat->Pg):Prop where
  H1:1<=H
  lev:∀ L,L<H->Lvl F l (st L) (mm L) L (lo L) (pg L)
  up:∀ L,L+1<H->∀ i,i<mm (L+1)->(∃ r,(pg (L+1) i).xs[0]? = some (lo (L+1) i,r))/\∀ x∈(pg (L+1) i).xs,∃ j,j<mm L/\x=(lo L j,st L+j)
  ord:∀ L,L+1<H->st (L+1)=st L+mm L
  one:mm (H-1)=1
  root:cellAt l 0=((st (H-1):Int),⟨#[]⟩,0)
  tot:cellAt l 4=((st (H-1):Int),⟨#[]⟩,0)
section
variable {F H:Nat} {l:List Cel} {st mm:Nat->Nat} {lo:Nat->Nat->ByteArray} {pg:Nat->Nat->Pg}
theorem Tr.below(T:Tr F l H st mm lo pg){a:Nat}:∀{L:Nat},a<=L->L<H->st a<=st L
  | 0, h, _ => by obtain rfl : a = 0 := by omega
                  exact Nat.le_refl _
  | L+1,h,hL=>by
    by_cases e:a=L+1
    · subst e;exact Nat.le_refl _
    · have:=T.below (a:=a) (L:=L) (by omega) (by omega)
      have:=T.ord L hL;omega
theorem Tr.below2(T:Tr F l H st mm lo pg){a L:Nat}(h:a<L)(hL:L<H):st a+mm a<=st L:=by
  have h1:=T.ord a (by omega);have h2:=T.below (a:=a+1) (L:=L) (by omega) hL;omega
theorem Tr.height(T:Tr F l H st mm lo pg):∀{L:Nat},L<H->L+1<=st L
  | 0,h=>by have:=(T.lev 0 h).s1;omega
  | L+1,h=>by
    have h1:=T.height (L:=L) (by omega);have h2:=T.ord L h;have h3:=(T.lev L (by omega)).pos;omega
theorem Tr.H100(T:Tr F l H st mm lo pg):H<=Cf.N:=by
  have h1:=T.H1;have h2:=T.height (L:=H-1) (by omega);have h3:=(T.lev (H-1) (by omega)).top;have h4:=T.one;omega
theorem Tr.all(T:Tr F l H st mm lo pg){L i:Nat}(hL:L<H)(hi:i<mm L):1<=st L+i/\st L+i<=st (H-1)/\st (H-1)<=Cf.N:=by
  have h1:=(T.lev L hL).s1;have h3:=(T.lev (H-1) (by have:=T.H1;omega)).top;have h4:=T.one;refine⟨by omega,?_,by omega⟩
  by_cases e:L=H-1
  · subst e;omega
  · have:=T.below2 (a:=L) (L:=H-1) (by omega) (by have:=T.H1;omega)
    omega

def Full(H:Nat)(mm:Nat->Nat)(lo:Nat->Nat->ByteArray)(pg:Nat->Nat->Pg)(st:Nat->Nat):Prop :=
  ∀ L,L+1<H->∀ i,i<mm (L+1)->∀ q j,(pg (L+1) i).xs[q]? = some (lo L j,st L+j)->j+1<mm L->(∃ r,(pg (L+1) i).xs[q+1]? = some (lo L (j+1),r))\/((pg (L+1) i).xs.length=q+1/\(pg (L+1) i).la=false/\(pg (L+1) i).hi=lo L (j+1))
end

structure Leaves(ks:List ByteArray)(m:Nat)(lo:Nat->ByteArray)(pg:Nat->Pg)(off:Nat->Nat):Prop where
  zero:off 0=0
  all:off m=ks.length
  step:∀ i,i<m->off (i+1)=off i+(pg i).xs.length
  slot:∀ i,i<m->∀ q x,(pg i).xs[q]? = some x->ks[off i+q]? = some x.1/\x.2=off i+q+1
  low:∀ i,i<m->∀ x∈(pg i).xs,kl x.1 (lo i)=false
  high:∀ i,i<m->∀ x∈(pg i).xs,cov (pg i) x.1=true
end

section
open Go.RowKit Go.Deep Plain
variable [Cf]
set_option linter.unusedVariables false
set_option linter.unusedSectionVars false

theorem sep_gt{a b:ByteArray}(h:kl a b=true):kl a (sepB a b)=true:=by
  show ltB a.toList (sepB a b).toList=true;rw[sepB_toList];unfold sep;rw[if_pos (show ltB a.toList b.toList=true from h)];exact sep_lt _ _ h
theorem sep_le{a b:ByteArray}(h:kl a b=true):kl b (sepB a b)=false:=by
  show ltB b.toList (sepB a b).toList=false;rw[sepB_toList];unfold sep;rw[if_pos (show ltB a.toList b.toList=true from h)];exact take_le _ _

structure Pt(F L n:Nat)(ps:List Nat):Prop where
  ne:0<ps.length
  sum:ps.sum=n
  le:∀ i p:Nat,ps[i]? = some p->p<=F
  pos:0<n->∀ i p:Nat,ps[i]? = some p->1<=p
  two:1<=L->∀ i p:Nat,ps[i]? = some p->i+1<ps.length->2<=p
  zero:n=0->ps.length=1
def fr(ps:List Nat)(i:Nat):Nat:=(ps.take i).sum
theorem fr_step{ps:List Nat}{i p:Nat}(h:ps[i]? = some p):fr ps (i+1)=fr ps i+p:=by
  unfold fr;rw[List.take_add_one,h];simp
theorem fr_all(ps:List Nat):fr ps ps.length=ps.sum:=by unfold fr;rw[List.take_length]
theorem fr_mono(ps:List Nat){i:Nat}:∀{j:Nat},i<=j->fr ps i<=fr ps j
  | 0, h => by obtain rfl : i = 0 := by omega
               exact Nat.le_refl _
  | j+1,h=>by
    by_cases e:i=j+1
    · subst e;exact Nat.le_refl _
    · have:=fr_mono ps (i:=i) (j:=j) (by omega)
      cases hp:ps[j]? with
      | none=>unfold fr at *;rw[List.take_add_one,hp];simpa using this
      | some p=>rw[fr_step hp];omega
theorem fr_le{F L n:Nat}{ps:List Nat}(h:Pt F L n ps){i:Nat}(hi:i<=ps.length):fr ps i<=n:=by
  have:=fr_mono ps hi;rw[fr_all,h.sum] at this;exact this
theorem get_ps{ps:List Nat}{i:Nat}(h:i<ps.length):∃ p,ps[i]? = some p/\ps.getD i 0=p:=⟨ps[i],List.getElem?_eq_getElem h,by rw[List.getD_eq_getElem?_getD,List.getElem?_eq_getElem h];rfl⟩
theorem fr_lt{F L n:Nat}{ps:List Nat}(h:Pt F L n ps){i:Nat}(hi:i+1<ps.length):fr ps i<fr ps (i+1)/\fr ps (i+1)<n:=by
  have hn:0<n:=by
    rcases Nat.eq_zero_or_pos n with e|e
    · have:=h.zero e;omega
    · exact e
  obtain⟨p,hp, -⟩:=get_ps (ps:=ps) (i:=i) (by omega);obtain⟨q,hq, -⟩:=get_ps (ps:=ps) (i:=i+1) hi;have h1:=h.pos hn i p hp;have h2:=h.pos hn (i+1) q hq;have h3:=fr_step hp;have h4:=fr_step hq;have h5:=fr_le h (i:=i+1+1) (by omega);omega
theorem fr_two{F L n:Nat}{ps:List Nat}(h:Pt F L n ps)(hL:1<=L):∀ i,i+1<=ps.length->2*i<=fr ps i
  | 0,_=>by omega
  | i+1,hi=>by
    have ih:=fr_two h hL i (by omega);obtain⟨p,hp, -⟩:=get_ps (ps:=ps) (i:=i) (by omega);have h1:=h.two hL i p hp (by omega);rw[fr_step hp];omega
theorem fr_one{F L n:Nat}{ps:List Nat}(h:Pt F L n ps)(hn:0<n):∀ i,i<=ps.length->i<=fr ps i
  | 0,_=>by omega
  | i+1,hi=>by
    have ih:=fr_one h hn i (by omega);obtain⟨p,hp, -⟩:=get_ps (ps:=ps) (i:=i) (by omega);have h1:=h.pos hn i p hp;rw[fr_step hp];omega
theorem Pt.count{F L n:Nat}{ps:List Nat}(h:Pt F L n ps):ps.length<=n\/ps.length=1:=by
  rcases Nat.eq_zero_or_pos n with e|e
  · exact .inr (h.zero e)
  · have:=fr_one h e ps.length (Nat.le_refl _)
    rw[fr_all,h.sum] at this;exact .inl this
theorem Pt.count2{F L n:Nat}{ps:List Nat}(h:Pt F L n ps)(hL:1<=L)(hn:0<n):2*ps.length<=n+1:=by
  have hne:=h.ne;have h1:=fr_two h hL (ps.length-1) (by omega);obtain⟨p,hp, -⟩:=get_ps (ps:=ps) (i:=ps.length-1) (by omega);have h2:=h.pos hn _ p hp;have h3:=fr_step hp;rw[show ps.length-1+1=ps.length by omega,fr_all,h.sum] at h3;omega

def kat(S:List Sl)(i:Nat):ByteArray:=(S.getD i (⟨#[]⟩,0)).1
theorem kat_at{S:List Sl}{i:Nat}{x:Sl}(h:S[i]? = some x):kat S i=x.1:=by unfold kat;rw[List.getD_eq_getElem?_getD,h];rfl
theorem kat_get{S:List Sl}{i:Nat}(h:i<S.length):∃ r,S[i]? = some (kat S i,r):=by
  have h1:=List.getElem?_eq_getElem h;exact⟨(S[i]).2,by rw[kat_at h1,h1]⟩
theorem kat_lt{S:List Sl}(ha:Asc S){i j:Nat}(hij:i<j)(hj:j<S.length):kl (kat S i) (kat S j)=true:=by
  obtain⟨r,hr⟩:=kat_get (S:=S) (i:=i) (by omega);obtain⟨q,hq⟩:=kat_get hj;have:=asc_get ha hij hr hq;exact this
theorem kat_le{S:List Sl}(ha:Asc S){i j:Nat}(hij:i<=j)(hj:j<S.length):kl (kat S j) (kat S i)=false:=by
  by_cases e:i=j
  · subst e;exact kl_self _
  · exact kl_asymm (kat_lt ha (by omega) hj)
def hiL(L:Nat)(S:List Sl)(ps:List Nat)(i:Nat):ByteArray:=if i+1<ps.length then (if L=0 then sepB (kat S (fr ps (i+1)-1)) (kat S (fr ps (i+1))) else kat S (fr ps (i+1))) else ⟨#[]⟩
def loL(L:Nat)(S:List Sl)(ps:List Nat)(i:Nat):ByteArray:=if i=0 then ⟨#[]⟩ else hiL L S ps (i-1)
def pgL(L:Nat)(S:List Sl)(ps:List Nat)(nx i:Nat):Pg:=⟨L,hiL L S ps i,decide (i+1=ps.length),if i+1<ps.length then nx+i+1 else 0,(S.drop (fr ps i)).take (ps.getD i 0)⟩
theorem loL_succ(L:Nat)(S:List Sl)(ps:List Nat)(i:Nat):loL L S ps (i+1)=hiL L S ps i:=by unfold loL;rw[if_neg (by omega),Nat.add_sub_cancel]
section
variable {F L nx:Nat} {S:List Sl} {ps:List Nat}
theorem hi_gt(ha:Asc S)(h:Pt F L S.length ps){i:Nat}(hi:i+1<ps.length):kl (kat S (fr ps (i+1)-1)) (hiL L S ps i)=true/\kl (kat S (fr ps (i+1))) (hiL L S ps i)=false:=by
  obtain⟨h1,h2⟩:=fr_lt h hi;have h3:=kat_lt ha (i:=fr ps (i+1)-1) (j:=fr ps (i+1)) (by omega) h2;unfold hiL;rw[if_pos hi]
  split
  · exact⟨sep_gt h3,sep_le h3⟩
  · exact⟨h3,kl_self _⟩
theorem lo_le(ha:Asc S)(h:Pt F L S.length ps){i:Nat}(hi:i<ps.length){j:Nat}(hj:fr ps i<=j)(hjn:j<S.length):kl (kat S j) (loL L S ps i)=false:=by
  cases i with
  | zero=>unfold loL;rw[if_pos rfl];exact kl_nil _
  | succ i =>
    rw[loL_succ];have h1:=(hi_gt ha h hi).2;exact kl_le_le h1 (kat_le ha hj hjn)
theorem lo_asc(ha:Asc S)(h:Pt F L S.length ps){i:Nat}(hi:i+1<ps.length):kl (loL L S ps i) (loL L S ps (i+1))=true:=by
  obtain⟨h1,h2⟩:=fr_lt h hi;have h3:=lo_le ha h (i:=i) (by omega) (j:=fr ps (i+1)-1) (by omega) (by omega);rw[loL_succ];exact kl_le_lt h3 (hi_gt ha h hi).1
theorem lo_mono(ha:Asc S)(h:Pt F L S.length ps){i:Nat}:∀{j:Nat},i<j->j<ps.length->kl (loL L S ps i) (loL L S ps j)=true
  | 0,hij,_=>by omega
  | j+1,hij,hj=>by
    by_cases e:i=j
    · subst e;exact lo_asc ha h hj
    · exact kl_trans (lo_mono ha h (j:=j) (by omega) (by omega)) (lo_asc ha h hj)
theorem pg_slot(h:Pt F L S.length ps){i q:Nat}{x:Sl}(hi:i<ps.length)(hx:(pgL L S ps nx i).xs[q]? = some x):S[fr ps i+q]? = some x/\fr ps i+q<fr ps (i+1):=by
  obtain⟨p,hp,hpd⟩:=get_ps hi;have hx':((S.drop (fr ps i)).take (ps.getD i 0))[q]? = some x:=hx;rw[hpd] at hx';obtain⟨h1,h2⟩:=seg_get hx';exact⟨h2,by rw[fr_step hp];omega⟩
theorem pg_len(h:Pt F L S.length ps){i:Nat}(hi:i<ps.length):(pgL L S ps nx i).xs.length=ps.getD i 0/\fr ps (i+1)=fr ps i+ps.getD i 0/\ps.getD i 0<=F:=by
  obtain⟨p,hp,hpd⟩:=get_ps hi;have h1:=fr_step hp;have h2:=fr_le h (i:=i+1) (by omega);refine⟨?_,by rw[hpd];exact h1,by rw[hpd];exact h.le i p hp⟩;show ((S.drop (fr ps i)).take (ps.getD i 0)).length=ps.getD i 0;rw[List.length_take,List.length_drop,hpd];omega
theorem pg_wf(i:Nat):Wf (pgL L S ps nx i):=λ h=>by
  have h':i+1=ps.length:=by simpa [pgL] using h
  show hiL L S ps i=_;unfold hiL;rw[if_neg (by omega)]
theorem pg_asc(ha:Asc S)(i:Nat):Asc (pgL L S ps nx i).xs:=asc_seg ha _ _
theorem pg_fits(h:Pt F L S.length ps)(hF:F<=1000)(hL:L<=1000)(hnx:nx+ps.length<=1000)(hS:∀ x∈S,x.2<18446744073709551616){i:Nat}(hi:i<ps.length):Fits (pgL L S ps nx i):=by
  obtain⟨h1, -,h3⟩:=pg_len (nx:=nx) h hi;refine⟨by show L<_;omega,?_,λ x hx=>?_,by rw[h1];omega⟩
  · show (if i+1<ps.length then nx+i+1 else 0)<_
    split<;>omega
  · have hx':x∈(S.drop (fr ps i)).take (ps.getD i 0):=hx
    exact hS x (List.mem_of_mem_drop (List.mem_of_mem_take hx'))

theorem lvl_of{l:List Cel}(ha:Asc S)(h:Pt F L S.length ps)(h1:1<=nx)(h2:nx+ps.length<=Cf.N+1)(hh:∀ i,i<ps.length->Holds (nad F (nx+i)) l (pgL L S ps nx i))(hz:∀ n,1<=n->n<=Cf.N->cellAt l (nla F n)=cel0):Lvl F l nx ps.length L (loL L S ps) (pgL L S ps nx) where
  s1:=h1
  pos:=h.ne
  top:=h2
  nd:=λ i hi=>⟨by omega,hh i hi,⟨0,by rw[hz _ (by omega) (by omega)];rfl,by decide⟩,pg_wf i,by rw[(pg_len h hi).1];exact(pg_len (nx:=nx) h hi).2.2,pg_asc ha i⟩
  lv:=λ i hi=>rfl
  low0:=by unfold loL;rw[if_pos rfl]
  next:=λ i hi=>⟨by show decide _=false;simp;omega,by show (if i+1<ps.length then nx+i+1 else 0)=_;rw[if_pos hi],by rw[loL_succ];rfl⟩
  asc:=λ i hi=>lo_asc ha h hi
  last:=λ i hi=>⟨by show decide _=true;simp[hi],by show (if i+1<ps.length then nx+i+1 else 0)=_;rw[if_neg (by omega)]⟩
theorem first_of(h:Pt F L S.length ps)(hL:1<=L){r0:Nat}(h0:S[0]? = some (⟨#[]⟩,r0)){i:Nat}(hi:i<ps.length):∃ r,(pgL L S ps nx i).xs[0]? = some (loL L S ps i,r):=by
  have hn:0<S.length:=(List.getElem?_eq_some_iff.1 h0).1;obtain⟨p,hp,hpd⟩:=get_ps hi;have hp1:=h.pos hn i p hp;have h4:=fr_le h (i:=i+1) (by omega);rw[fr_step hp] at h4;have key:∀ x,S[fr ps i]? = some x->(pgL L S ps nx i).xs[0]? = some x:=λ x hx=>by
    show ((S.drop (fr ps i)).take (ps.getD i 0))[0]? = some x;rw[hpd];exact get_seg (by omega) (by rw[Nat.add_zero];exact hx)
  cases i with
  | zero=>exact⟨r0,by rw[key _ h0];unfold loL;rw[if_pos rfl]⟩
  | succ i =>
    obtain⟨r,hr⟩:=kat_get (S:=S) (i:=fr ps (i+1)) (by omega);refine⟨r,?_⟩;rw[key _ hr,loL_succ];unfold hiL;rw[if_pos hi,if_neg (by omega)]
theorem leaves_of{ks:List ByteArray}(ha:Asc S)(h:Pt F 0 S.length ps)(hS:S.length=ks.length)(hk:∀ i x,S[i]? = some x->ks[i]? = some x.1/\x.2=i+1):Leaves ks ps.length (loL 0 S ps) (pgL 0 S ps nx) (fr ps) where
  zero:=rfl
  all:=by rw[fr_all,h.sum,hS]
  step:=λ i hi=>by rw[(pg_len h hi).1];exact(pg_len (nx:=nx) h hi).2.1
  slot:=λ i hi q x hx=>hk _ _ (pg_slot h hi hx).1
  low:=λ i hi x hx=>by
    obtain⟨q,hq⟩:=List.mem_iff_getElem?.1 hx;obtain⟨h1,h2⟩:=pg_slot h hi hq;have:=lo_le ha h hi (j:=fr ps i+q) (by omega) (List.getElem?_eq_some_iff.1 h1).1
    rwa [kat_at h1] at this
  high:=λ i hi x hx=>by
    obtain⟨q,hq⟩:=List.mem_iff_getElem?.1 hx;obtain⟨h1,h2⟩:=pg_slot h hi hq;unfold cov
    by_cases e:i+1=ps.length
    · rw[show (pgL 0 S ps nx i).la=true from by show decide _=true;simp[e],Bool.true_or]
    · have h3:=(hi_gt ha h (i:=i) (by omega)).1
      have h4:=kat_le ha (i:=fr ps i+q) (j:=fr ps (i+1)-1) (by omega) (by have:=fr_le h (i:=i+1) (by omega);omega);rw[kat_at h1] at h4;rw[show kl x.1 (pgL 0 S ps nx i).hi=true from kl_le_lt h4 h3,Bool.or_true]

theorem pg_cov(ha:Asc S)(h:Pt F L S.length ps){i:Nat}(hi:i<ps.length){x:Sl}(hx:x∈(pgL L S ps nx i).xs):cov (pgL L S ps nx i) x.1=true:=by
  obtain⟨q,hq⟩:=List.mem_iff_getElem?.1 hx;obtain⟨h1,h2⟩:=pg_slot h hi hq;unfold cov
  by_cases e:i+1=ps.length
  · rw[show (pgL L S ps nx i).la=true from by show decide _=true;simp[e],Bool.true_or]
  · have h3:=(hi_gt ha h (i:=i) (by omega)).1
    have h4:=kat_le ha (i:=fr ps i+q) (j:=fr ps (i+1)-1) (by omega) (by have:=fr_le h (i:=i+1) (by omega);omega);rw[kat_at h1] at h4;rw[show kl x.1 (pgL L S ps nx i).hi=true from kl_le_lt h4 h3,Bool.or_true]
structure Abv(L:Nat)(S:List Sl)(ps:List Nat)(nx:Nat)(hide:Bool)(i:Nat)(ab:List Sl):Prop where
  mem:∀ x∈ab,∃ j,j<i/\x=(loL L S ps j,nx+j)
  head:0<i->ab[0]? = some (⟨#[]⟩,nx)
  len:ab.length<=i
  asc:Asc ab
  all:hide=false->ab.length=i/\∀ j,j<i->ab[j]? = some (loL L S ps j,nx+j)
theorem Abv.nil(hide:Bool):Abv L S ps nx hide 0 []:=⟨λ x h=>by simp at h,λ h=>by omega,Nat.le_refl _,trivial,λ_=>⟨rfl,λ j h=>by omega⟩⟩
theorem Abv.out{hide:Bool}{i:Nat}{ab:List Sl}(h:Abv L S ps nx hide i ab)(hi:0<i)(hh:hide=true):Abv L S ps nx hide (i+1) ab :=
  ⟨λ x hx=>by obtain⟨j,h1,h2⟩:=h.mem x hx;exact⟨j,by omega,h2⟩,λ_=>h.head hi,by have:=h.len;omega,h.asc,λ e=>by rw[hh] at e;cases e⟩
theorem asc_snoc:∀{xs:List Sl} {y:Sl},Asc xs->(∀ x∈xs,lt x y.1=true)->Asc (xs++[y])
  | [],y,_,_=>trivial
  | [x],y,_,h=>⟨h x (by simp),trivial⟩
  | x::z::r,y,ha,h=>⟨ha.1,asc_snoc (xs:=z::r) ha.2 λ a hm=>h a (List.mem_cons_of_mem _ hm)⟩
theorem Abv.enter{hide:Bool}{i:Nat}{ab:List Sl}(h:Abv L S ps nx hide i ab)(ha:Asc S)(hp:Pt F L S.length ps)(hi:i<ps.length):Abv L S ps nx hide (i+1) (ab++[(loL L S ps i,nx+i)]):=by
  refine⟨λ x hx=>?_,λ_=>?_,by have:=h.len;rw[List.length_append];simp;omega,asc_snoc h.asc λ x hx=>?_,λ e=>?_⟩
  · rcases List.mem_append.1 hx with hx|hx
    · obtain⟨j,h1,h2⟩:=h.mem x hx;exact⟨j,by omega,h2⟩
    · exact⟨i,by omega,by simpa using hx⟩
  · rcases Nat.eq_zero_or_pos i with e|e
    · subst e
      have h0:ab=[]:=List.eq_nil_of_length_eq_zero (by have:=h.len;omega);subst h0;show some (loL L S ps 0,nx+0)=_;unfold loL;rw[if_pos rfl,Nat.add_zero]
    · have:=h.head e
      rw[List.getElem?_append_left (List.getElem?_eq_some_iff.1 this).1];exact this
  · obtain⟨j,h1,rfl⟩:=h.mem x hx
    exact lo_mono ha hp h1 hi
  · obtain⟨h1,h2⟩:=h.all e
    refine⟨by rw[List.length_append,h1];rfl,λ j hj=>?_⟩
    by_cases ej:j=i
    · subst ej
      rw[List.getElem?_append_right (by omega),h1,Nat.sub_self];rfl
    · rw[List.getElem?_append_left (by omega)];exact h2 j (by omega)
end

structure Mv(F nx:Nat)(l l':List Cel):Prop where
  len:l'.length=l.length
  low:∀ n,1<=n->n<nx->∀ r,r<F+3->cellAt l' (nad F n r)=cellAt l (nad F n r)
  lat:∀ n,1<=n->n<=Cf.N->cellAt l' (nla F n)=cellAt l (nla F n)
  ctr:∀ i:Int,0<=i->i<10->cellAt l' i=cellAt l i
  nats:Nats l->Nats l'
  far:∀ i:Int,10+((Cf.N:Int)*(F:Int)+(Cf.N:Int)*4)<=i->cellAt l' i=cellAt l i
theorem Mv.refl(F nx:Nat)(l:List Cel):Mv F nx l l:=⟨rfl,λ_ _ _ _ _=>rfl,λ_ _ _=>rfl,λ_ _ _=>rfl,id,λ_ _=>rfl⟩
theorem Mv.trans{F nx nx2:Nat}{l l1 l2:List Cel}(h:Mv F nx l l1)(k:Mv F nx2 l1 l2)(hn:nx<=nx2):Mv F nx l l2 :=
  ⟨k.len.trans h.len,λ n h1 h2 r hr=>(k.low n h1 (by omega) r hr).trans (h.low n h1 h2 r hr),λ n h1 h2=>(k.lat n h1 h2).trans (h.lat n h1 h2),λ i h1 h2=>(k.ctr i h1 h2).trans (h.ctr i h1 h2),λ hn=>k.nats (h.nats hn),λ i hi=>(k.far i hi).trans (h.far i hi)⟩
theorem nla_lin{F n:Nat}(h4:4<=F)(h6:F<=6)(h1:1<=n)(h2:n<=Cf.N):(F=4/\nla F n=10+((n:Int)-1)*8/\(Cf.N:Int)*(F:Int)=(Cf.N:Int)*4)\/(F=5/\nla F n=10+((n:Int)-1)*9/\(Cf.N:Int)*(F:Int)=(Cf.N:Int)*5)\/(F=6/\nla F n=10+((n:Int)-1)*10/\(Cf.N:Int)*(F:Int)=(Cf.N:Int)*6):=by
  have h:=nla_eq (F:=F) h1 h2;rcases (by omega:F=4\/F=5\/F=6) with rfl|rfl|rfl
  · exact .inl ⟨rfl,by omega⟩
  · exact .inr (.inl ⟨rfl,by omega⟩)
  · exact .inr (.inr ⟨rfl,by omega⟩)
theorem nla_far{F n m:Nat}(h4:4<=F)(h6:F<=6)(h1:1<=n)(hnm:n<m)(h2:m<=Cf.N):nla F n+(F:Int)+4<=nla F m:=by
  rcases nla_lin h4 h6 h1 (by omega:n<=Cf.N) with⟨e1,a⟩|⟨e1,a⟩|⟨e1,a⟩<;>rcases nla_lin h4 h6 (by omega:1<=m) h2 with⟨e2,b⟩|⟨e2,b⟩|⟨e2,b⟩<;>omega
theorem Mv.page{F nx n:Nat}(h4:4<=F)(h6:F<=6)(h1:1<=nx)(hn:nx<=n)(h2:n<=Cf.N)(l:List Cel){P:Pg}(hP:P.xs.length<=F)(hf:Fits P):Mv F nx l (app l (pst (nad F n) P)):=by
  have had:∀ r,r<F+3->nad F n r=nla F n+1+(r:Int):=λ r hr=>nad_eq (by omega) h2 hr;have hpos:10<=nla F n:=by rcases nla_lin h4 h6 (by omega:1<=n) h2 with⟨e,a⟩|⟨e,a⟩|⟨e,a⟩<;>omega
  refine⟨app_length _ _,λ m hm1 hm2 r hr=>app_other _ _ λ s hs e=>?_,λ m hm1 hm2=>app_other _ _ λ s hs e=>?_,λ i hi1 hi2=>app_other _ _ λ s hs e=>?_,λ hN=>hN.app (hf.pstN _),λ i hi=>app_other _ _ λ s hs e=>?_⟩
  · obtain⟨q,hq,rfl⟩:=pst_addr hs
    have e':nad F n q=nad F m r:=e;rw[had q (by omega),nad_eq hm1 (by omega) hr] at e';have:=nla_far h4 h6 hm1 (by omega:m<n) h2;omega
  · obtain⟨q,hq,rfl⟩:=pst_addr hs
    have e':nad F n q=nla F m:=e;rw[had q (by omega)] at e';rcases Nat.lt_trichotomy m n with h|h|h
    · have:=nla_far h4 h6 hm1 h h2;omega
    · subst h;omega
    · have:=nla_far h4 h6 (by omega:1<=n) h hm2;omega
  · obtain⟨q,hq,rfl⟩:=pst_addr hs
    have e':nad F n q=i:=e;rw[had q (by omega)] at e';omega
  · obtain⟨q,hq,rfl⟩:=pst_addr hs
    have e':nad F n q=i:=e;rw[had q (by omega)] at e';rcases nla_lin h4 h6 (by omega:1<=n) h2 with⟨e,a⟩|⟨e,a⟩|⟨e,a⟩<;>omega
def Rest(F k:Nat)(l:List Cel):Prop:=(∀ i:Int,((1<=i/\i<=3)\/(6<=i/\i<10)\/10+((Cf.N:Int)*(F:Int)+(Cf.N:Int)*4)<=i)->cellAt l i=cel0)/\cellAt l 5=((k:Int),⟨#[]⟩,0)
theorem Mv.rest{F nx k:Nat}{l l':List Cel}(h:Mv F nx l l')(r:Rest F k l):Rest F k l' :=
  ⟨λ i hi=>by
    rcases hi with a|a|a
    · exact(h.ctr i (by omega) (by omega)).trans (r.1 i (.inl a))
    · exact(h.ctr i (by omega) (by omega)).trans (r.1 i (.inr (.inl a)))
    · exact(h.far i a).trans (r.1 i (.inr (.inr a))),(h.ctr 5 (by omega) (by omega)).trans r.2⟩
theorem Mv.ctrPoke{F nx:Nat}(h4:4<=F)(h6:F<=6)(hnx:nx<=Cf.N+1)(l:List Cel){a:Int}(ha:0<=a/\a<10)(c:Cel)(hc:NatCell c):(∀ n,1<=n->n<nx->∀ r,r<F+3->cellAt (putAt l a c) (nad F n r)=cellAt l (nad F n r))/\(∀ n,1<=n->n<=Cf.N->cellAt (putAt l a c) (nla F n)=cellAt l (nla F n))/\(Nats l->Nats (putAt l a c)):=by
  refine⟨λ n h1 h2 r hr=>cellAt_other (λ e=>?_) _,λ n h1 h2=>cellAt_other (λ e=>?_) _,λ hN=>hN.put _ hc⟩
  · rw[nad_eq h1 (by omega) hr] at e
    rcases nla_lin h4 h6 h1 (by omega:n<=Cf.N) with⟨e2,b⟩|⟨e2,b⟩|⟨e2,b⟩<;>omega
  · rcases nla_lin h4 h6 h1 h2 with⟨e2,b⟩|⟨e2,b⟩|⟨e2,b⟩<;>omega
theorem Nd.move{F n:Nat}{l l':List Cel}{P:Pg}(h:Nd F l n P)(hc:∀ r,r<F+3->cellAt l' (nad F n r)=cellAt l (nad F n r))(hz:cellAt l' (nla F n)=cellAt l (nla F n)):Nd F l' n P :=
  ⟨h.ne,λ r hr=>(hc r (by have:=h.len;omega)).trans (h.holds r hr),by rw[hz];exact h.lat,h.wf,h.len,h.asc⟩
theorem Lvl.move{F:Nat}{l l':List Cel}{s m L:Nat}{lo:Nat->ByteArray}{pg:Nat->Pg}(h:Lvl F l s m L lo pg)(hc:∀ n,1<=n->n<s+m->∀ r,r<F+3->cellAt l' (nad F n r)=cellAt l (nad F n r))(hz:∀ n,1<=n->n<=Cf.N->cellAt l' (nla F n)=cellAt l (nla F n)):Lvl F l' s m L lo pg :=
  ⟨h.s1,h.pos,h.top,λ i hi=>(h.nd i hi).move (hc _ (by have:=h.s1;omega) (by omega)) (hz _ (by have:=h.s1;omega) (by have:=h.top;omega)),h.lv,h.low0,h.next,h.asc,h.last⟩
end

section
open Go.RowKit Go.Deep Plain
variable [Cf]
set_option linter.unusedVariables false
set_option linter.unusedSectionVars false

def cap(n:Nat):Nat:=if n<=2 then 1 else (3*n-2) / 2
theorem cap_step{n p m:Nat}(hn:0<n)(hp:2*p<=n+1)(h2:2<=p)(hm:m<=p):p+cap m<=cap n:=by
  unfold cap;rw[if_neg (by omega:¬ n<=2)]
  split<;>omega
theorem cap_pos(n:Nat):1<=cap n:=by unfold cap;split<;>omega
theorem cap_le{n p:Nat}(hp:2*p<=n+1):p<=cap n:=by
  unfold cap;split<;>omega
def upd{α:Type}(f:Nat->α)(L:Nat)(x:α):Nat->α:=λ i=>if i=L then x else f i
theorem upd_at{α:Type}(f:Nat->α)(L:Nat)(x:α):upd f L x L=x:=if_pos rfl
theorem upd_ne{α:Type}(f:Nat->α){L i:Nat}(x:α)(h:i≠L):upd f L x i=f i:=if_neg h

structure Bt(F:Nat)(l:List Cel)(L nx:Nat)(S:List Sl)(ks:List ByteArray)(hide:Bool)(st mm:Nat->Nat)(lo:Nat->Nat->ByteArray)(pg:Nat->Nat->Pg)(off:Nat->Nat):Prop where
  nats:Nats l
  big:10+((Cf.N:Int)*(F:Int)+(Cf.N:Int)*4)<=(l.length:Int)
  zero:∀ n,1<=n->n<=Cf.N->cellAt l (nla F n)=cel0
  asc:Asc S
  ref:∀ x∈S,x.2<18446744073709551616
  lev:∀ L',L'<L->Lvl F l (st L') (mm L') L' (lo L') (pg L')
  up:∀ L',L'+1<L->∀ i,i<mm (L'+1)->(∃ r,(pg (L'+1) i).xs[0]? = some (lo (L'+1) i,r))/\∀ x∈(pg (L'+1) i).xs,∃ j,j<mm L'/\x=(lo L' j,st L'+j)
  ord:∀ L',L'+1<L->st (L'+1)=st L'+mm L'
  base:L=0->nx=1/\S.length=ks.length/\S.length<=40/\∀ i x,S[i]? = some x->ks[i]? = some x.1/\x.2=i+1
  more:∀ L',L=L'+1->nx=st L'+mm L'/\S[0]? = some (⟨#[]⟩,st L')/\(∀ x∈S,∃ j,j<mm L'/\x=(lo L' j,st L'+j))/\nx+cap S.length<=101/\(hide=false->S.length=mm L'/\∀ j,j<mm L'->S[j]? = some (lo L' j,st L'+j))
  leaves:1<=L->Leaves ks (mm 0) (lo 0) (pg 0) off/\st 0=1
  full:hide=false->Full L mm lo pg st
  rest:Rest F ks.length l
  hi:∀ L',L'<L->∀ i,i<mm L'->∀ x∈(pg L' i).xs,cov (pg L' i) x.1=true
class Big [Cf]:Prop where
  ge:100<=Cf.N
section
variable [Big]
variable {F L nx:Nat} {l l':List Cel} {S ab:List Sl} {ks:List ByteArray} {hide:Bool} {st mm:Nat->Nat} {lo:Nat->Nat->ByteArray} {pg:Nat->Nat->Pg} {off:Nat->Nat} {ps:List Nat}
theorem Bt.tall(B:Bt F l L nx S ks hide st mm lo pg off):∀{L':Nat},L'<L->L'+1<=st L'
  | 0,h=>(B.lev 0 h).s1
  | L'+1,h=>by
    have h1:=B.tall (L':=L') (by omega);have h2:=B.ord L' h;have h3:=(B.lev L' (by omega)).pos;omega
theorem Bt.nx1(B:Bt F l L nx S ks hide st mm lo pg off):L+1<=nx:=by
  rcases Nat.eq_zero_or_pos L with e|e
  · have:=(B.base e).1;omega
  · obtain⟨L',rfl⟩:∃ L',L=L'+1:=⟨L-1,by omega⟩
    have h1:=(B.more L' rfl).1;have h2:=B.tall (L':=L') (by omega);have h3:=(B.lev L' (by omega)).pos;omega
theorem Bt.pos(B:Bt F l L nx S ks hide st mm lo pg off)(h:1<=L):0<S.length:=by
  obtain⟨L',rfl⟩:∃ L',L=L'+1:=⟨L-1,by omega⟩;exact(List.getElem?_eq_some_iff.1 (B.more L' rfl).2.1).1
theorem Bt.room(B:Bt F l L nx S ks hide st mm lo pg off)(hp:Pt F L S.length ps):nx+ps.length<=101/\(L=0->nx+ps.length<=41):=by
  rcases Nat.eq_zero_or_pos L with e|e
  · obtain⟨h1,h2,h3, -⟩:=B.base e
    rcases hp.count with h|h
    · exact⟨by omega,λ_=>by omega⟩
    · exact⟨by omega,λ_=>by omega⟩
  · have h1:=hp.count2 e (B.pos e)
    have h2:=cap_le h1;obtain⟨L',rfl⟩:∃ L',L=L'+1:=⟨L-1,by omega⟩;have:=(B.more L' rfl).2.2.2.1;exact⟨by omega,λ h=>by omega⟩
theorem Bt.low(B:Bt F l L nx S ks hide st mm lo pg off){L':Nat}(h:L'<L):st L'+mm L'<=nx:=by
  have key:∀ k,L'+k+1=L->st L'+mm L'<=nx:=by
    intro k
    induction k generalizing L' with
    | zero=>intro e;have:=(B.more L' (by omega)).1;omega
    | succ k ih =>
      intro e;have h1:=ih (L':=L'+1) (by omega) (by omega);have h2:=B.ord L' (by omega);omega
  exact key (L-1-L') (by omega)

theorem Bt.levels(B:Bt F l L nx S ks hide st mm lo pg off)(hp:Pt F L S.length ps)(hc:∀ n,1<=n->n<nx->∀ r,r<F+3->cellAt l' (nad F n r)=cellAt l (nad F n r))(hz:∀ n,1<=n->n<=Cf.N->cellAt l' (nla F n)=cellAt l (nla F n))(hh:∀ i,i<ps.length->Holds (nad F (nx+i)) l' (pgL L S ps nx i)) :
    (∀ L',L'<L+1->Lvl F l' (upd st L nx L') (upd mm L ps.length L') L' (upd lo L (loL L S ps) L') (upd pg L (pgL L S ps nx) L')) /\
    (∀ L',L'+1<L+1->∀ i,i<upd mm L ps.length (L'+1)->(∃ r,(upd pg L (pgL L S ps nx) (L'+1) i).xs[0]? = some (upd lo L (loL L S ps) (L'+1) i,r))/\∀ x∈(upd pg L (pgL L S ps nx) (L'+1) i).xs,∃ j,j<upd mm L ps.length L'/\x=(upd lo L (loL L S ps) L' j,upd st L nx L'+j)) /\
    (∀ L',L'+1<L+1->upd st L nx (L'+1)=upd st L nx L'+upd mm L ps.length L') /\
    (Leaves ks (upd mm L ps.length 0) (upd lo L (loL L S ps) 0) (upd pg L (pgL L S ps nx) 0) (if L=0 then fr ps else off)/\upd st L nx 0=1) /\
    (hide=false->Full (L+1) (upd mm L ps.length) (upd lo L (loL L S ps)) (upd pg L (pgL L S ps nx)) (upd st L nx)):=by
  have hB0:100<=Cf.N:=Big.ge;have hroom:=B.room hp;have hnx:=B.nx1;refine⟨λ L' hL=>?_,λ L' hL i hi=>?_,λ L' hL=>?_,?_,λ hd L' hL i hi q j hq hj=>?_⟩
  · by_cases e:L'=L
    · subst e
      rw[upd_at,upd_at,upd_at,upd_at];exact lvl_of B.asc hp (by omega) (by omega) hh (λ n h1 h2=>(hz n h1 h2).trans (B.zero n h1 h2))
    · rw[upd_ne _ _ e,upd_ne _ _ e,upd_ne _ _ e,upd_ne _ _ e]
      have hlow:=B.low (L':=L') (by omega);exact(B.lev L' (by omega)).move (λ n h1 h2=>hc n h1 (by omega)) hz
  · rw[upd_ne mm _ (by omega:L'≠L),upd_ne lo _ (by omega:L'≠L),upd_ne st _ (by omega:L'≠L)]
    by_cases e:L'+1=L
    · subst e
      rw[upd_at] at hi ⊢;rw[upd_at];obtain⟨-,h0,hm, -⟩:=B.more L' rfl;refine⟨first_of hp (by omega) h0 hi,λ x hx=>?_⟩;have hx':x∈(S.drop (fr ps i)).take (ps.getD i 0):=hx;exact hm x (List.mem_of_mem_drop (List.mem_of_mem_take hx'))
    · rw[upd_ne _ _ e] at hi
      rw[upd_ne _ _ e,upd_ne _ _ e];exact B.up L' (by omega) i hi
  · rw[upd_ne mm _ (by omega:L'≠L),upd_ne st _ (by omega:L'≠L)]
    by_cases e:L'+1=L
    · subst e;rw[upd_at];exact(B.more L' rfl).1
    · rw[upd_ne _ _ e];exact B.ord L' (by omega)
  · by_cases e:L=0
    · subst e
      rw[upd_at,upd_at,upd_at,upd_at,if_pos rfl];obtain⟨h1,h2,h3,h4⟩:=B.base rfl;exact⟨leaves_of B.asc hp h2 h4,h1⟩
    · rw[upd_ne _ _ (Ne.symm e),upd_ne _ _ (Ne.symm e),upd_ne _ _ (Ne.symm e),upd_ne _ _ (Ne.symm e),if_neg e]
      exact B.leaves (by omega)
  · rw[upd_ne mm _ (by omega:L'≠L)] at hj
    rw[upd_ne lo _ (by omega:L'≠L),upd_ne st _ (by omega:L'≠L)] at hq;rw[upd_ne lo _ (by omega:L'≠L)]
    by_cases e:L'+1=L
    · subst e
      rw[upd_at] at hi hq;rw[upd_at];obtain⟨-,h0,hm, -,hf⟩:=B.more L' rfl;obtain⟨hf1,hf2⟩:=hf hd;obtain⟨hs1,hs2⟩:=pg_slot hp hi hq;obtain⟨hl1,hl2,hl3⟩:=pg_len (nx:=nx) hp hi;have hlt:fr ps i+q<mm L':=by rw[←hf1];exact(List.getElem?_eq_some_iff.1 hs1).1
      have hj2:=hf2 _ hlt;rw[hs1] at hj2;have hjq:j=fr ps i+q:=by injection hj2 with hj2;injection hj2 with _ hj2;omega
      have hnext:=hf2 (j+1) hj;rw[hjq] at hnext ⊢
      by_cases hql:q+1<ps.getD i 0
      · refine .inl ⟨st L'+(fr ps i+q+1),?_⟩
        show ((S.drop (fr ps i)).take (ps.getD i 0))[q+1]? = _;exact get_seg hql (by rw[show fr ps i+(q+1)=fr ps i+q+1 by omega];exact hnext)
      · have hq1:q+1=ps.getD i 0:=by omega
        have hin:i+1<ps.length:=by
          rcases Nat.lt_or_ge (i+1) ps.length with h|h
          · exact h
          · have h5:=fr_all ps
            rw[hp.sum,show ps.length=i+1 by omega] at h5;omega
        refine .inr ⟨by rw[hl1];omega,by show decide _=false;simp;omega,?_⟩;show hiL (L'+1) S ps i=_;unfold hiL;rw[if_pos hin,if_neg (by omega),show fr ps (i+1)=fr ps i+q+1 by omega];exact kat_at hnext
    · rw[upd_ne mm _ e] at hi
      rw[upd_ne pg _ e] at hq;rw[upd_ne pg _ e];exact B.full hd L' (by omega) i hi q j hq hj

theorem Bt.step(B:Bt F l L nx S ks hide st mm lo pg off)(hp:Pt F L S.length ps)(hm:Mv F nx l l')(hh:∀ i,i<ps.length->Holds (nad F (nx+i)) l' (pgL L S ps nx i))(ha:Abv L S ps nx hide ps.length ab)(h2:2<=ps.length) :
    ∃ st2 mm2 lo2 pg2 off2,Bt F l' (L+1) (nx+ps.length) ab ks hide st2 mm2 lo2 pg2 off2:=by
  have hB0:100<=Cf.N:=Big.ge;obtain⟨h1,h3,h4,h5,h6⟩:=B.levels hp hm.low hm.lat hh;have hroom:=B.room hp;refine⟨_,_,_,_,_,⟨hm.nats B.nats,by rw[hm.len];exact B.big,λ n hn1 hn2=>(hm.lat n hn1 hn2).trans (B.zero n hn1 hn2),ha.asc,λ x hx=>?_,h1,h3,h4,λ e=>by omega,λ L' e=>?_,λ_=>h5,h6,hm.rest B.rest,(λ L' hL i hi x hx=>by
    by_cases e:L'=L
    · subst e;rw[upd_at] at hi hx;rw[upd_at];exact pg_cov B.asc hp hi hx
    · rw[upd_ne _ _ e] at hi hx;rw[upd_ne _ _ e];exact B.hi L' (by omega) i hi x hx)⟩⟩
  · obtain⟨j,hj,rfl⟩:=ha.mem x hx
    show nx+j<_;omega
  · obtain rfl:L'=L:=by omega
    rw[upd_at,upd_at,upd_at];refine⟨rfl,ha.head (by omega),ha.mem,?_,ha.all⟩;have hal:=ha.len;rcases Nat.eq_zero_or_pos L' with e0|e0
    · have h40:=hroom.2 e0
      have hb:=(B.base e0).1;have:cap ab.length<=59:=by unfold cap;split<;>omega
      omega
    · obtain⟨L2,rfl⟩:∃ L2,L'=L2+1:=⟨L' - 1,by omega⟩
      have h7:=cap_step (B.pos e0) (hp.count2 e0 (B.pos e0)) h2 hal;have h8:=(B.more L2 rfl).2.2.2.1;omega
theorem Bt.fewer(B:Bt F l L nx S ks hide st mm lo pg off)(hp:Pt F L S.length ps)(ha:Abv L S ps nx hide ps.length ab)(h2:2<=ps.length):ab.length<S.length+(if L=0 then 1 else 0):=by
  have hal:=ha.len;rcases Nat.eq_zero_or_pos L with e|e
  · rw[if_pos e]
    rcases hp.count with h|h<;>omega
  · rw[if_neg (by omega)]
    have:=hp.count2 e (B.pos e);omega
theorem Bt.fin(B:Bt F l L nx S ks hide st mm lo pg off)(hp:Pt F L S.length ps)(h4:4<=F)(h6:F<=6)(hm:Mv F nx l l')(hh:∀ i,i<ps.length->Holds (nad F (nx+i)) l' (pgL L S ps nx i))(h1':ps.length=1){l2:List Cel}(hl2:l2=putAt (putAt l' 0 ((nx:Int),⟨#[]⟩,0)) 4 ((nx:Int),⟨#[]⟩,0)) :
    ∃ st2 mm2 lo2 pg2 off2,Tr F l2 (L+1) st2 mm2 lo2 pg2/\Leaves ks (mm2 0) (lo2 0) (pg2 0) off2/\st2 0=1/\(hide=false->Full (L+1) mm2 lo2 pg2 st2)/\Nats l2/\l2.length=l.length/\Rest F ks.length l2/\(∀ n,1<=n->n<=Cf.N->cellAt l2 (nla F n)=cel0)/\(∀ L',L'<L+1->∀ i,i<mm2 L'->∀ x∈(pg2 L' i).xs,cov (pg2 L' i) x.1=true)/\st2 L<=100:=by
  have hB0:100<=Cf.N:=Big.ge;have hNF:0<=(Cf.N:Int)*(F:Int)/\(Cf.N:Int)*(F:Int)<=131072:=(limF (F:=F) h4 h6).nf;have hroom:=B.room hp;have hnx:=B.nx1;have hnc:NatCell ((nx:Int),⟨#[]⟩,0):=⟨nx,0,_,rfl,by omega,by omega⟩;obtain⟨a1,a2,a3⟩:=Mv.ctrPoke (nx:=Cf.N+1) h4 h6 (Nat.le_refl _) l' (a:=0) (by omega) _ hnc;obtain⟨b1,b2,b3⟩:=Mv.ctrPoke (nx:=Cf.N+1) h4 h6 (Nat.le_refl _) (putAt l' 0 ((nx:Int),⟨#[]⟩,0)) (a:=4) (by omega) _ hnc;have hbig:=B.big;have hlen:=hm.len;have c1:∀ n,1<=n->n<Cf.N+1->∀ r,r<F+3->cellAt l2 (nad F n r)=cellAt l' (nad F n r):=λ n hn1 hn2 r hr=>by rw[hl2];exact(b1 n hn1 hn2 r hr).trans (a1 n hn1 hn2 r hr)
  have c2:∀ n,1<=n->n<=Cf.N->cellAt l2 (nla F n)=cellAt l' (nla F n):=λ n hn1 hn2=>by rw[hl2];exact(b2 n hn1 hn2).trans (a2 n hn1 hn2)
  obtain⟨h1,h3,h4',h5,h6'⟩:=B.levels (l':=l2) hp (λ n hn1 hn2 r hr=>(c1 n hn1 (by omega) r hr).trans (hm.low n hn1 hn2 r hr)) (λ n hn1 hn2=>(c2 n hn1 hn2).trans (hm.lat n hn1 hn2)) (λ i hi r hr=>by
    have hl:=pg_len (nx:=nx) hp hi;exact(c1 (nx+i) (by omega) (by omega) r (by omega)).trans (hh i hi r hr))
  refine⟨_,_,_,_,_,⟨by omega,h1,h3,h4',?_,?_,?_⟩,h5.1,h5.2,h6',by rw[hl2];exact b3 (a3 (hm.nats B.nats)),by rw[hl2,putAt_length,putAt_length,hlen],?_,λ n h1 h2=>(c2 n h1 h2).trans ((hm.lat n h1 h2).trans (B.zero n h1 h2)),(λ L' hL i hi x hx=>by
    by_cases e:L'=L
    · subst e;rw[upd_at] at hi hx;rw[upd_at];exact pg_cov B.asc hp hi hx
    · rw[upd_ne _ _ e] at hi hx;rw[upd_ne _ _ e];exact B.hi L' (by omega) i hi x hx),by rw[upd_at];omega⟩
  · rw[Nat.add_sub_cancel,upd_at];exact h1'
  · rw[Nat.add_sub_cancel,upd_at,hl2,cellAt_other (by omega),cellAt_same ⟨by omega,by rw[hlen];omega⟩]
  · rw[Nat.add_sub_cancel,upd_at,hl2,cellAt_same ⟨by omega,by rw[putAt_length,hlen];omega⟩]
  · have hr:=hm.rest B.rest
    rw[hl2];refine⟨λ i hi=>?_,?_⟩
    · rw[cellAt_other (by omega),cellAt_other (by omega)];exact hr.1 i hi
    · rw[cellAt_other (by omega),cellAt_other (by omega)];exact hr.2
end
def slotsOf(ks:List ByteArray):List Sl:=ks.zipIdx.map λ x=>(x.1,x.2+1)
theorem slotsOf_length(ks:List ByteArray):(slotsOf ks).length=ks.length:=by unfold slotsOf;simp
theorem slotsOf_at{ks:List ByteArray}{i:Nat}{x:Sl}(h:(slotsOf ks)[i]? = some x):ks[i]? = some x.1/\x.2=i+1:=by
  unfold slotsOf at h;rw[List.getElem?_map,List.getElem?_zipIdx] at h;cases hk:ks[i]? with
  | none=>rw[hk] at h;cases h
  | some k=>rw[hk] at h;cases h;exact⟨rfl,by simp⟩
theorem slotsOf_get{ks:List ByteArray}{i:Nat}{k:ByteArray}(h:ks[i]? = some k):(slotsOf ks)[i]? = some (k,i+1):=by
  unfold slotsOf;rw[List.getElem?_map,List.getElem?_zipIdx,h];simp
theorem slotsOf_step{ks:List ByteArray}{i:Nat}{k:ByteArray}(h:ks[i]? = some k):slotsOf (ks.take (i+1))=slotsOf (ks.take i)++[(k,i+1)]:=by
  apply List.ext_getElem?;intro j;have hl:(ks.take i).length=i:=by rw[List.length_take];have:=(List.getElem?_eq_some_iff.1 h).1;omega
  rcases Nat.lt_trichotomy j i with e|e|e
  · rw[List.getElem?_append_left (by rw[slotsOf_length,hl];exact e)]
    unfold slotsOf;rw[List.getElem?_map,List.getElem?_map,List.getElem?_zipIdx,List.getElem?_zipIdx,List.getElem?_take,List.getElem?_take,if_pos (by omega),if_pos e]
  · subst e
    rw[List.getElem?_append_right (by rw[slotsOf_length,hl];exact Nat.le_refl _),slotsOf_length,hl,Nat.sub_self];rw[slotsOf_get (k:=k) (by rw[List.getElem?_take,if_pos (by omega)];exact h)];rfl
  · rw[List.getElem?_append_right (by rw[slotsOf_length,hl];omega),slotsOf_length,hl,List.getElem?_eq_none (by rw[slotsOf_length,List.length_take];omega),List.getElem?_eq_none (by simp;omega)]
theorem Bt.start{F:Nat}{l:List Cel}{ks:List ByteArray}{hide:Bool}(hN:Nats l)(hb:10+((Cf.N:Int)*(F:Int)+(Cf.N:Int)*4)<=(l.length:Int))(hz:∀ n,1<=n->n<=Cf.N->cellAt l (nla F n)=cel0)(hk:ks.length<=40)(ha:∀ i a b,ks[i]? = some a->ks[i+1]? = some b->kl a b=true)(hr:Rest F ks.length l)(st mm:Nat->Nat)(lo:Nat->Nat->ByteArray)(pg:Nat->Nat->Pg)(off:Nat->Nat):Bt F l 0 1 (slotsOf ks) ks hide st mm lo pg off where
  nats:=hN
  big:=hb
  zero:=hz
  asc:=asc_of_get λ i x y hx hy=>ha i x.1 y.1 (slotsOf_at hx).1 (slotsOf_at hy).1
  ref:=λ x hx=>by
    obtain⟨i,hi⟩:=List.mem_iff_getElem?.1 hx;obtain⟨h1,h2⟩:=slotsOf_at hi;have:=(List.getElem?_eq_some_iff.1 h1).1;omega
  lev:=λ L' h=>by omega
  up:=λ L' h=>by omega
  ord:=λ L' h=>by omega
  base:=λ_=>⟨rfl,slotsOf_length ks,by rw[slotsOf_length];exact hk,λ i x hx=>slotsOf_at hx⟩
  more:=λ L' e=>by omega
  leaves:=λ h=>by omega
  full:=λ_ L' h=>by omega
  rest:=hr
  hi:=λ L' h=>by omega
end
end Go.Proofs.YtlkgmnjceghpiaaGreat
namespace Go.Proofs.YtlkgmnjceghpiaaGreat
section
open Go.RowKit Go.Deep Plain
variable [Cf]
set_option linter.unusedVariables false
set_option linter.unusedSectionVars false

def smG(mm:Nat->Nat):Nat->Nat
  | 0=>0
  | L+1=>smG mm L+mm L
structure LvG(F:Nat)(l:List Cel)(kk:Nat)(nn:Nat->Nat)(m L:Nat)(lo:Nat->ByteArray)(pg:Nat->Pg):Prop where
  pos:1<=m
  top:m<=Cf.N
  num:∀ i,i<m->1<=nn i/\nn i<=kk
  inj:∀ i j,i<m->j<m->nn i=nn j->i=j
  nd:∀ i,i<m->Nd F l (nn i) (pg i)
  lv:∀ i,i<m->(pg i).lv=L
  low0:lo 0=⟨#[]⟩
  next:∀ i,i+1<m->(pg i).la=false/\(pg i).rt=nn (i+1)/\(pg i).hi=lo (i+1)
  asc:∀ i,i+1<m->kl (lo i) (lo (i+1))=true
  last:∀ i,i+1=m->(pg i).la=true/\(pg i).rt=0
section
variable {F:Nat} {l:List Cel} {kk:Nat} {nn:Nat->Nat} {m L:Nat} {lo:Nat->ByteArray} {pg:Nat->Pg}
theorem LvG.mono(h:LvG F l kk nn m L lo pg){i:Nat}:∀{j:Nat},i<j->j<m->kl (lo i) (lo j)=true
  | 0,hij,_=>by omega
  | j+1,hij,hj=>by
    by_cases e:i=j
    · subst e;exact h.asc i hj
    · exact kl_trans (h.mono (j:=j) (by omega) (by omega)) (h.asc j hj)
end
structure TrG(F:Nat)(l:List Cel)(H kk:Nat)(nd:Nat->Nat->Nat)(mm:Nat->Nat)(lo:Nat->Nat->ByteArray)(pg:Nat->Nat->Pg):Prop where
  H1:1<=H
  k100:kk<=Cf.N
  lev:∀ L,L<H->LvG F l kk (nd L) (mm L) L (lo L) (pg L)
  up:∀ L,L+1<H->∀ i,i<mm (L+1)->(∃ r,(pg (L+1) i).xs[0]? = some (lo (L+1) i,r))/\∀ x∈(pg (L+1) i).xs,∃ j,j<mm L/\x=(lo L j,nd L j)
  sum:smG mm H<=kk
  one:1<=mm (H-1)
  root:cellAt l 0=((nd (H-1) 0:Int),⟨#[]⟩,0)
  tot:cellAt l 4=((kk:Int),⟨#[]⟩,0)
section
variable {F H kk:Nat} {l:List Cel} {nd:Nat->Nat->Nat} {mm:Nat->Nat} {lo:Nat->Nat->ByteArray} {pg:Nat->Nat->Pg}
theorem sm_mono{mm:Nat->Nat}{a:Nat}:∀{L:Nat},a<=L->smG mm a<=smG mm L
  | 0, h => by obtain rfl : a = 0 := by omega
               exact Nat.le_refl _
  | L+1,h=>by
    by_cases e:a=L+1
    · subst e;exact Nat.le_refl _
    · have:=sm_mono (mm:=mm) (a:=a) (L:=L) (by omega)
      show smG mm a<=smG mm L+mm L;omega
theorem TrG.height(T:TrG F l H kk nd mm lo pg):∀{L:Nat},L<=H->L<=smG mm L
  | 0,_=>Nat.zero_le _
  | L+1,h=>by
    have h1:=T.height (L:=L) (by omega);have h2:=(T.lev L (by omega)).pos;show L+1<=smG mm L+mm L;omega
theorem TrG.H100(T:TrG F l H kk nd mm lo pg):H<=Cf.N:=by
  have h1:=T.height (L:=H) (Nat.le_refl _);have h2:=T.sum;have h3:=T.k100;omega
theorem TrG.all(T:TrG F l H kk nd mm lo pg){L i:Nat}(hL:L<H)(hi:i<mm L):1<=nd L i/\nd L i<=kk/\kk<=Cf.N :=
  ⟨((T.lev L hL).num i hi).1,((T.lev L hL).num i hi).2,T.k100⟩
theorem TrG.find(T:TrG F l H kk nd mm lo pg)(key:ByteArray)(lvl:Nat)(hlvl:lvl<H):∀(n L i:Nat),lvl<=L->L<H->i<mm L->kl key (lo L i)=false->(mm L-i)+(smG mm L-smG mm lvl)<=n ->
    ∃ d j,j<mm lvl/\WPath F l (nxF key lvl) (nd L i) (pg L i) ⟨#[]⟩ d (nd lvl j) ⟨#[]⟩/\d<=n*(F+5)/\kl key (lo lvl j)=false/\cov (pg lvl j) key=true
  | 0,L,i,h1,h2,h3,h4,h5=>by omega
  | n+1,L,i,h1,h2,h3,h4,h5=>by
    have V:=T.lev L h2;have hnd:=V.nd i h3;have hlv:=V.lv i h3;have hlen:=hnd.len;have hmul:(n+1)*(F+5)=n*(F+5)+(F+5):=Nat.succ_mul _ _;cases hc:cov (pg L i) key
    · have hnl:i+1<mm L:=by
        rcases Nat.lt_or_ge (i+1) (mm L) with h|h
        · exact h
        · have:=(V.last i (by omega)).1
          unfold cov at hc;rw[this] at hc;cases hc
      obtain⟨hla,hrt,hhi⟩:=V.next i hnl;have hk2:kl key (lo L (i+1))=false:=by
        unfold cov at hc;rw[hla,hhi,Bool.false_or] at hc;exact hc
      obtain⟨d,j,hj,hp,hd,hjl,hjc⟩:=T.find key lvl hlvl n L (i+1) h1 h2 hnl hk2 (by omega);refine⟨(pg L i).xs.length+5+d,j,hj,.go hnd ?_ hp,by omega,hjl,hjc⟩;have hc':((pg L i).la||ltB key.toList (pg L i).hi.toList)=false:=hc;unfold nxF;rw[if_neg (by omega),if_pos hc',hrt]
    · by_cases e:lvl=L
      · subst e
        refine⟨(pg lvl i).xs.length+5,i,h3,.here hnd ?_,by omega,h4,hc⟩;have hc':¬ ((pg lvl i).la||ltB key.toList (pg lvl i).hi.toList)=false:=by
          intro h;have:cov (pg lvl i) key=false:=h;rw[this] at hc;cases hc
        unfold nxF;rw[if_neg (by omega),if_neg hc',if_neg (by omega)]
      · obtain⟨L',rfl⟩:∃ L',L=L'+1:=⟨L-1,by omega⟩
        obtain⟨⟨r0,h0⟩,hx⟩:=T.up L' h2 i h3;obtain⟨q,x,hxq,hnear,hxk, -⟩:=child_le hnd.asc h0 h4;obtain⟨j,hj,rfl⟩:=hx x (List.mem_of_getElem? hxq);have hord:smG mm (L'+1)=smG mm L'+mm L':=rfl;have hb:=sm_mono (mm:=mm) (a:=lvl) (L:=L') (by omega);obtain⟨d,j2,hj2,hp,hd,hjl,hjc⟩:=T.find key lvl hlvl n L' j (by omega) (by omega) hj hxk (by omega);refine⟨(pg (L'+1) i).xs.length+5+d,j2,hj2,.go hnd ?_ hp,by omega,hjl,hjc⟩;have hc':¬ ((pg (L'+1) i).la||ltB key.toList (pg (L'+1) i).hi.toList)=false:=by
          intro h;have:cov (pg (L'+1) i) key=false:=h;rw[this] at hc;cases hc
        unfold nxF;rw[if_neg (by omega),if_neg hc',if_pos (by omega),hnear]
theorem TrG.first(T:TrG F l H kk nd mm lo pg){L:Nat}(hL:L+1<H):(pg (L+1) 0).xs[0]? = some (⟨#[]⟩,nd L 0):=by
  have V:=T.lev (L+1) hL;have V2:=T.lev L (by omega);obtain⟨⟨r,h0⟩,hx⟩:=T.up L hL 0 V.pos;obtain⟨j,hj,he⟩:=hx _ (List.mem_of_getElem? h0);rw[V.low0] at he h0;have h1:lo L j=⟨#[]⟩:=by injection he with a;exact a.symm
  have hj0:j=0:=by
    rcases Nat.eq_zero_or_pos j with e|e
    · exact e
    · have:=V2.mono e hj
      rw[h1] at this;rw[kl_nil] at this;cases this
  subst hj0;rw[h0,he,h1]
end
end
end Go.Proofs.YtlkgmnjceghpiaaGreat
