/-
 A planted tree as what holds of a whole tree; 'forest' of layer 14's laws. Condition: a fanout of four to six,at least a hundred nodes.
-/
import Derived.Test.YtlkgmnjceghpiaaGreatPoTr
import Derived.Test.YtlkgmnjceghpiaaGreatLkLevel
import Derived.Test.YtlkgmnjceghpiaaGreatLkTreeL
import Derived.Test.YtlkgmnjceghpiaaGreatLkAux
import Derived.Deep.CutBlock
namespace Go.Proofs.YtlkgmnjceghpiaaGreat
open Go.RowKit Go.Deep Plain
set_option linter.unusedSectionVars false
set_option linter.unusedVariables false
open _root_.Go.Proofs.Tryz
open Go.Value (int)
set_option maxHeartbeats 8000000
set_option maxRecDepth 100000
section
variable [Cf]

section
variable {F H n:Nat} {l:List Cel} {st mm:Nat->Nat} {lo:Nat->Nat->ByteArray} {pg:Nat->Nat->Pg} {ks:List ByteArray} {off:Nat->Nat}
theorem Tr.below_sm(T:Tr F l H st mm lo pg)(h0:st 0=1):∀{L:Nat},L<H->smG mm L+1=st L
 | 0,_=>h0.symm
 | L+1,hL=>by
  have h1:=T.below_sm h0 (L:=L) (by omega);have h2:=T.ord L hL;show smG mm L+mm L+1=_;omega
theorem Lvl.toG{kk s m L:Nat}{lo0:Nat->ByteArray}{pg0:Nat->Pg}(V:Lvl F l s m L lo0 pg0)(hk:s+m<=kk+1):LvG F l kk (λ i=>s+i) m L lo0 pg0 :=
 ⟨V.pos,by have:=V.top;have:=V.s1;omega,λ i hi=>by have:=V.s1;show 1<=s+i/\s+i<=kk;omega,λ i j _ _ e=>by have e':s+i=s+j:=e;omega,V.nd,V.lv,V.low0,V.next,V.asc,V.last⟩
theorem Tr.room(T:Tr F l H st mm lo pg){L:Nat}(hL:L<H):st L+mm L<=st (H-1)+1:=by
 have hH:=T.H1;rcases Nat.lt_or_ge (L+1) H with h|h
 ·have h1:=T.ord L h
  have h2:=T.below (a:=L+1) (L:=H-1) (by omega) (by omega);omega
 ·obtain rfl:L=H-1:=by omega
  have:=T.one;omega
theorem Tr.toG(T:Tr F l H st mm lo pg)(h0:st 0=1):TrG F l H (st (H-1)) (λ L i=>st L+i) mm lo pg:=by
 have hH:=T.H1;refine⟨hH,(T.all (L:=H-1) (i:=0) (by omega) (by have:=T.one;omega)).2.2,λ L hL=>(T.lev L hL).toG (T.room hL),λ L hL i hi=>T.up L hL i hi,?_,by have:=T.one;omega,T.root,T.tot⟩;have h1:=T.below_sm h0 (L:=H-1) (by omega);have h2:=T.one;have e:smG mm H=smG mm (H-1)+mm (H-1):=by
  obtain⟨h,rfl⟩:∃ h,H=h+1:=⟨H-1,by omega⟩
  rfl
 omega
theorem Leaves.toG{m:Nat}{lo0:Nat->ByteArray}{pg0:Nat->Pg}(h:Leaves ks m lo0 pg0 off):LeavesG ks (λ p=>p+1) m lo0 pg0 off:=⟨h.zero,h.all,h.step,h.slot,h.low,h.high⟩
theorem refs_1(n:Nat):RefsG (λ p=>p+1) n:=⟨λ p hp=>by show 1<=p+1/\p+1<=n;omega,λ p q _ _ e=>by have e':p+1=q+1:=e;omega⟩
theorem TS.planted(T:Tr F l H st mm lo pg)(hlv:Leaves ks (mm 0) (lo 0) (pg 0) off)(h0:st 0=1)(hk:ks.length<=40)(hN:Nats l)(hlen:l.length=n)(hroom:10+((Cf.N:Int)*(F:Int)+(Cf.N:Int)*4)<=(n:Int))(hr:Rest F ks.length l)(hla:∀ t,1<=t->t<=Cf.N->cellAt l (nla F t)=cel0)(h6:F<=6)(hhi:∀ L,L<H->∀ i,i<mm L->∀ x∈(pg L i).xs,cov (pg L i) x.1=true):TS F n (st (H-1)) ks.length H (λ L i=>st L+i) mm lo pg l:=by
 have hN2:=Cf.n2;refine⟨T.toG h0,hlen,hroom,hN,λ t h1 h2=>⟨0,rfl,hla t h1 h2⟩,hr,λ L i hL hi=>?_,λ L i hL hi=>hhi L hL i hi⟩;have V:=T.lev L hL;have hnd:=V.nd i hi;have hlen:=hnd.len;have hl:=V.lv i hi;have hH:=T.H100;have hnf:=hN (nad F (st L+i) 2);refine⟨by omega,?_,λ x hx=>?_,?_⟩
 ·rcases Nat.lt_or_ge (i+1) (mm L) with h|h
  ·rw[(V.next i h).2.1]
   have:=V.top;omega
  ·rw[(V.last i (by omega)).2];omega
 ·cases L with
  | zero =>
   obtain⟨q,hq⟩:=List.getElem?_of_mem hx;have h1:=hlv.slot i hi q x hq;have:=(List.getElem?_eq_some_iff.1 h1.1).1;rw[h1.2];omega
  | succ L =>
   obtain⟨j,hj,rfl⟩:=(T.up L hL i hi).2 x hx;have:=(T.lev L (by omega)).top;show st L+j<_;omega
 ·have h1:=hnd.holds 0 (by omega)
  obtain⟨a,b,K,e,ha, -⟩:=hN (nad F (st L+i) 0);rw[h1] at e;have:((pg L i).xs.length:Int)=(a:Int):=congrArg (λ c:Cel=>c.1) e;have hF:(pg L i).xs.length<=F:=hlen;have hF6:F<9223372036854775808:=by omega
  omega
theorem TS.bare{nd:Nat->Nat->Nat}{kk k5:Nat}(h:TS F n kk k5 H nd mm lo pg l)(h4:4<=F)(h6:F<=6)(h1:nd 0 0=1):TS F n kk k5 1 nd mm lo pg (putAt l 0 (1,⟨#[]⟩,0)):=by
 have hH:=h.tr.H1;have hNF:=(limF (F:=F) h4 h6).nf;have hroom:=h.room;have hlen:=h.len;have hx:∀ i:Int,i≠0->cellAt (putAt l 0 (1,⟨#[]⟩,0)) i=cellAt l i:=λ i hi=>cellAt_other (Ne.symm hi) _;have hlat:∀ t,1<=t->t<=Cf.N->∃ wd:Nat,wd%4=0/\cellAt (putAt l 0 (1,⟨#[]⟩,0)) (nla F t)=((wd:Int),(⟨#[]⟩:ByteArray),(0:Int)):=λ t a b=>by
  rw[hx _ (by have:=nla_rng h4 h6 a b;omega)];exact h.lat t a b
 refine⟨⟨by omega,h.tr.k100,λ L hL=>?_,λ L hL=>by omega,?_,(h.tr.lev 0 (by omega)).pos,?_,(hx 4 (by omega)).trans h.tr.tot⟩,by rw[putAt_length];exact hlen,h.room,h.nats.put 0 ⟨1,0,_,rfl,by omega,by omega⟩,hlat,⟨λ i hi=>(hx i (by omega)).trans (h.rest.1 i hi),(hx 5 (by omega)).trans h.rest.2⟩,λ L i hL hi=>h.fits L i (by omega) hi,λ L i hL hi=>h.hi L i (by omega) hi⟩
 ·have V:=h.tr.lev L (by omega)
  refine⟨V.pos,V.top,V.num,V.inj,λ i hi=>?_,V.lv,V.low0,V.next,V.asc,V.last⟩;have hn:=h.num (L:=L) (by omega) hi;have hd:=V.nd i hi;have hdl:=hd.len;exact hd.to (λ r hr=>hx _ (by rw[nad_eq hn.1 hn.2 (by omega)];have:=nla_rng h4 h6 hn.1 hn.2;omega)) (hlat _ hn.1 hn.2)
 ·have h2:=sm_mono (mm:=mm) (a:=1) (L:=H) hH
  have:=h.tr.sum;omega
 ·show cellAt _ 0=((nd 0 0:Int),_,_)
  rw[h1];exact cellAt_same (by omega) _
end
theorem forest_any[Big](F:Nat)(h4:4<=F)(h6:F<=6)(b g:Nat)(l:List Cel)(k:Nat)(AR:Option Addr)(nR cR:Nat)(ss:List ByteArray)(hnR:ss.length=nR)(sh:Int)(hs:0<=sh)(bare:Bool)(w:World)(hm:Mem w b g l k)(hS:Start F l)(hrd:Rdv w w.heap.size (.slice AR nR cR) nR (ss.map Value.string))(hsz:∀ s∈ss,s.size<=maxLen) :
  Calls prog 10 #[.agg #[int .i64 1,int .i64 2,int .i64 Cf.N,int .i64 Cf.C,int .i64 Cf.R,int .i64 F,int .u64 Cf.K],.pointer (some ⟨b,0,none⟩),.slice AR nR cR,int .u64 sh,.bool bare] w λ e w'=>∃(ks:List ByteArray) (H kk:Nat) (nd:Nat->Nat->Nat) (mm:Nat->Nat) (lo:Nat->Nat->ByteArray) (pg:Nat->Nat->Pg) (off:Nat->Nat) (l2:List Cel),e=.returned (.tuple #[])/\Mem w' b g l2 k/\TS F l.length kk ks.length H nd mm lo pg l2/\LeavesG ks (λ p=>p+1) (mm 0) (lo 0) (pg 0) off/\ks.length<=40/\kk<=100/\(bare=true->H=1)/\Kept (Own b g) w w':=by
 have HM:=Hd hm;have HS:=Hd hS;have HRD:=Hd hrd;have HSS:=Hd hsz;have HN0:=Hd (show b<w.heap.size/\g<w.heap.size from⟨hm.obj.lt,hm.row.lt⟩);clear hm hS hrd hsz;go_enter func10,ntmps10;go_upto_region 1 with fail
 have hal:=(Kept.refl (λ_=>False) w).alloc (.cells #[int .i64 1,int .i64 2,int .i64 Cf.N,int .i64 Cf.C,int .i64 Cf.R,int .i64 F,int .u64 Cf.K] 25);have H11:=Hd (Blk.new w [int .i64 1,int .i64 2,int .i64 Cf.N,int .i64 Cf.C,int .i64 Cf.R,int .i64 F,int .u64 Cf.K] 25);replace HM:=Hd (HM.o.alloc (.cells #[int .i64 1,int .i64 2,int .i64 Cf.N,int .i64 Cf.C,int .i64 Cf.R,int .i64 F,int .u64 Cf.K] 25));replace HRD:=Hd (HRD.o.keptN hal (Nat.le_refl _));have HK:=Hd (hal.mono (T:=Own b g) (λ_ h=>h.elim));generalize hr1:w.heap.size=r1 at *;clear hal;generalize w.alloc (.cells #[int .i64 1,int .i64 2,int .i64 Cf.N,int .i64 Cf.C,int .i64 Cf.R,int .i64 F,int .u64 Cf.K] 25)=W at *;have HNO:=Hd (show b<r1/\g<r1 from HN0.o);refine wp_region_held_drew (S:=(λ w'=>Kept (Own b g) W w')) (by kernel_rfl) ?_ (λ hH=>?_)
 ·exact(Kept.refl _ _).drew
 have HW:=Hd ((Kept.refl (Own b g) W).drew);have HWn:=Hd ((Kept.refl (λ_=>False) W).drew);generalize W.drew=G at *;refine tkI 0 10 hH ?_ (hv:=by intro wq hSw;have hb9:=hSw.blk H11.o (λ h=>by have h1:=HNO.o;rcases h with h|h<;>omega);have y75:=hb9.c7;clear hb9;exact qq1);refine tkI 1 11 hH ?_;refine tkI 2 12 hH ?_;refine tkI 4 14 hH ?_;refine rdH 3 (some 13) rfl λ KK hK=>?_;go_simp;go_at_call 35;refine(keys_any AR nR cR ss 36 _ hnR (by omega) (HRD.o.keptN (HWn.o) (Nat.le_refl _)) HSS.o).mono ?_;rintro e G ⟨vk,rfl,hO3,hB3⟩;have hK3:=Below.kept hB3 (S:=λ_=>False) (λ i hi h=>by omega);replace HWn:=Hd (HWn.o.trans hK3 kk2);replace HW:=Hd (HW.o.trans hK3 (λ_ _ h=>h.elim));obtain⟨AK,cK,rfl,hKr,hAK⟩:=keys_read hO3;obtain⟨ks,hks⟩:∃ ks,keysOf (ss.take 36)=ks:=⟨_,rfl⟩;have hks':(PlainE.keysE (ss.take 36)).map (·.1)=ks:=by rw[←hks];unfold keysOf;rw[List.take_take];rfl
 rw[hks'] at hKr;rw[hks'];obtain⟨nk,hnk⟩:∃ nk,ks.length=nk:=⟨_,rfl⟩;rw[hnk];have HKR:=Hd hKr;have HKF:=Hd (show ks.length<=40/\((∀ k∈ks,k.size<=32)/\∀ i a b,ks[i]? = some a->ks[i+1]? = some b->kl a b=true) from by rw[←hks];exact⟨keysOf_len _,keysOf_facts _⟩);have HNK:=Hd hnk;clear hO3 hB3 hK3 hKr hAK hks hks' hnk;refine hkO hK HW.o λ h2=>?_;replace hH:=h2;clear hK KK h2
 refine rdH 5 (some 15) rfl λ KK hK=>?_;go_simp;go_at_call 34;refine(plant_any F h4 h6 b g l k AK nk cK ks sh hs true _ (HM.o.kept HWn.o id id) HKR.o HNK.o HKF.o.1 HS.o.nats HS.o.lo (HS.o.latches h4 h6) HKF.o.2 (HS.o.rest)).mono ?_;rintro e G ⟨H,l2,rfl,hM4,hP4,hK4⟩;replace HW:=Hd (HW.o.trans hK4 kk2);have HM4:=Hd hM4;have HP4:=Hd hP4;clear hM4 hP4 hK4;refine hkO hK HW.o λ h2=>?_;replace hH:=h2;clear hK KK h2
 refine dnH ?_;clear hH;obtain⟨st,mm,lo,pg,off,hT,hLv,hs0, -,hNat,hlen,hRe,hLa,hHi,h100⟩:=HP4.o;have hTS:=TS.planted hT hLv hs0 HKF.o.1 hNat hlen (by have:=HS.o.lo;exact this) hRe hLa h6 hHi;have HTS:=Hd hTS;have HLV:=Hd hLv.toG;have H100:=Hd h100;have HS0:=Hd hs0;have HKX:=Hd (HK.o.trans HW.o kk2);clear hTS hT hLv hs0 hNat hlen hRe hLa hHi h100 HP4;cases bare with
 | false =>
  go_wp2;go_end0;exact⟨ks,H,_,_,mm,lo,pg,off,l2,rfl,HM4.o,HTS.o,HLV.o,HKF.o.1,H100.o,λ e=>(by cases e),HKX.o.mono (λ_ h=>h)⟩
 | true =>
  go_wp2_with fail;refine(poke_any b g l2 k 0 1 0 ⟨#[]⟩ _ HM4.o).mono ?_;rintro e V5 ⟨rfl,hM5,hK5⟩;have HM5:=Hd hM5;have HKY:=Hd (HKX.o.trans hK5 kk2);clear hM5 hK5;go_wp2;go_end0;exact⟨rfl,ks,1,_,_,mm,lo,pg,off,_,HM5.o,HTS.o.bare h4 h6 (by show st 0+0=1;rw[HS0.o]),HLV.o,HKF.o.1,H100.o,rfl,HKY.o⟩

end
end Go.Proofs.YtlkgmnjceghpiaaGreat
