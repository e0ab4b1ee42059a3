/-
  What the kit's Plant,View and Height answer. Condition: the kit's small configurations.
-/
import Derived.Test.YtlkgmnjceghpiaaGreatLkView
import Derived.Test.YtlkgmnjceghpiaaGreatTgTree
import Derived.Test.YtlkgmnjceghpiaaGreatLkPage
namespace Go.Proofs.YtlkgmnjceghpiaaGreat
open Go.RowKit Go.Deep Plain
set_option linter.unusedSectionVars false
set_option linter.unusedVariables false
open _root_.Go.Proofs.Tryz
open Go.Value (int)
set_option maxHeartbeats 8000000
set_option maxRecDepth 100000
section
variable [Cf]

theorem poke_to(b g:Nat)(l:List Cel)(k:Nat)(i N:Int)(nN:Nat)(M:Int)(K:ByteArray)(w:World)(hN:N=(nN:Int))(h:Mem w b g l k) :
    Calls prog 24 #[.pointer (some ⟨b,0,none⟩),int .i64 i,.agg #[int .u64 N,.string K,int .u64 M]] w λ e w'=>e=.returned (.tuple #[])/\Mem w' b g (putAt l i ((nN:Int),K,M)) k/\Kept (Own b g) w w':=by
  subst hN;exact poke_any b g l k i _ M K w h
section
variable {w:World} {ops:Array Oper} {rest:List Oper} {o:Oper} {a:Act} {Q:Exit->Act->World->Prop}
theorem wpList_snoc(hgd:o.guard=none)(s x:Operand)(ho:o.op=.call { callee:=.builtin .append,args := #[s,x],argTypes := #[62,62] })
    (base:Nat) (v:Value) (n:Nat) (xs:List Sl) (hs:a.eval s=v) (hown:w.ownsRow base 70 2 v n (flat xs)) (ad:Addr) (k:ByteArray) (r:Nat) (hx:a.eval x=.slice (some ad) 1 1)
    (hR:Rs w (some ad) 1 [(k,r)]) (h40:n+1<=1099511627776) (hbase:base<=w.heap.size)
    (h:∀ v' w',w'.ownsRow base 70 2 v' (n+1) (flat (xs++[(k,r)]))->Kept (λ i=>some i=v.ownBlock) w w'->wpList prog ops Q rest (a.put o.dst v') w'):wpList prog ops Q (o::rest) a w:=by
  obtain⟨i,hi,hz0,hz1,hz2⟩:=info_parts Tryz.info70;refine wpList_append_own w hgd s x 62 ho base 70 i _ 2 24 Tryz.underlying62 hi hz0 hz1 hz2 rfl (by decide) v n (flat xs) hs hown ad 1 1 (flat [(k,r)]) hx (by rw[flat_length];rfl) ?_ (flat_one _) (by unfold maxLen;omega) (by omega) hbase ?_
  · intro j u hu
    obtain⟨g,off,e,_,hc⟩:=hR.some' (by simp);cases e;rw[Addr.add_lit];exact hc j u hu
  · intro v' w' hown' hgr _
    refine h v' w' (by rw[flat_append];exact hown') ?_;exact(Kept.refl _ w).grown hgr λ k hk _=>hk.symm
end
def Kr(w:World)(A:Option Addr)(ks:List ByteArray):Prop:=0<ks.length->∃ g off,A=some ⟨g,off,none⟩/\g<w.heap.size/\∀(i:Nat) (k:ByteArray),ks[i]? = some k->w.cell? ⟨g,off+i,none⟩=some (.string k)
theorem Kr.kept{w w':World}{A:Option Addr}{ks:List ByteArray}{Y:Nat->Prop}(h:Kr w A ks)(hk:Kept Y w w')(hY:∀ a,A=some a->¬ Y a.block):Kr w' A ks:=λ hp=>by
  obtain⟨g,off,e,hg,hc⟩:=h hp;exact⟨g,off,e,Nat.lt_of_lt_of_le hg hk.size,λ i k hi=>(hk.cell (p:=⟨g,off+i,none⟩) hg (show ¬ Y g from hY _ e)).trans (hc i k hi)⟩

theorem Rs.keptP{Y:Nat->Prop}{w w':World}{A:Option Addr}{c:Nat}{xs:List Sl}(h:Rs w A c xs)(hk:Kept Y w w')(hA:0<xs.length->∀ a,A=some a->¬ Y a.block):Rs w' A c xs :=
  ⟨h.le,h.max,h.none',λ hp=>by
    obtain⟨g,off,e,hg,hc⟩:=h.some' hp;exact⟨g,off,e,Nat.lt_of_lt_of_le hg hk.size,λ j u hu=>(hk.cell (p:=⟨g,off+j,none⟩) hg (show ¬ Y g from hA hp _ e)).trans (hc j u hu)⟩⟩
theorem kput_to(F nid:Nat)(h4:4<=F)(h6:F<=6)(hn1:1<=nid)(hn2:nid<=Cf.N)(lv:Nat)(A:Option Addr)(c:Nat)(hi:ByteArray)(la:Bool)(rt:Nat)(xs:List Sl)(n:Nat)(hn:xs.length=n)(hw:la=true->hi=⟨#[]⟩)(hlen:n<=F)(hlv:lv<9223372036854775808)(b g:Nat)(l:List Cel)(k:Nat)(w:World)(hm:Mem w b g l k)(hR:Rs w A c xs)(hA:∀ a,A=some a->¬ Own b g a.block) :
    Calls prog 32 #[.agg #[int .i64 1,int .i64 2,int .i64 Cf.N,int .i64 Cf.C,int .i64 Cf.R,int .i64 F,int .u64 Cf.K],.pointer (some ⟨b,0,none⟩),int .u64 nid,.agg #[int .i64 lv,.slice A n c,.string hi,.bool la,int .u64 rt]] w λ e w'=>e=.returned (.tuple #[])/\Mem w' b g (app l (pst (nad F nid) (⟨lv,hi,la,rt,xs⟩:Pg))) k/\Kept (Own b g) w w':=by
  subst hn;exact kput_any F nid h4 h6 hn1 hn2 ⟨lv,hi,la,rt,xs⟩ hw hlen hlv A c b g l k w hm hR hA
def slLen:Value->Nat
  | .slice _ n _=>n
  | _=>0
theorem flat_take_snoc{ks:List ByteArray}{i:Nat}{k:ByteArray}(h:ks[i]? = some k):flat (slotsOf (ks.take i)++[(k,i+1)])=flat (slotsOf (ks.take (i+1))):=by rw[slotsOf_step h]
def Planted(F:Nat)(ks:List ByteArray)(hide:Bool)(n0 H:Nat)(l2:List Cel):Prop :=
  ∃ st mm lo pg off,Tr F l2 H st mm lo pg/\Leaves ks (mm 0) (lo 0) (pg 0) off/\st 0=1/\(hide=false->Full H mm lo pg st)/\Nats l2/\l2.length=n0/\Rest F ks.length l2/\(∀ n,1<=n->n<=Cf.N->cellAt l2 (nla F n)=cel0)/\(∀ L',L'<H->∀ i,i<mm L'->∀ x∈(pg L' i).xs,cov (pg L' i) x.1=true)/\st (H-1)<=100
theorem pt_of{F least n L:Nat}{ps:List Nat}(h:Grp F least n 0 ps)(hn:0<n)(hL:1<=L->least=2):Pt F L n ps:=by
  have hs:=h.sum;rw[Nat.add_zero] at hs;refine⟨?_,hs,λ i p hp=>(h.le i p hp).2,λ_ i p hp=>(h.le i p hp).1,λ h1 i p hp hi=>?_,λ e=>by omega⟩
  · cases ps with
    | nil=>simp at hs;omega
    | cons x r=>simp
  · rcases h.ge i p hp with h2|⟨-,h2⟩
    · rw[hL h1] at h2;exact h2
    · omega
def Ir(w:World)(A:Option Addr)(base:Nat)(ps:List Nat):Prop:=0<ps.length->∃ g off,A=some ⟨g,off,none⟩/\g<w.heap.size/\base<=g/\∀(i p:Nat),ps[i]? = some p->w.cell? ⟨g,off+i,none⟩=some (int .i64 p)
theorem ints_read{w:World}{base n:Nat}{v:Value}{ps:List Nat}(h:w.ownsRow base 3 1 v n (ints ps)):∃ A c,v=.slice A ps.length c/\Ir w A base ps:=by
  have hl:ps.length=n:=by have:=h.1;rw[ints_length] at this;omega
  rcases h.2 with⟨rfl,rfl⟩|⟨g,cap,cur,rfl,hb,hg,hc,hm,rest⟩
  · exact⟨none,0,by rw[hl],λ hp=>by omega⟩
  · refine⟨_,cap,by rw[hl],λ_=>⟨g,0,rfl,(Array.getElem?_eq_some_iff.1 hg).1,hb,λ i p hi=>?_⟩⟩
    have:=World.ownsRow.cells h (g:=g) rfl i _ (ints_at hi);rw[Addr.add_lit] at this;exact this
theorem Bt.small[Big]{F L nx:Nat}{l:List Cel}{S:List Sl}{ks:List ByteArray}{hide:Bool}{st mm:Nat->Nat}{lo:Nat->Nat->ByteArray}{pg:Nat->Nat->Pg}{off:Nat->Nat}(B:Bt F l L nx S ks hide st mm lo pg off):S.length<=1000:=by
  rcases Nat.eq_zero_or_pos L with e|e
  · have:=(B.base e).2.2.1;omega
  · obtain⟨L',rfl⟩:∃ L',L=L'+1:=⟨L-1,by omega⟩
    have:=(B.more L' rfl).2.2.2.1;unfold cap at this;split at this<;>omega
theorem Bt.nx100[Big]{F L nx:Nat}{l:List Cel}{S:List Sl}{ks:List ByteArray}{hide:Bool}{st mm:Nat->Nat}{lo:Nat->Nat->ByteArray}{pg:Nat->Nat->Pg}{off:Nat->Nat}(B:Bt F l L nx S ks hide st mm lo pg off):nx<=100:=by
  rcases Nat.eq_zero_or_pos L with e|e
  · have:=(B.base e).1;omega
  · obtain⟨L',rfl⟩:∃ L',L=L'+1:=⟨L-1,by omega⟩
    have h1:=(B.more L' rfl).2.2.2.1;have:=cap_pos S.length;omega
theorem pt_zero(F L:Nat):Pt F L 0 [0]:=⟨by simp,rfl,λ i p hp=>by
  have:=(List.getElem?_eq_some_iff.1 hp).1;simp at this;subst this;simp at hp;omega,λ h=>by omega,λ_ i p _ hi=>by simp at hi,λ_=>rfl⟩
theorem plant_any[Big](F:Nat)(h4:4<=F)(h6:F<=6)(b g:Nat)(l:List Cel)(k:Nat)(AK:Option Addr)(n cK:Nat)(ks:List ByteArray)(sh:Int)(hs:0<=sh)(hide:Bool)(w:World)(hm:Mem w b g l k)(hkr:Kr w AK ks)(hn:ks.length=n)(hk40:ks.length<=40)(hN:Nats l)(hbig:10+((Cf.N:Int)*(F:Int)+(Cf.N:Int)*4)<=(l.length:Int))(hz:∀ m,1<=m->m<=Cf.N->cellAt l (nla F m)=cel0)(has:(∀ k∈ks,k.size<=32)/\∀ i a b,ks[i]? = some a->ks[i+1]? = some b->kl a b=true)(hrz:∀ i:Int,((1<=i/\i<=3)\/(6<=i/\i<10)\/10+((Cf.N:Int)*(F:Int)+(Cf.N:Int)*4)<=i)->cellAt l i=cel0) :
    Calls prog 34 #[.agg #[int .i64 1,int .i64 2,int .i64 Cf.N,int .i64 Cf.C,int .i64 Cf.R,int .i64 F,int .u64 Cf.K],.pointer (some ⟨b,0,none⟩),.slice AK n cK,int .u64 sh,.bool hide] w λ e w'=>∃(H:Nat) (l2:List Cel),e=.returned (int .i64 H)/\Mem w' b g l2 k/\Planted F ks hide l.length H l2/\Kept (Own b g) w w':=by
  have hbw:=hm.obj.lt;have hgw:=hm.row.lt;have hne:=hm.ne;have HM:=Hd hm;have HKR:=Hd hkr;have HN:=Hd hn;have HNA:=Hd hN;have HZ:=Hd hz;have HAS:=Hd has;have HBIG:=Hd hbig;have HRZ:=Hd hrz;have h40:n<=40:=hn ▸ hk40;clear hm hkr hn hk40 hN hz has hbig hrz;go_enter func34,ntmps34;go_wp2;have hal:=(Kept.refl (λ_=>False) w).alloc (.cells #[int .i64 1,int .i64 2,int .i64 Cf.N,int .i64 Cf.C,int .i64 Cf.R,int .i64 F,int .u64 Cf.K] 25);have HBX:=Hd (Blk.new w [int .i64 1,int .i64 2,int .i64 Cf.N,int .i64 Cf.C,int .i64 Cf.R,int .i64 F,int .u64 Cf.K] 25);have HM0:=Hd (HM.o.alloc (.cells #[int .i64 1,int .i64 2,int .i64 Cf.N,int .i64 Cf.C,int .i64 Cf.R,int .i64 F,int .u64 Cf.K] 25));have HKR0:=Hd (HKR.o.kept hal kk2);have hsz:(w.alloc (.cells #[int .i64 1,int .i64 2,int .i64 Cf.N,int .i64 Cf.C,int .i64 Cf.R,int .i64 F,int .u64 Cf.K] 25)).heap.size=w.heap.size+1:=nblk_alloc _ _;have HK0:=Hd hal;clear hal HM HKR;generalize w.alloc (.cells #[int .i64 1,int .i64 2,int .i64 Cf.N,int .i64 Cf.C,int .i64 Cf.R,int .i64 F,int .u64 Cf.K] 25)=W at *;generalize hr0:w.heap.size=r0 at HBX ⊢;have HR0:=Hd hr0;have hszl:r0<W.heap.size:=by omega
  have hwl:w.heap.size<=r0:=by omega
  clear hsz hr0;go_loopw [11,12] (λ v iv wr=>∃ i:Nat,i<=n/\iv=int .i64 i/\slLen v=i/\wr.ownsRow W.heap.size 70 2 v i (flat (slotsOf (ks.take i)))/\Below W.heap.size W wr) (λ_ iv _=>n-(intOf iv).toNat)
  case atStart=>exact⟨0,Nat.zero_le _,rfl,rfl,World.ownsRow_nil _ _ _ _,Below.refl _ _⟩
  case round =>
    obtain⟨i,hi,rfl,hsl,hO,hB⟩:=hrel;have HO:=Hd hO;have HB:=Hd hB;have hzr:=hB.size;obtain⟨A0,c0,rfl, -, -, -⟩:=Rs.own hO;clear hO hB hsl
    by_cases hlt:i<n
    · obtain⟨gk,off,rfl,hgk,hkc⟩:=HKR0.o (by have:=HN.o;omega)
      obtain⟨ki,hki⟩:∃ k,ks[i]? = some k:=⟨_,List.getElem?_eq_getElem (by have:=HN.o;omega)⟩;have hkc1:wr.cell? ⟨gk,off+i,none⟩=some (.string ki):=(HB.o.cell (p:=⟨gk,off+i,none⟩) hgk).trans (hkc i ki hki);have HKI:=Hd hki;have hwi:IntKind.u64.wrap ((i:Int)+1)=((i+1:Nat):Int):=by rw[IntKind.wrap_u64];omega
      clear hkc hki;go_wp2_with (at_builtin;go_must (refine wpList_snoc rfl (.tmp 28) (.tmp 37) rfl W.heap.size _ i (slotsOf (ks.take i)) rfl (HO.o.alloc _) ⟨wr.heap.size,0,none⟩ ki (i+1) rfl (Rs.one _ ki (i+1)) (by omega) (by rw[nblk_alloc];omega) ?_));intro v7 w7 hO7 hK7;obtain⟨A7,c7,rfl, -, -, -⟩:=Rs.own hO7;have hB7:Below W.heap.size wr w7:=((Below.refl W.heap.size wr).alloc hzr (.cells #[.string ki,int .u64 ((i+1:Nat):Int)] 70)).trans (hK7.below (by rw[nblk_alloc];omega) (λ j e=>(HO.o.lt j e.symm).1));have HB7:=Hd (HB.o.trans hB7);have HO7:=Hd (show w7.ownsRow W.heap.size 70 2 (.slice A7 (i+1) c7) (i+1) (flat (slotsOf (ks.take (i+1)))) from by rw[←flat_take_snoc HKI.o];exact hO7);clear hO7 hK7 hB7 HO HB;go_wp2;go_roundw
      case rel=>exact⟨i+1,by omega,by go_num,rfl,HO7.o,HB7.o⟩
      case measure=>simp[intOf];omega
    · obtain rfl:i=n:=by omega
      rename World=>V0;rw[List.take_of_length_le (by rw[HN.o];exact Nat.le_refl _)] at HO;have HKb:=Hd (Below.kept HB.o (S:=λ i=>W.heap.size<=i) (λ i _ h=>h));have hmm:=HM0.o.kept HKb.o (by omega) (by omega);have HM1:=Hd hmm;have HBX1:=Hd (HKb.o.blk HBX.o (by omega));have HK1:=Hd (HK0.o.trans HKb.o (λ j hj h=>by omega));obtain⟨A,c,he,hlS,hRS,hAS⟩:=Rs.own HO.o;cases he;have HRS:=Hd hRS;have AS1:=Hd (show ∀ a,A0=some a->¬ Own b g a.block from λ a ha e=>by have:=hAS a ha;rcases e with e|e<;>omega);have hwi:IntKind.u64.wrap (i:Int)=(i:Int):=by rw[IntKind.wrap_u64];omega
      clear hmm hRS hAS HO HB HKb HM0 HBX HKR0 HK0 hlS;go_wp2_with fail;refine(poke_any b g l k 5 (i:Int) 0 ⟨#[]⟩ _ HM1.o).mono ?_;rintro e V1 ⟨rfl,hM2,hK2⟩;have HM2:=Hd hM2;have HBX2:=Hd (hK2.blk HBX1.o (λ e=>by rcases e with e|e<;>omega));have HRS2:=Hd (HRS.o.keptF hK2 AS1.out);have HK2:=Hd ((HK1.o.mono (T:=Own b g) (λ_ h=>h.elim)).trans hK2 kk2);clear hM2 hK2 HM1 HBX1 HRS HK1;obtain⟨a1,a2,a3⟩:=Mv.ctrPoke (F:=F) (nx:=Cf.N+1) h4 h6 (Nat.le_refl _) l (a:=5) (by omega) ((i:Int),⟨#[]⟩,0) ⟨i,0,_,rfl,by omega,by omega⟩;have HBT:=Hd (Bt.start (F:=F) (l:=putAt l 5 ((i:Int),⟨#[]⟩,0)) (ks:=ks) (hide:=hide) (a3 HNA.o) (by rw[putAt_length];exact HBIG.o) (λ m h1 h2=>(a2 m h1 h2).trans (HZ.o m h1 h2)) (by rw[HN.o];exact h40) HAS.o.2 (by
          rw[HN.o];refine⟨λ j hj=>?_,cellAt_same ⟨by omega,by have:=HBIG.o;have:=(limF (F:=F) h4 h6).nf;omega⟩ _⟩;rw[cellAt_other (by have:=(limF (F:=F) h4 h6).nf;omega)];exact HRZ.o j hj) (λ_=>0) (λ_=>0) (λ_ _=>⟨#[]⟩) (λ_ _=>pg0) (λ_=>0))
      clear a1 a2 a3;go_wp2_with fail;go_loopw [3,11,13,14] (λ sv v nv lv wr=>∃(s:Int) (S:List Sl) (L nx:Nat) (lc:List Cel) (st mm:Nat->Nat) (lo:Nat->Nat->ByteArray) (pg:Nat->Nat->Pg) (off:Nat->Nat) (A:Option Addr) (c:Nat),0<=s/\sv=int .u64 s/\v=.slice A S.length c/\nv=int .u64 nx/\lv=int .i64 L/\Bt F lc L nx S ks hide st mm lo pg off/\Mem wr b g lc k/\lc.length=l.length/\Blk wr r0 25 [int .i64 1,int .i64 2,int .i64 Cf.N,int .i64 Cf.C,int .i64 Cf.R,int .i64 F,int .u64 Cf.K]/\Rs wr A c S/\(∀ a,A=some a->¬ Own b g a.block)/\Kept (Own b g) w wr) (λ_ v _ lv _=>slLen v+(if intOf lv=0 then 1 else 0))
      case atStart=>exact⟨sh,slotsOf ks,0,1,_,_,_,_,_,_,A0,c0,hs,rfl,by rw[slotsOf_length,HN.o],rfl,rfl,HBT.o,HM2.o,by rw[putAt_length],HBX2.o,HRS2.o,AS1.out,HK2.o⟩
      case round =>
        rename World=>V;obtain⟨s,S,L,nx,lc,st,mm,lo,pg,off,A,c,hs0,rfl,rfl,rfl,rfl,hB,hM,hlc,hX,hR,hA,hK⟩:=hrel;obtain⟨m,hml⟩:∃ m,S.length=m:=⟨_,rfl⟩;have hm1000:m<=1000:=by rw[←hml];exact hB.small
        have hnx:=hB.nx1;have hnx1:nx<=100:=hB.nx100;rw[hml];have HB:=Hd hB;have HM:=Hd hM;have HLC:=Hd hlc;have HX:=Hd hX;have HR:=Hd hR;have HA:=Hd hA;have HK:=Hd hK;have HML:=Hd hml;clear hB hM hlc hX hR hA hK hml HBT HM2 HBX2 HRS2 HK2;have hx9:=HX.o;have x5:=hx9.k 5 rfl;clear hx9;go_upto_region 8 with fail
        go_cut [15] from 45 to 53 (λ v wx=>∃ ps:List Nat,Grp F (min (L+1) 2) m 0 ps/\wx.ownsRow V.heap.size 3 1 v ps.length (ints ps)/\Below V.heap.size V wx)
        case first =>
          by_cases hL1:L<=1
          · have hL2:(L:Int)+1<=2:=by omega
            have hL3:IntKind.i64.wrap ((L:Int)+1)=(L:Int)+1:=by rw[IntKind.wrap_i64];omega
            go_wp2_with fail;refine(group_to F (min (L+1) 2) m ((L:Int)+1) (by omega) h4 h6 (by omega) (by omega) (by omega) s hs0 _).mono ?_;rintro e wg ⟨v,ps,rfl,hG,hO,hBl⟩;have HG:=Hd hG;have HO:=Hd hO;have HBl:=Hd hBl;clear hG hO hBl;go_wp2;go_meet;exact⟨ps,HG.o,HO.o,HBl.o⟩
          · have hL2:¬ (L:Int)+1<=2:=by omega
            have hL4:L<=1000:=by omega
            go_wp2_with fail;refine(group_to F (min (L+1) 2) m 2 (by omega) h4 h6 (by omega) (by omega) (by omega) s hs0 _).mono ?_;rintro e wg ⟨v,ps,rfl,hG,hO,hBl⟩;have HG:=Hd hG;have HO:=Hd hO;have HBl:=Hd hBl;clear hG hO hBl;go_wp2;go_meet;exact⟨ps,HG.o,HO.o,HBl.o⟩
        case rest =>
          obtain⟨ps,hG,hO,hBl⟩:=hcut;have hwx:=hBl.size;obtain⟨A9,c9,hv9,hIr⟩:=ints_read hO;subst hv9;have HG:=Hd hG;have HIR:=Hd hIr;have HBl:=Hd hBl;have hpl:=hG.len;clear hG hO hBl hIr x5;go_upto_if 56 with fail
          go_cut [15] from 57 to 57 (λ v wy=>∃(qs:List Nat) (A:Option Addr) (c:Nat),Pt F L m qs/\qs.length<=1000/\v=.slice A qs.length c/\Ir wy A V.heap.size qs/\Kept (λ_=>False) V wy)
          case first =>
            by_cases hp0:ps.length=0
            · obtain rfl:ps=[]:=List.eq_nil_of_length_eq_zero hp0
              have hm0:m=0:=by have:=HG.o.sum;simpa using this.symm
              go_wp2;go_meet;refine⟨[0],_,_,by rw[hm0];exact pt_zero F L,by simp,rfl,λ_=>⟨wc.heap.size,0,rfl,by rw[nblk_alloc];omega,hwx,λ j p hp=>?_⟩,(Below.kept HBl.o (S:=λ_=>False) (λ i hi h=>by omega)).alloc _⟩
              match j,hp with
              | 0,hp=>simp at hp;subst hp;simp
              | j+1,hp=>simp at hp
            · have hp1:((ps.length:Int)==0)=false:=beq_false_of_ne (by omega)
              have hp2:¬ (ps.length:Int)=0:=by omega
              have hm0:0<m:=by have:=HG.o.sum;have:=HG.o.len;omega
              go_wp2;go_meet;exact⟨ps,_,_,pt_of HG.o hm0 (λ h=>by omega),by omega,rfl,HIR.o,Below.kept HBl.o (S:=λ_=>False) (λ i hi h=>by omega)⟩
          case rest =>
            rename World=>V2;obtain⟨qs,AQ,cQ,hpt,hq1000,rfl,hIr,hKz⟩:=hcut;obtain⟨p,hqp⟩:∃ p,qs.length=p:=⟨_,rfl⟩;rw[hqp] at hq1000 ⊢;have hproom:=(HB.o.room (by rw[HML.o];exact hpt)).1;rw[hqp] at hproom;have hp1:0<p:=by rw[←hqp];exact hpt.ne
            have HPT:=Hd hpt;have HIQ:=Hd hIr;have HQP:=Hd hqp;have HM2:=Hd (HM.o.kept hKz id id);have HX2:=Hd (hKz.blk HX.o id);have HR2:=Hd (HR.o.keptF hKz kk2);have HK2:=Hd (HK.o.trans hKz (λ_ _ h=>h.elim));have hlt2:=HK2.o.size;have hwV:=HK.o.size;have hVV:=hKz.size;have hr02:=HX2.o.lt;clear hpt hIr hqp hKz HG HIR HBl HM HX HR HK hwx hpl;go_wp2_with fail;go_loopw [16,17,18,19] (λ av lv fv iv wr=>∃(i:Nat) (ab:List Sl) (li:List Cel),i<=p/\slLen av=ab.length/\lv=.string (loL L S qs i)/\fv=int .i64 ((fr qs i:Nat):Int)/\iv=int .i64 i/\wr.ownsRow V2.heap.size 70 2 av ab.length (flat ab)/\Abv L S qs nx hide i ab/\Mv F nx lc li/\(∀ j,j<i->Holds (nad F (nx+j)) li (pgL L S qs nx j))/\Mem wr b g li k/\Kept (Own b g) V2 wr) (λ_ _ _ iv _=>p-(intOf iv).toNat)
            case atStart=>exact⟨0,[],lc,Nat.zero_le _,rfl,by unfold loL;rw[if_pos rfl],rfl,rfl,World.ownsRow_nil _ _ _ _,Abv.nil hide,Mv.refl _ _ _,λ j h=>by omega,HM2.o,Kept.refl _ _⟩
            case round =>
              obtain⟨i,ab,li,hip,hsl,rfl,rfl,rfl,hO,hAb,hMv,hH,hM,hKr⟩:=hrel;have HO:=Hd hO;have HAB:=Hd hAb;have HMV:=Hd hMv;have HHO:=Hd hH;have HM:=Hd hM;have HKr:=Hd hKr;have hzr:=hKr.size;obtain⟨Aa,ca,rfl, -, -, -⟩:=Rs.own hO;clear hO hAb hMv hH hM hKr hsl
              by_cases hlt:i<p
              · obtain⟨pi,hpi,hpd⟩:=get_ps (ps:=qs) (i:=i) (by rw[HQP.o];exact hlt)
                have hf1:=fr_step hpi;have hfm:=fr_le HPT.o (i:=i+1) (by rw[HQP.o];omega);obtain⟨f,hf⟩:∃ f,fr qs i=f:=⟨_,rfl⟩;rw[hf] at hf1 ⊢;rw[hf1] at hfm;have hR3:=HR2.o.keptF HKr.o HA.o;have hmc:m<=c:=by have:=hR3.le;rw[HML.o] at this;exact this
                obtain⟨gq,offq,rfl,hgq,hgV,hqc⟩:=HIQ.o (by rw[HQP.o];omega);have hqci:wr.cell? ⟨gq,offq+i,none⟩=some (int .i64 pi):=(HKr.o.cell (p:=⟨gq,offq+i,none⟩) hgq (λ e=>by have e:gq=b\/gq=g:=e;omega)).trans (hqc i pi hpi);have HF:=Hd hf;have HF1:=Hd hf1;have HPI:=Hd hpi;have HPD:=Hd hpd;have HR3:=Hd hR3;clear hf hf1 hpi hpd hR3 hqc;obtain⟨la,hla⟩:∃ la,decide (i+1=p)=la:=⟨_,rfl⟩;have hip1:((i:Int)==(p:Int)-1)=la:=by rw[←hla];by_cases h:i+1=p;simp[h];omega;simp[h];omega
                obtain⟨At,hAt⟩:∃ At,(if c=f then A else A.map (·.add (f*2)))=At:=⟨_,rfl⟩;have hRt:=(HR3.o.drop f (by rw[HML.o];omega)).take pi;rw[hAt] at hRt;have HRT:=Hd hRt;have HLA:=Hd hla;have HOB:=Hd (show ∀ j,some j=(Value.slice Aa ab.length ca).ownBlock->V2.heap.size<=j/\j<wr.heap.size from λ j hj=>HO.o.lt j hj.symm);have HATB:=Hd (show ∀ a,At=some a->¬ Own b g a.block from λ a ha=>by
                  rw[←hAt] at ha
                  split at ha
                  · exact HA.o a ha
                  · cases A with
                    | none=>cases ha
                    | some a0 =>
                      cases ha;have:=HA.o a0 rfl;have e:(a0.add (f*2)).block=a0.block:=by unfold Addr.add;split<;>rfl
                      show ¬ Own b g (a0.add (f*2)).block;rw[e];exact this)
                clear hRt hla;go_upto_region 17 with fail
                clear hAt;have hal:=(Kept.refl (λ_=>False) wr).alloc (.cells #[int .i64 L,.slice At pi (c-f),.string ⟨#[]⟩,.bool la,int .u64 0] 64);have HPB:=Hd (Blk.new wr [int .i64 L,.slice At pi (c-f),.string ⟨#[]⟩,.bool la,int .u64 0] 64);have HMa:=Hd (HM.o.kept hal id id);have HSB:=Hd (show ∀ a,A=some a->0<m->a.block<wr.heap.size from λ a ha h0=>by
                  obtain⟨g',off',e,hlt', -⟩:=HR3.o.at (by rw[HML.o];exact h0);rw[e] at ha;cases ha;exact hlt')
                have HATL:=Hd (show 0<((S.drop f).take pi).length->∀ a,At=some a->a.block<wr.heap.size from λ h0 a ha=>by
                  obtain⟨g',off',e,hlt', -⟩:=HRT.o.at h0;rw[e] at ha;cases ha;exact hlt')
                have HRa:=Hd (HR3.o.keptF hal kk2);have HRTa:=Hd (HRT.o.keptF hal kk2);have HKa:=Hd (HKr.o.trans hal (λ_ _ h=>h.elim));have HOa:=Hd (HO.o.alloc (.cells #[int .i64 L,.slice At pi (c-f),.string ⟨#[]⟩,.bool la,int .u64 0] 64));have hpbl:wr.heap.size<(wr.alloc (.cells #[int .i64 L,.slice At pi (c-f),.string ⟨#[]⟩,.bool la,int .u64 0] 64)).heap.size:=by rw[nblk_alloc];omega
                have hqc5:=(hal.cell (p:=⟨gq,offq+i,none⟩) (show gq<_ by omega) id).trans hqci;have hgq5:gq<wr.heap.size:=by omega
                clear hal HM HR3 HRT HKr HO hqci;generalize hpb:wr.heap.size=pb at *;have HPBE:=Hd hpb;have hpb2:V2.heap.size<=pb:=hzr;clear hpb;generalize wr.alloc (.cells #[int .i64 L,.slice At pi (c-f),.string ⟨#[]⟩,.bool la,int .u64 0] 64)=W5 at *;have hp9:=HPB.o;obtain⟨u0,u1,u2,u3,u4⟩:=hp9.c5;have z0:=hp9.frozen 0;have z1:=hp9.frozen 1;have z2:=hp9.frozen 2;have z3:=hp9.frozen 3;have z4:=hp9.frozen 4;clear hp9;obtain⟨f1,hf1e⟩:∃ f1,f+pi=f1:=⟨_,rfl⟩;have hf1I:(f:Int)+(pi:Int)=(f1:Int):=by omega
                obtain⟨nid,hnid⟩:∃ nid,nx+i=nid:=⟨_,rfl⟩;have hnidI:(nx:Int)+(i:Int)=(nid:Int):=by omega
                have HNID:=Hd hnid;have HF1E:=Hd hf1e;have hf1m:f1<=m:=by omega
                have hni:1<=nid/\nid<=Cf.N:=by have:100<=Cf.N:=Big.ge;omega
                clear hf1e hnid;go_upto_if 92 with fail
                go_cut [20] from 64 to 116 (λ v wx=>v=.pointer (some ⟨pb,0,none⟩)/\Blk wx pb 64 [int .i64 L,.slice At pi (c-f),.string (hiL L S qs i),.bool la,int .u64 (((pgL L S qs nx i).rt:Nat):Int)]/\Kept (λ j=>j=pb) W5 wx)
                case first =>
                  cases la with
                  | true =>
                    have hi1:i+1=p:=by simpa using HLA.o
                    have eh:hiL L S qs i=⟨#[]⟩:=by unfold hiL;rw[if_neg (by rw[HQP.o];omega)]
                    have er:(pgL L S qs nx i).rt=0:=by show (if i+1<qs.length then nx+i+1 else 0)=0;rw[if_neg (by rw[HQP.o];omega)]
                    have EH:=Hd eh;have ER:=Hd er;clear hi1 eh er;go_wp2;go_meet;exact⟨rfl,by rw[EH.out,ER.out];exact HPB.o,Kept.refl _ _⟩
                  | false =>
                    have hi1 : i + 1 < p := by have : ¬ (i + 1 = p) := by simpa using HLA.o
                                               omega
                    have er:(pgL L S qs nx i).rt=nid+1:=by show (if i+1<qs.length then nx+i+1 else 0)=nid+1;rw[if_pos (by rw[HQP.o];omega),HNID.o]
                    have ER:=Hd er;obtain⟨hq1,hq2⟩:=fr_lt HPT.o (i:=i) (by rw[HQP.o];omega);rw[HF1.o,HF1E.o] at hq1 hq2;rw[HF.o] at hq1;obtain⟨rf,hrf⟩:=kat_get (S:=S) (i:=f1) (by rw[HML.o];exact hq2);obtain⟨gS,offS,hAe,hgS,hSc⟩:=HRa.o.at (by rw[HML.o];omega);have hgpb:=HSB.o _ hAe (by omega);subst hAe;replace hgpb:gS<pb:=hgpb;have hgpb':gS≠pb:=by omega
                    have hkey:=(hSc f1 _ hrf).1;obtain⟨fm,hfm'⟩:∃ fm,f1=fm+1:=⟨f1-1,by omega⟩;obtain⟨rm,hrm⟩:=kat_get (S:=S) (i:=fm) (by rw[HML.o];omega);have hkeym:=(hSc fm _ hrm).1;have hfmI:(f1:Int)-1=(fm:Int):=by omega
                    have hfmm:(fm:Int)<(m:Int):=by omega
                    have hwfm:IntKind.i64.wrap (fm:Int)=(fm:Int):=by rw[IntKind.wrap_i64];omega
                    have hf1mm:(f1:Int)<(m:Int):=by omega
                    have HKEY:=Hd hkey;have HKEYM:=Hd hkeym;have HRF:=Hd hrf;have HRM:=Hd hrm;have HFM:=Hd hfm';clear hSc hkey hkeym hrf hrm hfm' er hq1;have hwn:IntKind.u64.wrap ((nid:Int)+1)=(nid:Int)+1:=by rw[IntKind.wrap_u64];omega
                    go_upto_region 20 with fail
                    clear u0 u1 u2 u3 u4 z0 z1 z2 z3 z4;have HPBc:=Hd (HPB.o.of (w':=W5.drew) rfl);have HKG:=Hd ((Kept.refl (λ j=>j=pb) W5).drew);refine wp_region_held_drew (S:=(λ w'=>Kept (λ j=>j=pb) W5 w')) (by kernel_rfl) ?_ (λ hH=>?_)
                    · exact HKG.o
                    generalize W5.drew=G at *;refine tkI 0 93 hH ?_;refine tkI 1 94 hH ?_;refine tkI 2 95 hH ?_;refine tkI 3 96 hH ?_;refine tkI 4 97 hH ?_;refine tkI 5 98 hH ?_;refine tkI 6 99 hH ?_ (hv:=by intro wq hSw;have y1:=(hSw.cell (p:=⟨gS,offS+f1*2,none⟩) hgS hgpb').trans HKEY.o;exact qq1);refine tkI 7 100 hH ?_;refine rdH 8 none rfl λ KK hK=>?_;have h9:=HPBc.o;have u4:=h9.k 4 rfl;have z4:=h9.frozen 4;clear h9;go_simp;replace HPBc:=Hd (HPBc.o.set 4 (int .u64 ((nid:Int)+1)));replace HKG:=Hd (HKG.o.setCell (a:=⟨pb,4,none⟩) (λ_=>rfl) (int .u64 ((nid:Int)+1)));clear u4 z4;generalize G.setCell ⟨pb,4,none⟩ (int .u64 ((nid:Int)+1))=G at *;refine hkO hK HKG.o λ h2=>?_;replace hH:=h2;clear hK KK h2
                    refine tkI 9 101 hH ?_;refine rdH 10 none rfl λ KK hK=>?_;have h9:=HPBc.o;have u2:=h9.k 2 rfl;have z2:=h9.frozen 2;clear h9;go_simp;replace HPBc:=Hd (HPBc.o.set 2 (.string (kat S f1)));replace HKG:=Hd (HKG.o.setCell (a:=⟨pb,2,none⟩) (λ_=>rfl) (.string (kat S f1)));clear u2 z2;generalize G.setCell ⟨pb,2,none⟩ (.string (kat S f1))=G at *;refine hkO hK HKG.o λ h2=>?_;replace hH:=h2;clear hK KK h2
                    refine dnH ?_;clear hH
                    by_cases hL0:L=0
                    · have d2:((L:Int)==0)=true:=by simp[hL0]
                      have HSZ:=Hd (show (kat S f1).size<=4611686018427387904 from by
                        have h1:=(HB.o.base hL0).2.2.2 f1 _ HRF.o;have h2:(kat S f1).size<=32:=HAS.o.1 _ (List.mem_of_getElem? h1.1);omega)
                      have HL0:=Hd hL0;have hLl:L<=0:=by omega
                      clear hL0;go_upto_region 22 with fail
                      have HPBd:=Hd (HPBc.o.of (w':=G.drew) rfl);have HKH:=Hd HKG.o.drew;refine wp_region_held_drew (S:=(λ w'=>Kept (λ j=>j=pb) W5 w')) (by kernel_rfl) ?_ (λ hH=>?_)
                      · exact HKH.o
                      generalize G.drew=G2 at *;refine tkI 0 104 hH ?_;refine tkI 1 105 hH ?_;refine tkI 2 106 hH ?_;refine tkI 3 107 hH ?_;refine tkI 4 108 hH ?_;refine tkI 5 109 hH ?_ (hv:=by intro wq hSw;have y1:=(hSw.cell (p:=⟨gS,offS+f1*2,none⟩) hgS hgpb').trans HKEY.o;have y2:=(hSw.cell (p:=⟨gS,offS+fm*2,none⟩) hgS hgpb').trans HKEYM.o;exact qq1);refine tkI 6 110 hH ?_;refine tkI 7 111 hH ?_;refine tkI 8 112 hH ?_;refine tkI 9 113 hH ?_;refine tkI 10 114 hH ?_ (hv:=by intro wq hSw;have y1:=(hSw.cell (p:=⟨gS,offS+f1*2,none⟩) hgS hgpb').trans HKEY.o;have y2:=(hSw.cell (p:=⟨gS,offS+fm*2,none⟩) hgS hgpb').trans HKEYM.o;exact qq1);refine rdH 11 (some 115) rfl λ KK hK=>?_;go_simp;go_at_call 68;refine Calls.mono (refSep_any (kat S fm) (kat S f1) _ HSZ.o) ?_;rintro e w7 ⟨rfl,hw7⟩;subst hw7;refine hkO hK HKH.o λ h2=>?_;replace hH:=h2;clear hK KK h2
                      refine tkI 12 116 hH ?_;refine rdH 13 none rfl λ KK hK=>?_;have h9:=HPBd.o;have u2:=h9.k 2 rfl;have z2:=h9.frozen 2;clear h9;go_simp;replace HPBd:=Hd (HPBd.o.set 2 (.string (sepB (kat S fm) (kat S f1))));replace HKH:=Hd (HKH.o.setCell (a:=⟨pb,2,none⟩) (λ_=>rfl) (.string (sepB (kat S fm) (kat S f1))));clear u2 z2;generalize G2.setCell ⟨pb,2,none⟩ (.string (sepB (kat S fm) (kat S f1)))=G2 at *;refine hkO hK HKH.o λ h2=>?_;replace hH:=h2;clear hK KK h2
                      refine dnH ?_;clear hH;go_wp2;go_meet;refine⟨rfl,?_,HKH.o⟩;have eh:hiL L S qs i=sepB (kat S fm) (kat S f1):=by
                        unfold hiL;rw[if_pos (by rw[HQP.o];omega),if_pos HL0.o,HF1.o,HF1E.o,show f1-1=fm by have:=HFM.o;omega]
                      rw[eh,ER.out];exact HPBd.o
                    · have d2:((L:Int)==0)=false:=beq_false_of_ne (by omega)
                      have HL0:=Hd hL0;have hLl:1<=L:=by omega
                      clear hL0;go_wp2;go_meet;refine⟨rfl,?_,HKG.o⟩;have eh:hiL L S qs i=kat S f1:=by
                        unfold hiL;rw[if_pos (by rw[HQP.o];omega),if_neg HL0.o,HF1.o,HF1E.o]
                      rw[eh,ER.out];exact HPBc.o
                case rest =>
                  rename World=>V6;obtain⟨rfl,hPB6,hK6⟩:=hcut;have hlen6:=(pg_len (nx:=nx) (by rw[HML.o];exact HPT.o:Pt F L S.length qs) (i:=i) (by rw[HQP.o];exact hlt));rw[HPD.o] at hlen6;have hPE:(⟨L,hiL L S qs i,la,(pgL L S qs nx i).rt,(S.drop f).take pi⟩:Pg)=pgL L S qs nx i:=by
                    unfold pgL;rw[HPD.o,HF.o,HQP.o,HLA.o]
                  have hfits:=pg_fits (nx:=nx) (by rw[HML.o];exact HPT.o:Pt F L S.length qs) (by omega) (by omega) (by rw[HQP.o];omega) HB.o.ref (i:=i) (by rw[HQP.o];exact hlt);have hwf6:la=true->hiL L S qs i=⟨#[]⟩:=by
                    have:=pg_wf (L:=L) (nx:=nx) (S:=S) (ps:=qs) i;rw[←hPE] at this;exact this
                  have hxl:((S.drop f).take pi).length=pi:=by have h1:=hlen6.1;rw[←hPE] at h1;exact h1
                  have HMb:=Hd (HMa.o.kept hK6 (by omega) (by omega));have HRTb:=Hd (HRTa.o.keptP hK6 (λ h0 a ha e=>by have:=HATL.o h0 a ha;omega));have HXb:=Hd (hK6.blk (HKa.o.blk HX2.o (λ e=>by rcases e with e|e<;>omega)) (by omega));have HOb:=Hd (own_kept HOa.o hK6 (λ j hj e=>by have:=(HOB.o j hj.symm).2;have:=HPBE.o;omega));have HKb:=Hd (HKa.o.trans hK6 (λ j hj e=>by omega));have HPE:=Hd hPE;have HFI:=Hd hfits;have HXL:=Hd hxl;have hL100:L<=1000:=by omega
                  have hpiF:pi<=F:=hlen6.2.2;have HPB6:=Hd hPB6;have hs6:V2.heap.size<=V6.heap.size:=by have:=hK6.size;have:=HPBE.o;omega
                  have hx9:=HXb.o;obtain⟨x0,x1,x2,x3,x4,x5,x6⟩:=hx9.c7;obtain⟨u0,u1,u2,u3,u4⟩:=HPB6.o.c5;clear hx9 hPE hfits hxl hlen6 hPB6 hK6 HMa HRTa HXb HOa HKa HRa hqc5 hgq5;go_wp2_with fail;refine(kput_to F nid h4 h6 hni.1 hni.2 L At (c-f) (hiL L S qs i) la ((pgL L S qs nx i).rt) ((S.drop f).take pi) pi HXL.o hwf6 hpiF (by omega) b g li k _ HMb.o HRTb.o HATB.o).mono ?_;rintro e V7 ⟨rfl,hM7,hK7⟩;rw[HPE.o] at hM7;obtain⟨li2,hli2⟩:∃ li2,app li (pst (nad F nid) (pgL L S qs nx i))=li2:=⟨_,rfl⟩;have hxsF:(pgL L S qs nx i).xs.length<=F:=by rw[←HPE.o];show ((S.drop f).take pi).length<=F;rw[HXL.o];exact hpiF
                  have hMv2:Mv F nx lc li2:=by rw[←hli2];exact HMV.o.trans (Mv.page h4 h6 (by omega) (by have:=HNID.o;omega) hni.2 li hxsF HFI.o) (Nat.le_refl _)
                  have hH2:∀ j,j<i+1->Holds (nad F (nx+j)) li2 (pgL L S qs nx j):=λ j hj=>by
                    by_cases e:j=i
                    · subst e
                      have had:=ads_of (F:=F) (nid:=nid) (n:=li.length) h4 h6 hni.1 hni.2 (by rw[HMV.o.len,HLC.o];exact HBIG.o);have hph:=pst_holds had rfl hxsF _ (Nat.le_refl _);rw[pst_all,hli2] at hph;rw[HNID.o];exact hph
                    · have hmp:=Mv.page h4 h6 hni.1 (Nat.le_refl nid) hni.2 li hxsF HFI.o
                      rw[hli2] at hmp;have hlj:=(pg_len (nx:=nx) (by rw[HML.o];exact HPT.o:Pt F L S.length qs) (i:=j) (by rw[HQP.o];omega));intro r hr;rw[hmp.low (nx+j) (by omega) (by have:=HNID.o;omega) r (by omega)];exact HHO.o j (by omega) r hr
                  rw[hli2] at hM7;have HM7:=Hd hM7;have HMV2:=Hd hMv2;have HH2:=Hd hH2;have HOc:=Hd (own_kept HOb.o hK7 (λ j hj e=>by have:=(HOB.o j hj.symm).1;rcases e with e|e<;>omega));have HPB7:=Hd (hK7.blk HPB6.o (λ e=>by rcases e with e|e<;>omega));have HK7:=Hd (HKb.o.trans hK7 kk2);have hs7:V2.heap.size<=V7.heap.size:=Nat.le_trans hs6 hK7.size;clear hM7 hli2 hMv2 hH2 hK7 HMb HRTb HOb HPB6 HKb HHO HMV x0 x1 x2 x3 x4 x5 x6 u0 u1 u2 u3 u4 hxsF;go_upto_region 24 with fail
                  go_cut [136] from 122 to 136 (λ v wx=>∃ e:Bool,v=.bool e/\(i=0->e=true)/\(hide=false->e=true)/\wx=V7)
                  case first =>
                    by_cases hi0:i=0
                    · have d3:((i:Int)==0)=true:=by simp[hi0]
                      clear hi0;go_wp2;go_meet;exact⟨true,rfl,λ_=>rfl,λ_=>rfl,rfl⟩
                    · have d3:((i:Int)==0)=false:=beq_false_of_ne (by omega)
                      cases hide with
                      | false =>
                        go_wp2;go_meet;exact⟨true,rfl,λ_=>rfl,λ_=>rfl,rfl⟩
                      | true =>
                        go_wp2;go_meet;exact⟨_,rfl,λ e=>absurd e hi0,(λ e=>(by cases e)),rfl⟩
                  case rest =>
                    obtain⟨ee,rfl,he0,heh,rfl⟩:=hcut;rename World=>V7;have HE0:=Hd he0;have HEH:=Hd heh;clear he0 heh;go_upto_if 136 with fail
                    go_cut [16] from 137 to 142 (λ v wx=>∃ ab':List Sl,slLen v=ab'.length/\wx.ownsRow V2.heap.size 70 2 v ab'.length (flat ab')/\Abv L S qs nx hide (i+1) ab'/\Mem wx b g li2 k/\Kept (Own b g) V2 wx/\Blk wx pb 64 [int .i64 L,.slice At pi (c-f),.string (hiL L S qs i),.bool la,int .u64 (((pgL L S qs nx i).rt:Nat):Int)])
                    case first =>
                      cases ee with
                      | true =>
                        have hab40:ab.length<=1000:=by have:=HAB.o.len;omega
                        have hown:=HOc.o;go_wp2_with (at_builtin;go_must (refine wpList_snoc rfl (.tmp 137) (.tmp 141) rfl V2.heap.size _ ab.length ab rfl (hown.alloc _) ⟨V7.heap.size,0,none⟩ (loL L S qs i) nid rfl (Rs.one _ (loL L S qs i) nid) (by omega) (by rw[nblk_alloc];omega) ?_));intro v8 w8 hO8 hK8;obtain⟨A8,c8,rfl, -, -, -⟩:=Rs.own hO8;have hal:=(Kept.refl (λ_=>False) V7).alloc (.cells #[.string (loL L S qs i),int .u64 nid] 70);have hob:=HOB.o;have hpe:=HPBE.o;have hM8:=(HM7.o.kept hal id id).kept hK8 (λ e=>by have:=(hob b e).1;omega) (λ e=>by have:=(hob g e).1;omega);have hP8:=hK8.blk (hal.blk HPB7.o id) (λ e=>by have:=(hob pb e).2;omega);have hK8':=(HK7.o.trans hal (λ_ _ h=>h.elim)).trans hK8 (λ j hj e=>by have:=(hob j e).1;omega);have hab8:Abv L S qs nx hide (i+1) (ab++[(loL L S qs i,nid)]):=by rw[←HNID.o];exact HAB.o.enter HB.o.asc (by rw[HML.o];exact HPT.o) (by rw[HQP.o];exact hlt)
                        clear hal hK8;go_wp2;go_meet;exact⟨ab++[(loL L S qs i,nid)],by rw[List.length_append];rfl,by rw[List.length_append];exact hO8,hab8,hM8,hK8',hP8⟩
                      | false =>
                        have hi0:0<i:=by
                          rcases Nat.eq_zero_or_pos i with e|e
                          · have:=HE0.o e;cases this
                          · exact e
                        have hhd:hide=true:=by
                          cases h:hide
                          · have:=HEH.o h;cases this
                          · rfl
                        have HHD:=Hd hhd;clear hhd;go_wp2;go_meet;exact⟨ab,rfl,HOc.o,HAB.o.out hi0 HHD.o,HM7.o,HK7.o,HPB7.o⟩
                    case rest =>
                      rename World=>V8;obtain⟨ab2,hsl2,hO2,hAb2,hM8,hK8,hP8⟩:=hcut;have HO2:=Hd hO2;have HAB2:=Hd hAb2;have HM8:=Hd hM8;have HK8:=Hd hK8;have u2:=hP8.k 2 rfl;have HSL2:=Hd hsl2;clear hO2 hAb2 hM8 hK8 hP8 hsl2;go_wp2;go_roundw
                      case rel=>exact⟨i+1,ab2,li2,by omega,HSL2.o,by rw[loL_succ],by rw[HF1.o,HF1E.o],by go_num,HO2.o,HAB2.o,HMV2.o,HH2.o,HM8.o,HK8.o⟩
                      case measure=>simp[intOf];omega
              · obtain rfl:p=i:=by omega
                rename World=>V3;have HM3:=HM;have hs3:=HKr.o.size
                by_cases hone:p=1
                · have d1:((p:Int)==1)=true:=by simp[hone]
                  have HONE:=Hd hone;have hpl:p<=1:=by omega
                  clear hone;go_wp2_with fail;refine Calls.mono (poke_to b g li k 0 _ nx 0 ⟨#[]⟩ _ ?hN HM.o) ?_
                  case hN=>omega
                  rintro e V4 ⟨rfl,hM4,hK4⟩;have HM4:=Hd hM4;have HK4:=Hd (HK2.o.trans (HKr.o.trans hK4 kk2) kk2);clear hM4 hK4;go_wp2_with fail;refine Calls.mono (poke_to b g _ k 4 _ nx 0 ⟨#[]⟩ _ ?hN HM4.o) ?_
                  case hN=>omega
                  rintro e V5 ⟨rfl,hM5,hK5⟩;have HM5:=Hd hM5;have HK5:=Hd (HK4.o.trans hK5 kk2);clear hM5 hK5 HM4 HK4;go_wp2;go_ret;obtain⟨st2,mm2,lo2,pg2,off2,hT,hL,h0,hFu,hNa,hle,hRe,hLa,hHi⟩:=HB.o.fin (by rw[HML.o];exact HPT.o) h4 h6 HMV.o (λ j hj=>HHO.o j (by have:=HQP.o;omega)) (by rw[HQP.o];exact HONE.o) rfl;exact⟨L+1,_,by go_num,HM5.o,⟨st2,mm2,lo2,pg2,off2,hT,hL,h0,hFu,hNa,by rw[hle];exact HLC.o,hRe,hLa,hHi⟩,HK5.o⟩
                · have d1:((p:Int)==1)=false:=beq_false_of_ne (by omega)
                  have hp2:2<=p:=by omega
                  clear hone;obtain⟨A9,c9,he9,hla,hRa,hAa⟩:=Rs.own HO.o;cases he9;have HRa:=Hd hRa;have HAa:=Hd (show ∀ a,Aa=some a->¬ Own b g a.block from λ a ha e=>by have:=hAa a ha;rcases e with e|e<;>omega);obtain⟨st2,mm2,lo2,pg2,off2,hBn⟩:=HB.o.step (by rw[HML.o];exact HPT.o) HMV.o (λ j hj=>HHO.o j (by have:=HQP.o;omega)) (by rw[HQP.o];exact HAB.o) (by rw[HQP.o];exact hp2);have hfew:=HB.o.fewer (by rw[HML.o];exact HPT.o) (by rw[HQP.o];exact HAB.o) (by rw[HQP.o];exact hp2);rw[HQP.o] at hBn;rw[HML.o] at hfew;have HBN:=Hd hBn;have HFEW:=Hd hfew;have HKn:=Hd (HK2.o.trans HKr.o kk2);have HXn:=Hd (HKr.o.blk HX2.o (λ e=>by rcases e with e|e<;>omega));have hL1000:L<=1000:=by omega
                  clear hRa hAa hBn hfew hla;go_wp2;go_roundw
                  case rel=>exact⟨_,ab,L+1,nx+p,li,st2,mm2,lo2,pg2,off2,Aa,ca,by first|(rw[IntKind.wrap_u64];omega)|omega,rfl,rfl,by go_num,by go_num,HBN.o,HM.o,HMV.o.len.trans HLC.o,HXn.o,HRa.o,HAa.o,HKn.o⟩
                  case measure =>
                    have h1:=HFEW.o;have e1:¬ ((L:Int)+1=0):=by omega
                    by_cases hL0:L=0
                    · rw[if_pos hL0] at h1
                      have e2:(L:Int)=0:=by omega
                      simp[slLen,intOf,e2];omega
                    · rw[if_neg hL0] at h1
                      have e2:¬ (L:Int)=0:=by omega
                      simp[slLen,intOf,e1,hL0];omega
end

section
variable [Cf]

theorem cells_at(b g:Nat)(l:List Cel)(k:Nat)(w:World)(gv:Nat)(hgv:w.heap.size=gv)(h:Mem w b g l k)(hl:l.length<=1099511627776) :
    Calls prog 36 #[.pointer (some ⟨b,0,none⟩)] w λ e w'=>e=.returned (.slice (some ⟨gv,0,none⟩) l.length l.length)/\Blk w' gv 59 (flat3 l)/\Kept (λ_=>False) w w':=by
  subst hgv;exact kitCells_any b g l k w h hl
theorem view_any(F:Nat)(b g:Nat)(l:List Cel)(k n:Nat)(hl:l.length=n)(hn:n<=1048576)(w:World)(hm:Mem w b g l k) :
    Calls prog 11 #[.agg #[int .i64 1,int .i64 2,int .i64 Cf.N,int .i64 Cf.C,int .i64 Cf.R,int .i64 F,int .u64 Cf.K],.pointer (some ⟨b,0,none⟩)] w λ e w'=>∃ gv,e=.returned (.agg #[int .i64 1,int .i64 2,int .i64 Cf.N,int .i64 Cf.C,int .i64 Cf.R,int .i64 F,int .u64 Cf.K,.slice (some ⟨gv,0,none⟩) n n])/\Blk w' gv 59 (flat3 l)/\w.heap.size<=gv/\Kept (λ_=>False) w w':=by
  have HM:=Hd hm;have HL:=Hd hl;clear hm hl;go_enter func11,ntmps11;go_wp2_with fail;have hal:=((Kept.refl (λ_=>False) w).alloc (.cells #[int .i64 1,int .i64 2,int .i64 Cf.N,int .i64 Cf.C,int .i64 Cf.R,int .i64 F,int .u64 Cf.K] 25)).alloc (.cells #[int .i64 0,int .i64 0,int .i64 0,int .i64 0,int .i64 0,int .i64 0,int .u64 0,.slice none 0 0] 36);have HB:=Hd ((Blk.new w [int .i64 1,int .i64 2,int .i64 Cf.N,int .i64 Cf.C,int .i64 Cf.R,int .i64 F,int .u64 Cf.K] 25).alloc (.cells #[int .i64 0,int .i64 0,int .i64 0,int .i64 0,int .i64 0,int .i64 0,int .u64 0,.slice none 0 0] 36));have hNN:=Blk.new (w.alloc (.cells #[int .i64 1,int .i64 2,int .i64 Cf.N,int .i64 Cf.C,int .i64 Cf.R,int .i64 F,int .u64 Cf.K] 25)) [int .i64 0,int .i64 0,int .i64 0,int .i64 0,int .i64 0,int .i64 0,int .u64 0,.slice none 0 0] 36;have hsz1:(w.alloc (.cells #[int .i64 1,int .i64 2,int .i64 Cf.N,int .i64 Cf.C,int .i64 Cf.R,int .i64 F,int .u64 Cf.K] 25)).heap.size=w.heap.size+1:=nblk_alloc _ _;rw[hsz1] at hNN;have HN:=Hd hNN;have HM2:=Hd (HM.o.kept hal id id);have HK:=Hd hal;clear hal hNN hsz1 HM;generalize (w.alloc (.cells #[int .i64 1,int .i64 2,int .i64 Cf.N,int .i64 Cf.C,int .i64 Cf.R,int .i64 F,int .u64 Cf.K] 25)).alloc (.cells #[int .i64 0,int .i64 0,int .i64 0,int .i64 0,int .i64 0,int .i64 0,int .u64 0,.slice none 0 0] 36)=W at *;generalize hr1:w.heap.size+1=r1 at *;generalize hr0:w.heap.size=r0 at *;have HR:=Hd (show r1=r0+1 by omega);have HR0:=Hd hr0;clear hr0 hr1;replace HM2:=Hd (HM2.o.drew);replace HN:=Hd (HN.o.of (w':=W.drew) rfl);replace HB:=Hd (HB.o.of (w':=W.drew) rfl);replace HK:=Hd HK.o.drew;refine wp_region_held_drew (S:=(λ w'=>Blk w' r0 25 [int .i64 1,int .i64 2,int .i64 Cf.N,int .i64 Cf.C,int .i64 Cf.R,int .i64 F,int .u64 Cf.K])) (by kernel_rfl) ?_ (λ hH=>?_)
  · exact HB.o
  have HN0:=Hd (show r1<W.drew.heap.size from HN.o.lt);generalize W.drew=G at *;obtain⟨gv,hgv⟩:∃ gv,G.heap.size=gv:=⟨_,rfl⟩;replace HN0:=Hd (show r1<gv by have:=HN0.o;omega);refine tkI 0 5 hH ?_ (hv:=by intro wq hSw;have y0:=(hSw).c7;exact qq1);refine tkI 1 6 hH ?_;refine rdH 2 (some 7) rfl λ KK hK=>?_;go_simp;go_at_call 36;refine Calls.mono (cells_at b g l k G gv hgv HM2.o (by have:=HL.o;omega)) ?_;rintro e G2 ⟨rfl,hBv,hKv⟩;rw[HL.o];have HBv:=Hd hBv;replace HN:=Hd (hKv.blk HN.o id);replace HB:=Hd (hKv.blk HB.o id);have HGV:=Hd (show r1<gv by have:=HN0.o;omega);replace HK:=Hd (HK.o.trans hKv kk2);clear hBv hKv;refine hkO hK HB.o λ h2=>?_;replace hH:=h2;clear hK KK h2
  refine tkI 3 8 hH ?_;refine rdH 4 none rfl λ KK hK=>?_;have h9:=HN.o;obtain⟨s0,s1,s2,s3,s4,s5,s6,s7⟩:=h9.c8;have z0:=h9.frozen 0;have z1:=h9.frozen 1;have z2:=h9.frozen 2;have z3:=h9.frozen 3;have z4:=h9.frozen 4;have z5:=h9.frozen 5;have z6:=h9.frozen 6;have z7:=h9.frozen 7;clear h9;go_simp;replace HBv:=Hd (((((((((HBv.o).other (a:=⟨r1,0,none⟩) (by have:=HGV.o;show gv≠r1;omega) (int .i64 1)).other (a:=⟨r1,1,none⟩) (by have:=HGV.o;show gv≠r1;omega) (int .i64 2)).other (a:=⟨r1,2,none⟩) (by have:=HGV.o;show gv≠r1;omega) (int .i64 Cf.N)).other (a:=⟨r1,3,none⟩) (by have:=HGV.o;show gv≠r1;omega) (int .i64 Cf.C)).other (a:=⟨r1,4,none⟩) (by have:=HGV.o;show gv≠r1;omega) (int .i64 Cf.R)).other (a:=⟨r1,5,none⟩) (by have:=HGV.o;show gv≠r1;omega) (int .i64 F)).other (a:=⟨r1,6,none⟩) (by have:=HGV.o;show gv≠r1;omega) (int .u64 Cf.K)).other (a:=⟨r1,7,none⟩) (by have:=HGV.o;show gv≠r1;omega) (.slice (some ⟨gv,0,none⟩) n n));replace HN:=Hd (((((((((HN.o).set 0 (int .i64 1)).set 1 (int .i64 2)).set 2 (int .i64 Cf.N)).set 3 (int .i64 Cf.C)).set 4 (int .i64 Cf.R)).set 5 (int .i64 F)).set 6 (int .u64 Cf.K)).set 7 (.slice (some ⟨gv,0,none⟩) n n));replace HB:=Hd (((((((((HB.o).other (a:=⟨r1,0,none⟩) (by have:=HR.o;show r0≠r1;omega) (int .i64 1)).other (a:=⟨r1,1,none⟩) (by have:=HR.o;show r0≠r1;omega) (int .i64 2)).other (a:=⟨r1,2,none⟩) (by have:=HR.o;show r0≠r1;omega) (int .i64 Cf.N)).other (a:=⟨r1,3,none⟩) (by have:=HR.o;show r0≠r1;omega) (int .i64 Cf.C)).other (a:=⟨r1,4,none⟩) (by have:=HR.o;show r0≠r1;omega) (int .i64 Cf.R)).other (a:=⟨r1,5,none⟩) (by have:=HR.o;show r0≠r1;omega) (int .i64 F)).other (a:=⟨r1,6,none⟩) (by have:=HR.o;show r0≠r1;omega) (int .u64 Cf.K)).other (a:=⟨r1,7,none⟩) (by have:=HR.o;show r0≠r1;omega) (.slice (some ⟨gv,0,none⟩) n n));replace HK:=Hd (((((((((HK.o).setNew (b:=r1) (by rw[HR.o,HR0.o];omega) 0 (int .i64 1)).setNew (b:=r1) (by rw[HR.o,HR0.o];omega) 1 (int .i64 2)).setNew (b:=r1) (by rw[HR.o,HR0.o];omega) 2 (int .i64 Cf.N)).setNew (b:=r1) (by rw[HR.o,HR0.o];omega) 3 (int .i64 Cf.C)).setNew (b:=r1) (by rw[HR.o,HR0.o];omega) 4 (int .i64 Cf.R)).setNew (b:=r1) (by rw[HR.o,HR0.o];omega) 5 (int .i64 F)).setNew (b:=r1) (by rw[HR.o,HR0.o];omega) 6 (int .u64 Cf.K)).setNew (b:=r1) (by rw[HR.o,HR0.o];omega) 7 (.slice (some ⟨gv,0,none⟩) n n));clear s0 z0 s1 z1 s2 z2 s3 z3 s4 z4 s5 z5 s6 z6 s7 z7;refine hkO hK HB.o λ h2=>?_;replace hH:=h2;clear hK KK h2
  refine dnH ?_;clear hH;clear hgv;obtain⟨q0,q1,q2,q3,q4,q5,q6,q7⟩:=HN.o.c8;go_wp2;refine bodyPost_ret (v:=.agg #[int .i64 1,int .i64 2,int .i64 Cf.N,int .i64 Cf.C,int .i64 Cf.R,int .i64 F,int .u64 Cf.K,.slice (some ⟨gv,0,none⟩) n n]) ?_ rfl ?_
  · simp[results,Tryz.results11,go_sem,q0,q1,q2,q3,q4,q5,q6,q7]
  exact⟨gv,rfl,HBv.o,by have:=HGV.o;have:=HR.o;have:=HR0.o;omega,HK.o⟩

theorem pfield0(lv:Int)(A:Option Addr)(n c:Nat)(hi:ByteArray)(la:Bool)(rt:Int)(w:World):(Instr.field 64 (.agg #[int .i64 lv,.slice A n c,.string hi,.bool la,int .u64 rt]) 0).run prog w=.ok (int .i64 lv) w:=by kernel_rfl
theorem height_any(F:Nat)(h4:4<=F)(h6:F<=6)(g n:Nat)(l:List Cel)(hl:l.length=n)(rt:Nat)(M0:Int)(K0:ByteArray)(h1:1<=rt)(h2:rt<=Cf.N)(P:Pg)(hH:Holds (nad F rt) l P)(hw:Wf P)(hF:P.xs.length<=F)(hlv:P.lv<=1000)(w:World)(hv:Blk w g 59 (flat3 l))(hc:cellAt l 0=((rt:Int),K0,M0)) :
    Calls prog 51 #[.agg #[int .i64 1,int .i64 2,int .i64 Cf.N,int .i64 Cf.C,int .i64 Cf.R,int .i64 F,int .u64 Cf.K,.slice (some ⟨g,0,none⟩) n n]] w λ e w'=>e=.returned (int .i64 ((P.lv:Int)+1))/\Kept (λ_=>False) w w':=by
  have HV0:=Hd hv;have HC:=Hd hc;have HH:=Hd hH;have HW:=Hd hw;have hfd:=field0 (rt:Int) M0 K0;have hwr:IntKind.i64.wrap ((P.lv:Int)+1)=(P.lv:Int)+1:=by rw[IntKind.wrap_i64];omega
  clear hv hc hH hw;go_enter func51,ntmps51;go_wp2_with fail;have hal:=(Kept.refl (λ_=>False) w).alloc (.cells #[int .i64 1,int .i64 2,int .i64 Cf.N,int .i64 Cf.C,int .i64 Cf.R,int .i64 F,int .u64 Cf.K,.slice (some ⟨g,0,none⟩) n n] 36);have HB:=Hd (Blk.new w [int .i64 1,int .i64 2,int .i64 Cf.N,int .i64 Cf.C,int .i64 Cf.R,int .i64 F,int .u64 Cf.K,.slice (some ⟨g,0,none⟩) n n] 36);have HV:=Hd (hal.blk HV0.o id);have HK:=Hd hal;clear hal HV0;generalize w.heap.size=r0 at HB ⊢;generalize w.alloc (.cells #[int .i64 1,int .i64 2,int .i64 Cf.N,int .i64 Cf.C,int .i64 Cf.R,int .i64 F,int .u64 Cf.K,.slice (some ⟨g,0,none⟩) n n] 36)=W at *;replace HV:=Hd (HV.o.of (w':=W.drew) rfl);replace HB:=Hd (HB.o.of (w':=W.drew) rfl);replace HK:=Hd HK.o.drew;refine wp_region_held_drew (S:=(λ w'=>Blk w' r0 36 [int .i64 1,int .i64 2,int .i64 Cf.N,int .i64 Cf.C,int .i64 Cf.R,int .i64 F,int .u64 Cf.K,.slice (some ⟨g,0,none⟩) n n])) (by kernel_rfl) ?_ (λ hH=>?_)
  · exact HB.o
  generalize W.drew=G0 at *;refine tkI 0 3 hH ?_ (hv:=by intro wq hSw;have y0:=(hSw).c8;exact qq1);refine tkI 1 4 hH ?_ (hv:=by intro wq hSw;have y0:=(hSw).c8;exact qq1);refine rdH 2 (some 5) rfl λ KK hK=>?_;go_simp;go_at_call 48;refine(vat_any F h4 h6 g n l hl 0 (rt:Int) M0 K0 _ HV.o HC.o).mono ?_;rintro e G ⟨rfl,hB⟩;replace HV:=Hd (hB.blk HV.o id);replace HB:=Hd (hB.blk HB.o id);replace HK:=Hd (HK.o.trans hB kk2);clear hB;refine hkO hK HB.o λ h2=>?_;replace hH:=h2;clear hK KK h2
  refine tkJ 3 6 (int .u64 rt) rfl hH ?_;refine rdH 4 (some 7) rfl λ KK hK=>?_;go_simp;go_at_call 38;refine(vpage_any F h4 h6 g n l hl rt h1 h2 P HH.o HW.o hF (by omega) _ HV.o).mono ?_;rintro e G3 ⟨A9,c9,rfl, -, -,hB⟩;have hpf:=pfield0 (P.lv:Int) A9 P.xs.length c9 P.hi P.la (P.rt:Int);replace HV:=Hd (hB.blk HV.o id);replace HB:=Hd (hB.blk HB.o id);replace HK:=Hd (HK.o.trans hB kk2);clear hB;refine hkO hK HB.o λ h2=>?_;replace hH:=h2;clear hK KK h2
  refine tkJ 5 8 (int .i64 P.lv) rfl hH ?_;refine tkJ 6 9 (int .i64 ((P.lv:Int)+1)) rfl hH ?_;refine tkI 7 2 hH ?_;refine dnH ?_;clear hH;go_wp2;go_ret;exact⟨rfl,HK.o⟩
end
end Go.Proofs.YtlkgmnjceghpiaaGreat
