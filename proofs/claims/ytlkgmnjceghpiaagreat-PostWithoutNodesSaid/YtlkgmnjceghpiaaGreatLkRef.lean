/-
 What Chain and Record of the layout's reference and Check of the page's reference answer. Condition: sizes within their limits;rows of at most 2^40 slots.
-/
import Derived.Test.YtlkgmnjceghpiaaGreatLkRead
namespace Go.Proofs.YtlkgmnjceghpiaaGreat
open Go.RowKit Go.Deep Plain
set_option linter.unusedVariables false
open _root_.Go.Proofs.Tryz
open Go.Value (int)
set_option maxHeartbeats 8000000
set_option maxRecDepth 100000
section
open Go.RowKit Go.Deep

theorem refChain_yes(T S N C R F K n:Int)(hl:Lim T S N C R F)(h1:1<=n)(h2:n<=C)(w:World) :
  Calls prog 101 #[.agg #[int .i64 T,int .i64 S,int .i64 N,int .i64 C,int .i64 R,int .i64 F,int .u64 K],int .u64 n] w λ e w'=>e=.returned (int .i64 (chainAt C (firstChain T S N F) n))/\Kept (λ_=>False) w w':=by
 have lt1:=hl.t1;have lt2:=hl.t2;have ls1:=hl.s1;have ls2:=hl.s2;have ln1:=hl.n1;have ln2:=hl.n2;have lc1:=hl.c1;have lc2:=hl.c2;have lr1:=hl.r1;have lr2:=hl.r2;have lf1:=hl.f1;have lf2:=hl.f2;have hrc:=hl.reach;have k1:=hrc.a1;have k2:=hrc.a2;have k3:=hrc.b1;have k4:=hrc.b2;have k5:=hrc.d1;have k6:=hrc.d2;clear hrc;have e1:IntKind.u64.wrap (n-1)=n-1:=IntWalk.u64_in _ (by omega);have e2:IntKind.i64.wrap (n-1)=n-1:=IntWalk.i64_in _ (by omega);go_enter func101,ntmps101;go_wp2_with (go_at_call 117;refine(refB_any T S N C R F K hl _).mono ?_;rintro e w9 ⟨rfl,hK9⟩);go_ret;exact⟨ret_int (by unfold chainAt;rw[if_pos ⟨h1,h2⟩]),((Kept.refl _ _).alloc _).trans hK9 kk2⟩

theorem refChain_no1(T S N C R F K n:Int)(hl:Lim T S N C R F)(h1:n<1)(h0:0<=n)(w:World) :
  Calls prog 101 #[.agg #[int .i64 T,int .i64 S,int .i64 N,int .i64 C,int .i64 R,int .i64 F,int .u64 K],int .u64 n] w λ e w'=>e=.returned (int .i64 (chainAt C (firstChain T S N F) n))/\Kept (λ_=>False) w w':=by
 have lt1:=hl.t1;have lt2:=hl.t2;have ls1:=hl.s1;have ls2:=hl.s2;have ln1:=hl.n1;have ln2:=hl.n2;have lc1:=hl.c1;have lc2:=hl.c2;have lr1:=hl.r1;have lr2:=hl.r2;have lf1:=hl.f1;have lf2:=hl.f2;have HS:=Hd (show chainAt C (firstChain T S N F) n = -1 by unfold chainAt;rw[if_neg (by omega)]);go_enter func101,ntmps101;go_wp2;go_ret;exact⟨ret_int HS.o.symm,(Kept.refl _ _).alloc _⟩

theorem refChain_no2(T S N C R F K n:Int)(hl:Lim T S N C R F)(h1:C<n)(h0:0<=n)(w:World) :
  Calls prog 101 #[.agg #[int .i64 T,int .i64 S,int .i64 N,int .i64 C,int .i64 R,int .i64 F,int .u64 K],int .u64 n] w λ e w'=>e=.returned (int .i64 (chainAt C (firstChain T S N F) n))/\Kept (λ_=>False) w w':=by
 have lt1:=hl.t1;have lt2:=hl.t2;have ls1:=hl.s1;have ls2:=hl.s2;have ln1:=hl.n1;have ln2:=hl.n2;have lc1:=hl.c1;have lc2:=hl.c2;have lr1:=hl.r1;have lr2:=hl.r2;have lf1:=hl.f1;have lf2:=hl.f2;have HS:=Hd (show chainAt C (firstChain T S N F) n = -1 by unfold chainAt;rw[if_neg (by omega)]);go_enter func101,ntmps101;go_wp2;go_ret;exact⟨ret_int HS.o.symm,(Kept.refl _ _).alloc _⟩

theorem refChain_any(T S N C R F K n:Int)(hl:Lim T S N C R F)(h0:0<=n)(w:World) :
  Calls prog 101 #[.agg #[int .i64 T,int .i64 S,int .i64 N,int .i64 C,int .i64 R,int .i64 F,int .u64 K],int .u64 n] w λ e w'=>e=.returned (int .i64 (chainAt C (firstChain T S N F) n))/\Kept (λ_=>False) w w':=by
 by_cases h:1<=n/\n<=C
 ·exact refChain_yes T S N C R F K n hl h.1 h.2 w
 ·exact(if h':n<1 then refChain_no1 T S N C R F K n hl h' h0 w else refChain_no2 T S N C R F K n hl (by omega) h0 w)
theorem refRec_yes(T S N C R F K n part:Int)(hl:Lim T S N C R F)(h3:0<=part)(h4:part<=1000)(h1:1<=n)(h2:n<=R)(w:World) :
  Calls prog 146 #[.agg #[int .i64 T,int .i64 S,int .i64 N,int .i64 C,int .i64 R,int .i64 F,int .u64 K],int .u64 n,int .i64 part] w λ e w'=>e=.returned (int .i64 (recAt R (firstRecord T S N C F) n part))/\Kept (λ_=>False) w w':=by
 have lt1:=hl.t1;have lt2:=hl.t2;have ls1:=hl.s1;have ls2:=hl.s2;have ln1:=hl.n1;have ln2:=hl.n2;have lc1:=hl.c1;have lc2:=hl.c2;have lr1:=hl.r1;have lr2:=hl.r2;have lf1:=hl.f1;have lf2:=hl.f2;have hrc:=hl.reach;have k1:=hrc.a1;have k2:=hrc.a2;have k3:=hrc.b1;have k4:=hrc.b2;have k5:=hrc.d1;have k6:=hrc.d2;clear hrc;have e1:IntKind.u64.wrap (n-1)=n-1:=IntWalk.u64_in _ (by omega);have e2:IntKind.i64.wrap (n-1)=n-1:=IntWalk.i64_in _ (by omega);go_enter func146,ntmps146;go_wp2_with (go_at_call 65;refine(refC_any T S N C R F K hl _).mono ?_;rintro e w9 ⟨rfl,hK9⟩);go_ret;exact⟨ret_int (by unfold recAt;rw[if_pos ⟨h1,h2⟩];omega),((Kept.refl _ _).alloc _).trans hK9 kk2⟩

theorem refRec_no1(T S N C R F K n part:Int)(hl:Lim T S N C R F)(h3:0<=part)(h4:part<=1000)(h1:n<1)(h0:0<=n)(w:World) :
  Calls prog 146 #[.agg #[int .i64 T,int .i64 S,int .i64 N,int .i64 C,int .i64 R,int .i64 F,int .u64 K],int .u64 n,int .i64 part] w λ e w'=>e=.returned (int .i64 (recAt R (firstRecord T S N C F) n part))/\Kept (λ_=>False) w w':=by
 have lt1:=hl.t1;have lt2:=hl.t2;have ls1:=hl.s1;have ls2:=hl.s2;have ln1:=hl.n1;have ln2:=hl.n2;have lc1:=hl.c1;have lc2:=hl.c2;have lr1:=hl.r1;have lr2:=hl.r2;have lf1:=hl.f1;have lf2:=hl.f2;have HS:=Hd (show recAt R (firstRecord T S N C F) n part = -1 by unfold recAt;rw[if_neg (by omega)]);go_enter func146,ntmps146;go_wp2;go_ret;exact⟨ret_int HS.o.symm,(Kept.refl _ _).alloc _⟩

theorem refRec_no2(T S N C R F K n part:Int)(hl:Lim T S N C R F)(h3:0<=part)(h4:part<=1000)(h1:R<n)(h0:0<=n)(w:World) :
  Calls prog 146 #[.agg #[int .i64 T,int .i64 S,int .i64 N,int .i64 C,int .i64 R,int .i64 F,int .u64 K],int .u64 n,int .i64 part] w λ e w'=>e=.returned (int .i64 (recAt R (firstRecord T S N C F) n part))/\Kept (λ_=>False) w w':=by
 have lt1:=hl.t1;have lt2:=hl.t2;have ls1:=hl.s1;have ls2:=hl.s2;have ln1:=hl.n1;have ln2:=hl.n2;have lc1:=hl.c1;have lc2:=hl.c2;have lr1:=hl.r1;have lr2:=hl.r2;have lf1:=hl.f1;have lf2:=hl.f2;have HS:=Hd (show recAt R (firstRecord T S N C F) n part = -1 by unfold recAt;rw[if_neg (by omega)]);go_enter func146,ntmps146;go_wp2;go_ret;exact⟨ret_int HS.o.symm,(Kept.refl _ _).alloc _⟩

theorem refRec_any(T S N C R F K n part:Int)(hl:Lim T S N C R F)(h3:0<=part)(h4:part<=1000)(h0:0<=n)(w:World) :
  Calls prog 146 #[.agg #[int .i64 T,int .i64 S,int .i64 N,int .i64 C,int .i64 R,int .i64 F,int .u64 K],int .u64 n,int .i64 part] w λ e w'=>e=.returned (int .i64 (recAt R (firstRecord T S N C F) n part))/\Kept (λ_=>False) w w':=by
 by_cases h:1<=n/\n<=R
 ·exact refRec_yes T S N C R F K n part hl h3 h4 h.1 h.2 w
 ·exact(if h':n<1 then refRec_no1 T S N C R F K n part hl h3 h4 h' h0 w else refRec_no2 T S N C R F K n part hl h3 h4 (by omega) h0 w)
end

section

def AscI(xs:List Sl):Prop:=∀(i:Nat) (x y:Sl),xs[i]? = some x->xs[i+1]? = some y->lt x y.1=true
def RefI(xs:List Sl):Prop:=∀(i:Nat) (x:Sl),xs[i]? = some x->x.2≠0
def SizI(lv:Int)(n:Nat)(f:Int):Prop:=0<=lv/\(n:Int)<=f/\(lv=0\/0<n)
def EndI(xs:List Sl)(hi:ByteArray)(la:Bool)(rt:Nat):Prop:=(la=true->hi=⟨#[]⟩/\rt=0)/\(la=false->rt≠0/\∀ x∈xs,lt x hi=true)
def Good(lv:Int)(n:Nat)(xs:List Sl)(hi:ByteArray)(la:Bool)(rt:Nat)(f:Int):Prop:=SizI lv n f/\AscI xs/\RefI xs/\EndI xs hi la rt

theorem ascI_of:∀{xs:List Sl},Asc xs->AscI xs
 | [],_,i,x,y,hx,_=>by simp at hx
 | [a],_,i,x,y,_,hy=>by simp at hy
 | a::b::r,h,0,x,y,hx,hy=>by simp at hx hy;subst hx;subst hy;exact h.1
 | a::b::r,h,i+1,x,y,hx,hy=>ascI_of (xs:=b::r) h.2 i x y (by simpa using hx) (by simpa using hy)
theorem bool_false{b:Bool}{p:Prop}(h:b=true↔p)(n:¬ p):b=false:=by cases b;rfl;exact absurd (h.1 rfl) n
theorem bool_true{b:Bool}{p:Prop}(h:b=true↔p)(n:p):b=true:=h.2 n
theorem bool_ex(p:Prop):∃ b:Bool,b=true↔p:=by
 by_cases h:p
 ·exact⟨true,by simp[h]⟩
 ·exact⟨false,by simp[h]⟩

theorem empty_list{s:ByteArray}(h:s≠⟨#[]⟩):s.toList.isEmpty=false:=by
 cases hx:s.toList.isEmpty
 ·rfl
 ·rw[List.isEmpty_iff] at hx
  have e:(⟨#[]⟩:ByteArray).toList=[]:=by rw[Lib.toList_data]
  exact absurd (toList_inj (hx.trans e.symm)) h
end

section

theorem refAscending_any(A:Option Addr)(c:Nat)(xs:List Sl)(w:World)(n:Nat)(hn:xs.length=n)(h40:n<=1099511627776)(hR:Rs w A c xs)(b:Bool)(hb:b=true↔AscI xs) :
  Calls prog 147 #[.slice A n c] w λ e w'=>e=.returned (.bool b)/\Below w.heap.size w w':=by
 have HB:=Hd hb;have HR:=Hd hR;clear hb hR;go_enter func147,ntmps147;go_wp2_with fail;go_loopw [3] (λ i wr=>∃ j:Nat,1<=j/\(j<=n\/j=1)/\i=int .i64 j/\(∀(i:Nat) (x y:Sl),i+1<j->xs[i]? = some x->xs[i+1]? = some y->lt x y.1=true)/\Below w.heap.size w wr) (λ i _=>n-(intOf i).toNat)
 case atStart=>exact⟨1,Nat.le_refl _,.inr rfl,rfl,λ i _ _ h=>by omega,Below.refl _ _⟩
 case round =>
  obtain⟨j,hj,hjn,rfl,hup,hbel⟩:=hrel;have HU:=Hd hup;have HL:=Hd hbel;clear hup
  by_cases hlt:j<n
  ·obtain⟨m,rfl⟩:∃ m,j=m+1:=⟨j-1,by omega⟩
   obtain⟨x,hx⟩:∃ x,xs[m]? = some x:=⟨_,List.getElem?_eq_getElem (by omega)⟩;obtain⟨y,hy⟩:∃ y,xs[m+1]? = some y:=⟨_,List.getElem?_eq_getElem (by omega)⟩;obtain⟨g,off,rfl,hg,hcell⟩:=(HR.o.below hbel (Nat.le_refl _)).at (by omega);obtain⟨c0,c1⟩:=hcell m x hx;obtain⟨d0,d1⟩:=hcell (m+1) y hy;have HX:=Hd hx;have HY:=Hd hy;clear hcell hx hy hbel hjn;cases hlv:lt x y.1
   ·obtain rfl:=bool_false HB.o (λ h=>by have:=h m x y HX.o HY.o;rw[hlv] at this;cases this)
    cases hl2:lt y x.1
    ·have he:(y.1.toList==x.1.toList)=true:=by rw[ltB_tri _ _ hl2 hlv];simp
     have hle:Op.bytesLess y.1.toList x.1.toList=false:=(bytesLess_ltB _ _).trans hl2;clear hlv hl2;go_wp2_with fail;go_quiet (fail);go_wp2;go_ret;exact⟨rfl,below_drewN HL.o _⟩
    ·have hle:Op.bytesLess y.1.toList x.1.toList=true:=(bytesLess_ltB _ _).trans hl2
     clear hlv hl2;go_wp2_with fail;go_quiet (fail);go_wp2;go_ret;exact⟨rfl,below_drewN HL.o _⟩
   ·have hl2:lt y x.1=false:=ltB_asymm _ _ hlv
    have he:(y.1.toList==x.1.toList)=false:=by
     cases hx:y.1.toList==x.1.toList
     ·rfl
     ·rw[beq_iff_eq] at hx
      have:lt x y.1=false:=by unfold lt;rw[hx,ltB_self]
      rw[hlv] at this;cases this
    have hle:Op.bytesLess y.1.toList x.1.toList=false:=(bytesLess_ltB _ _).trans hl2;have hU2:∀(i:Nat) (x y:Sl),i+1<m+1+1->xs[i]? = some x->xs[i+1]? = some y->lt x y.1=true:=λ i a b hi ha hb=>by
     by_cases him:i=m
     ·subst him;rw[HX.o] at ha;rw[HY.o] at hb;cases ha;cases hb;exact hlv
     ·exact HU.o i a b (by omega) ha hb
    have HU2:=Hd hU2;clear hU2 hlv hl2;go_wp2_with fail;go_quiet (fail);go_wp2;go_roundw
    case rel=>exact⟨m+1+1,by omega,.inl (by omega),by go_num,HU2.o,below_drewN HL.o _⟩
    case measure=>simp[intOf];omega
  ·obtain rfl:=bool_true HB.o (λ i x y hx hy=>HU.o i x y (by have:=(List.getElem?_eq_some_iff.1 hy).1;omega) hx hy)
   have hd:decide ((j:Int)<(n:Int))=false:=by simp;omega
   clear hjn;go_wp2;go_ret;exact⟨rfl,hbel⟩

def Drawn(W wr:World):Prop:=∃ q,wr=W.drewN q
theorem Drawn.more{W wr:World}(h:Drawn W wr)(q:Nat):Drawn W (wr.drewN q):=by obtain⟨p,rfl⟩:=h;exact⟨p+q,by rw[World.drewN_drewN]⟩
theorem Drawn.below{W wr:World}(h:Drawn W wr)(B:Nat):Below B W wr:=by obtain⟨q,rfl⟩:=h;exact below_drewN (Below.refl B W) q
theorem Blk.drawn{w w1:World}{b:Nat}{t:TypeId}{xs:List Value}(h:Blk w b t xs)(hd:Drawn w w1):Blk w1 b t xs:=by obtain⟨q,rfl⟩:=hd;exact h
theorem end_rest{xs:List Sl}{hi:ByteArray}{la:Bool}{rt:Nat}(hall:∀(i:Nat) (x:Sl),xs[i]? = some x->x.2≠0/\(la=false->lt x hi=true)):RefI xs/\(la=false->∀ x∈xs,lt x hi=true) :=
 ⟨λ i x hx=>(hall i x hx).1,λ h x hx=>by obtain⟨i,hi',rfl⟩:=List.getElem_of_mem hx;exact(hall i _ (List.getElem?_eq_getElem hi')).2 h⟩

theorem refCheck_any(lv:Int)(A:Option Addr)(c:Nat)(hi:ByteArray)(la:Bool)(rt:Nat)(xs:List Sl)(f:Int)(w:World)(n:Nat)(hn:xs.length=n)(h40:n<=1099511627776)(hR:Rs w A c xs)(b:Bool)(hb:b=true↔Good lv n xs hi la rt f) :
  Calls prog 105 #[.agg #[int .i64 lv,.slice A n c,.string hi,.bool la,int .u64 rt],int .i64 f,.bool false] w λ e w'=>e=.returned (.bool b)/\Below w.heap.size w w':=by
 obtain⟨P0,B0,Z0⟩:=box_one w [int .i64 lv,.slice A n c,.string hi,.bool la,int .u64 rt] 64;have HB:=Hd hb;have HP:=Hd P0;have HB0:=Hd B0;have HZ:=Hd Z0;have HR:=Hd hR;clear hb P0 B0 Z0 hR
 by_cases h1:lv<0
 ·obtain rfl:=bool_false HB.o (λ h=>by have:=h.1.1;omega)
  go_enter func105,ntmps105;go_wp2;go_ret;exact⟨rfl,HB0.o⟩
 have h1':decide (lv<0)=false:=by simpa using h1
 by_cases h2:f<(n:Int)
 ·obtain rfl:=bool_false HB.o (λ h=>by have:=h.1.2.1;omega)
  go_enter func105,ntmps105;go_wp2;go_ret;exact⟨rfl,HB0.o⟩
 have h2':decide (f<(n:Int))=false:=by simpa using h2
 by_cases h3:0<lv/\n=0
 ·obtain rfl:=bool_false HB.o (λ h=>by have:=h.1.2.2;omega)
  have h3a:decide (0<lv)=true:=by simpa using h3.1
  have h3b:((n:Int)==0)=true:=by simp;omega
  clear h3;go_enter func105,ntmps105;go_wp2;go_ret;exact⟨rfl,HB0.o⟩
 have hsiz:SizI lv n f:=⟨by omega,by omega,by omega⟩;have HS:=Hd hsiz;clear hsiz;obtain⟨b2,hb2⟩:=bool_ex (AscI xs);have H2:=Hd hb2;clear hb2;have h3':(decide (0<lv)=false)\/(decide (0<lv)=true/\((n:Int)==0)=false):=by
  by_cases hl:0<lv
  ·exact .inr ⟨by simpa using hl,by simp;omega⟩
  ·exact .inl (by simpa using hl)
 clear h3;rcases h3' with h3a|⟨h3a,h3b⟩
 all_goals
  go_enter func105,ntmps105;go_wp2_with fail;refine(refAscending_any _ _ xs _ n hn h40 (HR.o.below HB0.o (Nat.le_refl _)) b2 H2.o).mono ?_;rintro e w1 ⟨rfl,hB1⟩;rw[HZ.o] at hB1;have HP1:=Hd (HP.o.below hB1 (by omega));have HB1:=Hd (HB0.o.trans (hB1.mono (by omega)));have hs1:=hB1.size;rw[HZ.o] at hs1;clear hB1;cases b2
  ·obtain rfl:=bool_false HB.o (λ h=>by have:=H2.o.2 h.2.1;cases this)
   go_wp2;go_ret;exact⟨rfl,HB1.o⟩
  ·have HA:=Hd (H2.o.1 rfl)
   clear H2 HP HB0 HZ;go_wp2_with fail;go_loopw [7] (λ i wr=>∃ j:Nat,j<=n/\i=int .i64 j/\(∀(i:Nat) (x:Sl),i<j->xs[i]? = some x->x.2≠0/\(la=false->lt x hi=true))/\Drawn w1 wr) (λ i _=>n-(intOf i).toNat)
   case atStart=>exact⟨0,Nat.zero_le _,rfl,λ i _ h=>by omega,0,rfl⟩
   case round =>
    obtain⟨j,hjn,rfl,hup,hdr⟩:=hrel;have hBr:=HB1.o.trans (hdr.below _);have hPr:=HP1.o.drawn hdr;have x1:=hPr.k 1 rfl;have x2:=hPr.k 2 rfl;have x3:=hPr.k 3 rfl;have x4:=hPr.k 4 rfl;have HU:=Hd hup;have HD:=Hd hdr;have HBr:=Hd hBr;clear hup hPr
    by_cases hlt:j<n
    ·obtain⟨x,hx⟩:∃ x,xs[j]? = some x:=⟨_,List.getElem?_eq_getElem (by omega)⟩
     obtain⟨g,off,rfl,hg,hcell⟩:=(HR.o.below hBr (Nat.le_refl _)).at (by omega);obtain⟨c0,c1⟩:=hcell j x hx;have HX:=Hd hx;clear hcell hx hBr hdr
     by_cases hx0:x.2=0
     ·have h0:((x.2:Int)==0)=true:=by simp;omega
      obtain rfl:=bool_false HB.o (λ h=>h.2.2.1 j x HX.o hx0);clear hx0;go_wp2_with fail;go_quiet (fail);go_wp2;go_ret;exact⟨rfl,below_drewN HBr.o _⟩
     ·have h0:((x.2:Int)==0)=false:=by simp;omega
      cases la
      ·have hl:Op.bytesLess x.1.toList hi.toList=lt x hi:=bytesLess_ltB _ _
       cases hlv:lt x hi
       ·obtain rfl:=bool_false HB.o (λ h=>by have:=(h.2.2.2.2 rfl).2 x (List.mem_of_getElem? HX.o);rw[hlv] at this;cases this)
        rw[hlv] at hl;clear hx0;go_wp2_with fail;go_quiet (fail);go_wp2;go_ret;exact⟨rfl,below_drewN HBr.o _⟩
       ·rw[hlv] at hl
        have hU2:∀(i:Nat) (x:Sl),i<j+1->xs[i]? = some x->x.2≠0/\(false=false->lt x hi=true):=λ i a hi ha=>by
         by_cases him:i=j
         ·subst him;rw[HX.o] at ha;cases ha;exact⟨hx0,λ_=>hlv⟩
         ·exact HU.o i a (by omega) ha
        have HU2:=Hd hU2;clear hU2 hx0 hlv;go_wp2_with fail;go_quiet (fail);go_wp2;go_roundw
        case rel=>exact⟨j+1,by omega,by go_num,by first|exact HU2.o|exact(λ i x h1 h2=>by simpa using HU2.o i x h1 h2),HD.o.more _⟩
        case measure=>simp[intOf];omega
      ·have hU2:∀(i:Nat) (x:Sl),i<j+1->xs[i]? = some x->x.2≠0/\(true=false->lt x hi=true):=λ i a hi ha=>by
        by_cases him:i=j
        ·subst him;rw[HX.o] at ha;cases ha;exact⟨hx0,λ h=>(by cases h)⟩
        ·exact HU.o i a (by omega) ha
       have HU2:=Hd hU2;clear hU2 hx0;go_wp2_with fail;go_quiet (fail);go_wp2;go_roundw
       case rel=>exact⟨j+1,by omega,by go_num,by first|exact HU2.o|exact(λ i x h1 h2=>by simpa using HU2.o i x h1 h2),HD.o.more _⟩
       case measure=>simp[intOf];omega
    ·have hrest:=end_rest (xs:=xs) (hi:=hi) (la:=la) (rt:=rt) (λ i x hx=>HU.o i x (by have:=(List.getElem?_eq_some_iff.1 hx).1;omega) hx)
     have HE:=Hd hrest;clear hrest hdr HU;cases la
     ·by_cases h0:rt=0
      ·obtain rfl:=bool_false HB.o (λ h=>(h.2.2.2.2 rfl).1 h0)
       have h0':((rt:Int)!=0)=false:=by simp;omega
       clear h0;go_wp2;go_ret;exact⟨rfl,HBr.o⟩
      ·obtain rfl:=bool_true HB.o ⟨HS.o,HA.o,HE.o.1,λ h=>(by cases h),λ_=>⟨h0,HE.o.2 rfl⟩⟩
       have h0':((rt:Int)!=0)=true:=by simp;omega
       clear h0;go_wp2;go_ret;exact⟨rfl,HBr.o⟩
     ·by_cases hh:hi=⟨#[]⟩
      ·subst hh
       by_cases h0:rt=0
       ·obtain rfl:=bool_true HB.o ⟨HS.o,HA.o,HE.o.1,λ_=>⟨rfl,h0⟩,λ h=>(by cases h)⟩
        have h0':((rt:Int)==0)=true:=by simp;omega
        clear h0;go_wp2;go_ret;exact⟨rfl,HBr.o⟩
       ·obtain rfl:=bool_false HB.o (λ h=>h0 (h.2.2.2.1 rfl).2)
        have h0':((rt:Int)==0)=false:=by simp;omega
        clear h0;go_wp2;go_ret;exact⟨rfl,HBr.o⟩
      ·obtain rfl:=bool_false HB.o (λ h=>hh (h.2.2.2.1 rfl).1)
       have hh':=empty_list hh;clear hh;go_wp2;go_ret;exact⟨rfl,HBr.o⟩
end
end Go.Proofs.YtlkgmnjceghpiaaGreat
